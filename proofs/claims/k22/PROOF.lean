import PyProof.Rows.All
import Wide.All
import OpenK.AllK
import Wide.FinOn
import HandS.ForMost
import HandS.IsInst
import HandS.Codes
import HandS.Set
import HandS.SetBool
import HandS.SetKeys
import PyProof.Rows.SortShellAny
import HandS.More
import HandS.Comp
import PyProof.Rows.SetFrom
import KE.GoesMore
import KE.GoesEnum
import HandS.DictComp
import KE.KDictList
import HandS.Property
import PyProof.DictUpdate
import PyProof.FactsDict
import HandS.Dict
import PyProof.EvalArms
import HandS.Defaults
import KE.KOpsOwn
import PyProof.InstEq
import HandS.List
import HandS.Words
import HandS.ForExc
import HandS.ExcInit
import HandS.ClsMeth
import HandS.Iter
import HandS.TryMany
import PyProof.EqAt
import PyProof.EqKinds
import PyProof.NeKinds
import HandS.TupSets
import KE.KeyNested
import KE.KDictKeyed
import KE.SortData
import KE.OsArith
import KE.KBits
import HandS.Zip
import HandS.ListItems
import HandS.SortInts
import KE.SortLaws
import PyProof.WalksMore
import HandS.FStr
import HandS.WideBits
import HandS.Deep
import HandS.TryOnly
import HandS.Finally
import HandS.ExcField
import HandS.TupAny
import HandS.Style
import PySem.Challenge.RW_knownlate_k22_refused_sights
set_option Elab.async false
set_option linter.all false
set_option maxRecDepth 100000
set_option maxHeartbeats 4000000
namespace Kn
open PySem PySem.Spec PyProof.Rows L2
/-! ### heaps -/
theorem same_upd {H : Hp} {p : Addr} {o : HO} (h : H p = none) : Same H (upd H p o) := fun b x e => by
  rw [upd_ne (ne_of_none e h)]
  exact e
theorem same_set {H0 H : Hp} {p : Addr} {o : HO} (h : H0 p = none) (s : Same H0 H) : Same H0 (upd H p o) := fun b x e => by
  rw [upd_ne (ne_of_none e h)]
  exact s b x e
theorem Same.none {H H' : Hp} {p : Addr} (s : Same H H') (h : H' p = none) : H p = none := s.free h
theorem seqLt {K : PySem.W.Frag} {H H' : Hp} {a : Addr} {xs : List V} (e : Same H H') (h : SqT K H a xs) : SqT K H' a xs := by
  rcases h with (h | ⟨o, h⟩) | h
  · exact .inl (.inl (e _ _ h))
  · exact .inl (.inr ⟨o, e _ _ h⟩)
  · exact .inr h
theorem take_more {α : Type} {l : List α} {i : Nat} {x : α} (h : l[i]? = some x) : l.take (i + 1) = l.take i ++ [x] := by
  rw [List.take_add_one, h]; rfl
theorem small {n : Nat} (h : n ≤ 100000) : n < sizeLine := Nat.lt_of_le_of_lt h (by decide)
theorem smallE {n : Nat} (h : n ≤ 100000) : n ≤ sizeLine := Nat.le_of_lt (small h)
/-- a comprehension over a text's signs -/
theorem lc_text {x : Str} {g : TG} {tt : TT} {te : TE} {vs : List Nat} {σ : L2.St} {H1 : Hp} {D : Addr} {Qd : Hp → Prop} (Pv : Nat → Hp → Prop) (h0 : Pv 0 (upd H1 D (.lst [])))
    (hs : ∀ i c H, x.cps.toList[i]? = some c → Pv i H → g (.str ⟨#[c]⟩) (wipe σ vs) H fun σ2 H2 => wipe σ2 vs = wipe σ vs ∧ tt σ2 H2 fun b H3 =>
      if b = true then te σ2 H3 fun y H4 => ∃ acc, H4 D = some (.lst acc) ∧ acc.length < sizeLine ∧ Pv (i + 1) (upd H4 D (.lst (acc ++ [y]))) else Pv (i + 1) H3) (hd : ∀ H, Pv x.cps.toList.length H → Qd H) :
    ∃ W : Nat → Nat → Hp → Prop, (∃ m, W 0 m (upd H1 D (.lst []))) ∧ ∀ i m H, W i m H →
      ((Its x).stop i H ∧ Qd H) ∨ ((Its x).go i H ∧ ∃ Nx : Hp → Prop, (∀ H', Nx H' → ∃ m', m' < m ∧ W (i + 1) m' H') ∧ ∀ v H', (Its x).yld i H v H' → g v (wipe σ vs) H' fun σ2 H2 => wipe σ2 vs = wipe σ vs ∧ tt σ2 H2 fun b H3 =>
        if b = true then te σ2 H3 fun y H4 => ∃ acc, H4 D = some (.lst acc) ∧ acc.length < sizeLine ∧ Nx (upd H4 D (.lst (acc ++ [y]))) else Nx H3) := by
  refine ⟨fun i m H => m = x.cps.size - i ∧ i ≤ x.cps.size ∧ Pv i H, ⟨x.cps.size, by simp, Nat.zero_le _, h0⟩, ?_⟩
  rintro i m H ⟨rfl, hi, p⟩
  by_cases hlt : i < x.cps.size
  · refine .inr ⟨hlt, Pv (i + 1), fun H' p' => ⟨x.cps.size - (i + 1), by omega, rfl, hlt, p'⟩, fun v H' y => ?_⟩
    obtain ⟨rfl, c, hc, rfl⟩ := y
    exact hs i c _ (by simpa using hc) p
  · have e : i = x.cps.size := by omega
    subst e
    exact .inl ⟨Nat.le_refl _, hd H (by simpa using p)⟩
end Kn

set_option Elab.async false
set_option linter.all false
set_option maxRecDepth 100000
set_option maxHeartbeats 4000000
/-! Sets whose members are told in a list: made, filled, told as a sorted list; set comprehensions of ints and texts. -/
namespace KnS
open PySem PySem.Spec PyProof.Rows L2
section
variable {κ : Type} [DecidableEq κ] {P : Program} {w : World} {knd : PySem.KeyKind P w κ}
/-- one entry of a table, of the key k -/
def Ent (knd : PySem.KeyKind P w κ) (k : κ) (e : Int × Value) : Prop := knd.is k e.2 = true ∧ e.1 = knd.hash k ∧ e.2.scannable = true
theorem paired_perm {α β : Type} {F : α → β → Prop} {l m : List β} (p : l.Perm m) : ∀ {ks : List α}, Paired F ks l → ∃ ks', ks'.Perm ks ∧ Paired F ks' m := by
  induction p with
  | nil => intro ks h; exact ⟨ks, .refl _, h⟩
  | cons x _ ih =>
    intro ks h
    cases h with
    | cons r t =>
      obtain ⟨ks', q, t'⟩ := ih t
      exact ⟨_, .cons _ q, .cons r t'⟩
  | swap x y l =>
    intro ks h
    cases h with
    | cons r t =>
      cases t with
      | cons r' t' => exact ⟨_, .swap _ _ _, .cons r' (.cons r t')⟩
  | trans _ _ ih1 ih2 =>
    intro ks h
    obtain ⟨k1, q1, h1⟩ := ih1 h
    obtain ⟨k2, q2, h2⟩ := ih2 h1
    exact ⟨k2, q2.trans q1, h2⟩
theorem ents_elems {ks : List κ} {l : List (Int × Value)} (h : Paired (Ent knd) ks l) : ElemsOf knd l := by
  induction h with
  | nil => exact fun e he => nomatch he
  | cons r _ ih =>
    intro e he
    rcases List.mem_cons.mp he with z | z
    · rw [z]; exact ⟨⟨_, r.1, r.2.1⟩, r.2.2⟩
    · exact ih e z
theorem ents_find {ks : List κ} {l : List (Int × Value)} (h : Paired (Ent knd) ks l) {k : κ} : (∃ e ∈ l, knd.is k e.2 = true) ↔ k ∈ ks := by
  induction h with
  | nil => exact ⟨fun ⟨e, he, _⟩ => (nomatch he), fun z => nomatch z⟩
  | @cons k' e ks l r _ ih =>
    constructor
    · rintro ⟨e', he, q⟩
      rcases List.mem_cons.mp he with z | z
      · rw [z] at q
        rw [knd.inj e.2 k k' q r.1]
        exact List.mem_cons_self
      · exact List.mem_cons_of_mem _ (ih.mp ⟨e', z, q⟩)
    · intro z
      rcases List.mem_cons.mp z with z | z
      · exact ⟨e, List.mem_cons_self, z ▸ r.1⟩
      · obtain ⟨e', he, q⟩ := ih.mpr z
        exact ⟨e', List.mem_cons_of_mem _ he, q⟩
end
/-- the set at a holds just the keys ks, each once; its table can be walked -/
def Holds (P : Program) (w : World) (h : Heap) (a : Addr) (ks : List Key) : Prop :=
  ∃ o es ep t ls, (h.get? a = some o ∧ o.ExactSet ∧ o.data = .set es ep t) ∧ (Paired (Ent (mixKind P w)) ls es.toList ∧ ls.Perm ks ∧ ks.Nodup) ∧
    (es.size < scanBound ∧ t.fits es.size = true) ∧ Ris t.place.toList ∧ (w.params.followText "set-order" = true ∨ t.led = true)
/-- .. as a tracked thing -/
def SetL (P : Program) (w : World) (a : Addr) (ks : List Key) : HO := .ext fun h => Holds P w h a ks
def hasL (ks : List Key) (k : Key) : Bool := ks.any fun j => decide (j = k)
theorem hasL_iff {ks : List Key} {k : Key} : hasL ks k = true ↔ k ∈ ks := by
  unfold hasL
  rw [List.any_eq_true]
  exact ⟨fun ⟨j, hj, e⟩ => of_decide_eq_true e ▸ hj, fun h => ⟨k, h, decide_eq_true rfl⟩⟩
def addL (ks : List Key) (k : Key) : List Key := if hasL ks k = true then ks else ks ++ [k]
section
variable {P : Program} {w : World} {A : Around} {E : Value → Shared → Prop} {s : Shared} {a : Addr} {ks : List Key}
theorem Holds.keep {h h' : Heap} (R : Holds P w h a ks) (k : ∀ o, h.get? a = some o → h'.get? a = some o) : Holds P w h' a ks :=
  let ⟨o, es, ep, t, ls, ⟨ho, r⟩, q⟩ := R; ⟨o, es, ep, t, ls, ⟨k o ho, r⟩, q⟩
theorem Holds.there {h : Heap} (R : Holds P w h a ks) : ∃ o, h.get? a = some o ∧ o.cls = .type "set" := let ⟨o, _, _, _, _, ⟨ho, hx, _⟩, _⟩ := R; ⟨o, ho, hx.1⟩
theorem Holds.new {H : Hp} {h : Heap} (R : Holds P w h a ks) : ObjOk P w H h a (SetL P w a ks) :=
  ⟨R, let ⟨o, ho, _⟩ := R.there; ⟨o, ho⟩, fun _ _ p k => p.keep k⟩
theorem mem_addL {k x : Key} : x ∈ addL ks k ↔ x ∈ ks ∨ x = k := by
  unfold addL
  by_cases z : k ∈ ks
  · rw [if_pos (hasL_iff.mpr z)]
    exact ⟨.inl, fun y => y.elim id fun e => e ▸ z⟩
  · rw [if_neg fun q => z (hasL_iff.mp q), List.mem_append, List.mem_singleton]
theorem stored {h : Heap} {o : Obj} {es es' : Array (Int × Value)} {ep : Nat} {t t' : SetTable} (ho : h.get? a = some o) (hd : o.data = .set es ep t) :
    (h.update a (Obj.putSet es' t')).get? a = some { o with data := .set es' (ep + 1) t' } :=
  (Heap.get?_update_self (Obj.putSet es' t') ho (by rw [putSet_of es' t' hd] <;> rfl)).trans (by rw [putSet_of es' t' hd])
/-- what an add does behind its search, where the key is new -/
theorem laid {k : Key} {x : Value} (hk : (mixKind P w).is k x = true) (hsc : x.scannable = true) {o : Obj} {es : Array (Int × Value)} {ep : Nat} {t : SetTable} {ls : List Key}
    (ho : s.heap.get? a = some o) (hx : o.ExactSet) (hd : o.data = .set es ep t) (pe : Paired (Ent (mixKind P w)) ls es.toList) (pm : ls.Perm ks) (nd : ks.Nodup) (room : es.size + 1 < scanBound)
    {es1 : Array (Int × Value)} {t1 : SetTable} (p1 : es1.toList.Perm (es.push ((mixKind P w).hash k, x)).toList) (f1 : t1.fits es1.size = true) (r1 : Ris t1.place.toList) (l1 : w.params.followText "set-order" = true ∨ t1.led = true) (hnk : k ∉ ks) :
    es1.size < scanBound ∧ Holds P w (s.heap.update a (Obj.putSet es1 t1)) a (ks ++ [k]) := by
  have z1 : es1.size = es.size + 1 := by
    have q := p1.length_eq
    rw [Array.length_toList, Array.length_toList, Array.size_push] at q
    exact q
  have pe' : Paired (Ent (mixKind P w)) (ls ++ [k]) (es.push ((mixKind P w).hash k, x)).toList := by
    rw [Array.toList_push]
    exact pe.snoc ⟨hk, rfl, hsc⟩
  obtain ⟨ls1, q1, pe1⟩ := paired_perm p1.symm pe'
  have nd1 : (ks ++ [k]).Nodup := List.nodup_append.mpr ⟨nd, List.nodup_cons.mpr ⟨(fun z => nomatch z), List.nodup_nil⟩, fun u hu v hv e => hnk (by rw [← List.mem_singleton.mp hv, ← e]; exact hu)⟩
  exact ⟨by omega, _, es1, _, t1, ls1, ⟨stored ho hd, hx, rfl⟩, ⟨pe1, q1.trans (pm.append_right [k]), nd1⟩, ⟨by omega, f1⟩, r1, l1⟩
/-- .. and a table that is laid anew -/
theorem relaid {o : Obj} {es1 es2 : Array (Int × Value)} {ep : Nat} {t1 t2 : SetTable} {h : Heap} (R : Holds P w h a ks) (ho : h.get? a = some o) (hd : o.data = .set es1 ep t1)
    (p2 : es2.toList.Perm es1.toList) (f2 : t2.fits es2.size = true) (r2 : Ris t2.place.toList) (l2 : t1.led = true → t2.led = true) : Holds P w (h.update a (Obj.putSet es2 t2)) a ks := by
  obtain ⟨o', es, ep', t, ls, ⟨ho', hx, hd'⟩, ⟨pe, pm, nd⟩, ⟨hb, _⟩, _, hl⟩ := R
  obtain rfl : o = o' := Option.some.inj (ho.symm.trans ho')
  rw [hd] at hd'
  cases hd'
  obtain ⟨ls2, q2, pe2⟩ := paired_perm p2.symm pe
  have z : es2.size = es1.size := by
    have q := p2.length_eq
    rw [Array.length_toList, Array.length_toList] at q
    exact q
  exact ⟨_, es2, _, t2, ls2, ⟨stored ho hd, hx, rfl⟩, ⟨pe2, q2.trans pm, nd⟩, ⟨z ▸ hb, f2⟩, r2, hl.imp id l2⟩
theorem Holds.size {h : Heap} (R : Holds P w h a ks) {o : Obj} {es : Array (Int × Value)} {ep : Nat} {t : SetTable} (ho : h.get? a = some o) (hd : o.data = .set es ep t) : es.size = ks.length := by
  obtain ⟨o', es', ep', t', ls, ⟨ho', _, hd'⟩, ⟨pe, pm, _⟩, _⟩ := R
  obtain rfl : o = o' := Option.some.inj (ho.symm.trans ho')
  rw [hd] at hd'
  cases hd'
  rw [← Array.length_toList, ← pe.length, pm.length_eq]
theorem add_scan {k : Key} {x : Value} (hk : (mixKind P w).is k x = true) (hsc : x.scannable = true) (R : Holds P w s.heap a ks) (room : ks.length + 1 < scanBound) {Q : Bool → Shared → Prop}
    (hQ : ∀ b h', Heap.SameBut a s.heap h' → Holds P w h' a (addL ks k) → Q b { s with heap := h' }) : wpAny (model P w) A (setAddHashed a x ((mixKind P w).hash k)) Q E s := by
  have R0 := R
  obtain ⟨o, es, ep, t, ls, ⟨ho, hx, hd⟩, ⟨pe, pm, nd⟩, ⟨hb, hf⟩, hr, hl⟩ := R
  have el := ents_elems pe
  have sz := R0.size ho hd
  have fd : (∃ e ∈ es.toList, (mixKind P w).is k e.2 = true) ↔ k ∈ ks := (ents_find pe).trans pm.mem_iff
  unfold setAddHashed setAddHashedIn
  refine wpAny_holding (wpAny_bind (wpAny_setState_of ho hd hf ?_))
  show wpAny _ _ (if byScan x es = true then _ else _) _ _ _
  rw [byScan_of hsc hb el]
  refine wpAny_bind (wpAny_bind (wpAny_rule (wpAny_bind (wpAny_setScan_of hk ho hd hf el ?_))))
  cases ix : es.toList.findIdx? (fun e => (mixKind P w).is k e.2) with
  | some j =>
    obtain ⟨hj, pj, _⟩ := List.findIdx?_eq_some_iff_getElem.mp ix
    have hin : k ∈ ks := fd.mp ⟨_, List.getElem_mem hj, pj⟩
    refine wpAny_pure (wpAny_pure (hQ _ s.heap (Heap.SameBut.refl a s.heap) ?_))
    rw [addL, if_pos (hasL_iff.mpr hin)]
    exact R0
  | none =>
    have hnk : k ∉ ks := fun z => by
      obtain ⟨e, he, q⟩ := fd.mpr z
      have := List.findIdx?_eq_none_iff.mp ix e he
      rw [q] at this
      cases this
    have p1 := layNew_perm t es ((mixKind P w).hash k) x
    have f1 := layNew_fits t es ((mixKind P w).hash k) x
    have r1 := layNew_ris t es ((mixKind P w).hash k) x hr
    have l1 := layNew_led t es ((mixKind P w).hash k) x
    dsimp only
    generalize layNew t es ((mixKind P w).hash k) x = Z at p1 f1 r1 l1 ⊢
    obtain ⟨es1, t1, was, gave⟩ := Z
    dsimp only at p1 f1 r1 l1 ⊢
    have gate : ∀ (b : Bool) {s' : Shared} {Q' : Unit → Shared → Prop}, Q' () s' → wpAny (model P w) A (match b with | true => rule "set.scan.the-table-gave-way" | false => pure ()) Q' E s' := fun b => by
      cases b
      · exact fun q => wpAny_pure q
      · exact fun q => wpAny_rule q
    have e1 : addL ks k = ks ++ [k] := if_neg fun q => hnk (hasL_iff.mp q)
    have more : ∀ {g : Bool → Sem Unit} (_ : ∀ (b : Bool) (s' : Shared) (Q' : Unit → Shared → Prop), Q' () s' → wpAny (model P w) A (g b) Q' E s') (t2 : SetTable), t2.fits es1.size = true → Ris t2.place.toList → t2.led = t1.led →
        wpAny (model P w) A (do
          storeSet a es1 t2
          if (!was && t2.tooFull) = true then do
            g (relayAll t2 es1 (SetTable.grown es1.size)).2.2
            storeSet a (relayAll t2 es1 (SetTable.grown es1.size)).1 (relayAll t2 es1 (SetTable.grown es1.size)).2.1
            pure (some true)
          else pure (some true)) (fun r s' => ∃ h', s' = { s with heap := h' } ∧ r = some true ∧ Heap.SameBut a s.heap h' ∧ Holds P w h' a (addL ks k)) E s := by
      intro g hg t2 f2 r2 l2
      obtain ⟨b1, H1⟩ := laid hk hsc ho hx hd pe pm nd (by omega) p1 f2 r2 (hl.imp id fun q => by rw [l2, l1]; exact q) hnk
      rw [e1]
      refine wpAny_bind (wpAny_storeSet_of ho hd ?_ (fits_of_scanBound b1))
      have sb := Heap.SameBut.update s.heap a (Obj.putSet es1 t2)
      by_cases full : (!was && t2.tooFull) = true
      · rw [if_pos full]
        refine wpAny_bind (hg _ _ _ (wpAny_bind (wpAny_storeSet_of (stored ho hd) rfl ?_ ?_)))
        · refine wpAny_pure ⟨_, rfl, rfl, sb.trans (Heap.SameBut.update _ a _), relaid H1 (stored ho hd) rfl (relayAll_perm _ _ _) (relayAll_fits _ _ _) (relayAll_ris _ _ _) fun q => ?_⟩
          rw [relayAll_led]
          exact q
        · have q := (relayAll_perm t2 es1 (SetTable.grown es1.size)).length_eq
          rw [Array.length_toList, Array.length_toList] at q
          rw [q]
          exact fits_of_scanBound b1
      · rw [if_neg full]
        exact wpAny_pure ⟨_, rfl, rfl, sb, H1⟩
    refine wpAny_bind (gate gave ?_)
    have go : ∀ v : Bool, wpAny (model P w) A (do
          storeSet a es1 (if v = true then t1 else { t1 with plain := false })
          if (!was && (if v = true then t1 else { t1 with plain := false }).tooFull) = true then do
            (match (relayAll (if v = true then t1 else { t1 with plain := false }) es1 (SetTable.grown es1.size)).2.2 with | true => rule "set.scan.the-table-gave-way" | false => pure ())
            storeSet a (relayAll (if v = true then t1 else { t1 with plain := false }) es1 (SetTable.grown es1.size)).1 (relayAll (if v = true then t1 else { t1 with plain := false }) es1 (SetTable.grown es1.size)).2.1
            pure (some true)
          else pure (some true)) (fun r s' => ∃ h', s' = { s with heap := h' } ∧ r = some true ∧ Heap.SameBut a s.heap h' ∧ Holds P w h' a (addL ks k)) E s := fun v => by
      cases v
      · exact more (g := fun b => match b with | true => rule "set.scan.the-table-gave-way" | false => pure ()) (fun b s' Q' q => gate b q) { t1 with plain := false } (SetTable.fits_plain_off f1) r1 rfl
      · exact more (g := fun b => match b with | true => rule "set.scan.the-table-gave-way" | false => pure ()) (fun b s' Q' q => gate b q) t1 f1 r1 rfl
    have fin : ∀ (r : Option Bool) (s' : Shared), (∃ h', s' = { s with heap := h' } ∧ r = some true ∧ Heap.SameBut a s.heap h' ∧ Holds P w h' a (addL ks k)) → ∃ h', r = some true ∧ s' = { s with heap := h' } ∧ Q true s' := by
      rintro r s' ⟨h', rfl, rfl, sb, H'⟩
      exact ⟨h', rfl, rfl, hQ true h' sb H'⟩
    by_cases pl : t1.plain = true
    · rw [if_pos pl]
      refine wpAny_bind ?_
      rw [hashByValue_scannable 8 hsc]
      refine wpAny_pure (wpAny_mono (go _) (fun r s' q => ?_) fun _ _ z => z)
      obtain ⟨h', rfl, rfl, q⟩ := fin r s' q
      exact wpAny_pure q
    · rw [if_neg pl]
      refine wpAny_bind (wpAny_pure (wpAny_mono (go true) (fun r s' q => ?_) fun _ _ z => z))
      obtain ⟨h', rfl, rfl, q⟩ := fin r s' q
      exact wpAny_pure q

/-- set.add, called -/
theorem add_call {k : Key} {x : Value} (hk : (mixKind P w).is k x = true) (hsc : x.scannable = true) (R : Holds P w s.heap a ks) (room : ks.length + 1 < scanBound) {Q : Value → Shared → Prop}
    (hQ : ∀ h', Heap.SameBut a s.heap h' → Holds P w h' a (addL ks k) → Q .none { s with heap := h', toks := s.toks + 1 }) : wpAny (model P w) A (call (.builtin "set.add") [.ref a, x]) Q E s := by
  refine wpAny_call_entry F.slot_set_add (show s.TypeIs (.ref a) "set" from R.there) F.entry_set_add ?_ (F.args_set_add_2 _ _)
  unfold Builtin.«set.add» Builtin.Frozenset.oneOther
  simp only [List.isEmpty_nil, bind_assoc]
  unfold Builtin.Frozenset.addrOf setAdd
  refine wpAny_bind (wpAny_pure (wpAny_bind (wpAny_pure (wpAny_bind (wpAny_holding (wpAny_bind ((mixKind P w).pyHash hk ?_)))))))
  refine add_scan (s := { s with toks := s.toks + 1 }) hk hsc R room fun b h' sb r => ?_
  exact (show wpAny _ _ (ret Value.none) _ _ _ from wpAny_pure ⟨_, rfl, hQ h' sb r⟩)
theorem fresh_set (h : Heap) : Holds P w (h.push { cls := .type "set", dict := none, data := .set #[] 0 (.fresh 0 0 (!w.params.followText "set-order")) }) h.objs.size [] := by
  refine ⟨_, #[], 0, _, [], ⟨Heap.get?_push_size _ rfl, ⟨rfl, rfl, rfl⟩, rfl⟩, ⟨.nil, .refl _, List.nodup_nil⟩, ⟨by decide, by rfl⟩, List.Pairwise.nil, ?_⟩
  cases q : w.params.followText "set-order" with
  | true => exact .inl rfl
  | false => exact .inr rfl
end
/-! ### sorted(a set of texts) -/
theorem strs_of_paired {P : Program} {w : World} : ∀ {ks : List Key} {vs : List Value}, Paired (fun k v => (mixKind P w).is k v = true) ks vs → ∀ {xs : List Str}, ks.Perm (xs.map Sum.inr) → ∃ zs, zs.Perm xs ∧ StrsAre vs zs := by
  intro ks vs h xs p
  have all : ∀ k ∈ ks, ∃ x, k = Sum.inr x := fun k hk => by
    obtain ⟨x, _, e⟩ := List.mem_map.mp (p.mem_iff.mp hk)
    exact ⟨x, e.symm⟩
  have q := p.filterMap (fun k : Key => match k with | .inr x => some x | .inl _ => none)
  have e : (xs.map Sum.inr : List Key).filterMap (fun k : Key => match k with | .inr x => some x | .inl _ => none) = xs := by
    rw [List.filterMap_map]
    exact List.filterMap_some
  rw [e] at q
  refine ⟨_, q, ?_⟩
  clear p q e
  induction h with
  | nil => exact .nil
  | @cons k v ks vs r _ ih =>
    obtain ⟨x, rfl⟩ := all k List.mem_cons_self
    rcases keyIs_shape (show keyIs (.inr x) v = true from r) with ⟨_, _, z, _⟩ | ⟨y, t, z, rfl⟩
    · cases z
    · cases z
      exact .cons _ _ (ih fun k hk => all k (List.mem_cons_of_mem _ hk))
theorem paired_snd {P : Program} {w : World} {ks : List Key} {es : List (Int × Value)} (h : Paired (Ent (mixKind P w)) ks es) : Paired (fun k v => (mixKind P w).is k v = true) ks (es.map (·.2)) := by
  induction h with
  | nil => exact .nil
  | cons r _ ih => exact .cons r.1 ih
section
variable {P : Program} {w : World} {A : Around} {E : Value → Shared → Prop} {s : Shared} {a : Addr}
theorem sorted_call {xs : List Str} {Q : Value → Shared → Prop} (R : Holds P w s.heap a (xs.map Sum.inr)) (hh : A.handled = none)
    (hQ : ∀ s' p (out : Array Value) (c : Nat) (ys : List Str), (∀ b o, s.heap.get? b = some o → s'.heap.get? b = some o) → s'.gens = s.gens ∧ s'.os = s.os → s.heap.objs.size ≤ p →
      s'.heap.get? p = some (seqObj "list" out c) → StrsAre out.toList ys → ys.Perm xs → sortedS ys = true → Q (.ref p) s') : wpAny (model P w) A (call (.builtin "sorted") [.ref a]) Q E s := by
  obtain ⟨o, es, ep, t, ls, ⟨ho, hx, hd⟩, ⟨pe, pm, nd⟩, ⟨hb, hf⟩, hr, hl⟩ := R
  refine Calls.call_function_entry kind_sorted plain_sorted entry_sorted (args_sorted1 _) ?_
  unfold Builtin.«sorted»
  refine wpAny_bind (m := checkCount "sorted" 1 1 _) (wpAny_pure (wpAny_bind (collect_set (A := A.in1) hh ⟨o, ho, hx.1, hd⟩ hf hb hr hl fun s1 vs k1 hz g1 o1 pv => ?_)))
  obtain ⟨ls', q', pe'⟩ := paired_perm pv.symm (paired_snd pe)
  obtain ⟨zs, pz, hS⟩ := strs_of_paired pe' (q'.trans pm)
  have hsz : vs.length ≤ sizeLine := by
    rw [pv.length_eq, List.length_map, Array.length_toList]
    exact fits_of_scanBound hb
  refine wpAny_bind (wpAny_newList ?_ hsz)
  have hoL : (s1.heap.push (seqObj "list" vs.toArray 0)).get? s1.heap.objs.size = some (seqObj "list" vs.toArray 0) := Heap.get?_push_size _ rfl
  refine wpAny_bind (wpAny_holding (wpAny_call_entry slot_list_sort ⟨_, hoL, rfl⟩ entry_list_sort (list_sort_treeKAny strKind_oneLt hoL hS.keysOf (fun v₁ v₂ rest e => keyKind_strs (by rw [← e]; exact hS)) hsz fun st' hp hs => ?_) (args_list_sort _)))
  obtain ⟨ys, y1, y2, y3⟩ := sorted_out_str hS hp hs
  obtain ⟨c, hc⟩ := sortedHeap_at (vs := vs) (out := (arrOf st').map (·.2)) hoL
  refine ⟨_, rfl, wpAny_pure ⟨_, rfl, hQ _ _ _ c ys (fun b u e => ?_) ⟨g1, o1⟩ hz hc y1 (y2.trans pz) y3⟩⟩
  have q := k1 b u e
  have hlt := Heap.lt_size q
  refine (sortedHeap_old (Nat.ne_of_lt hlt) ?_).trans (Heap.get?_push_of_some _ q)
  rw [size_push']
  exact Nat.lt_succ_of_lt hlt
end
section
variable {X : Cx} {pins : List (Addr × Obj)} {σ : L2.St} {H : Hp} {s : Shared}
theorem held {a : Addr} {ks : List Key} (I : Inv X pins σ H s) (h : H a = some (SetL X.prog X.w a ks)) : Holds X.prog X.w s.heap a ks := (I.hok a _ h).1
theorem key_rel {k : Key} {u : Value} (r : RelV (kV k) u) (P : Program) (w : World) : (mixKind P w).is k u = true ∧ u.scannable = true := by
  cases k with
  | inl i => obtain ⟨t, rfl⟩ := r; exact ⟨mixKind_int P w i t, rfl⟩
  | inr x => obtain ⟨t, rfl⟩ := r; exact ⟨mixKind_str P w x t, rfl⟩
theorem add_inv {a : Addr} {ks : List Key} {k : Key} {u : Value} {A : Around} {E : Value → Shared → Prop} {Q : Value → Shared → Prop} (I : Inv X pins σ H s) (h : H a = some (SetL X.prog X.w a ks)) (r : RelV (kV k) u) (room : ks.length + 1 < scanBound)
    (hQ : ∀ s', Inv X pins σ (upd H a (SetL X.prog X.w a (addL ks k))) s' → Q .none s') : wpAny (model X.prog X.w) A (call (.builtin "set.add") [.ref a, u]) Q E s := by
  obtain ⟨r1, r2⟩ := key_rel r X.prog X.w
  refine add_call r1 r2 (held I h) room fun h' sb R => hQ _ ?_
  exact I.write (e := a) (t' := s.toks + 1) (by rw [h]; trivial) (.inl rfl) (fun b o hb ho => (sb.2 b hb).trans ho) (let ⟨o, ho, _⟩ := R.there; ⟨o, ho⟩) R.new
/-- sorted(found), found a set of texts -/
def rSortedL (P : Program) (w : World) : List V → Hp → VK → Prop := fun vs H Q => ∃ (a : Addr) (xs : List Str), vs = [.ref a] ∧ H a = some (SetL P w a (xs.map Sum.inr)) ∧
  ∀ (ys : List Str) (p : Addr), ys.Perm xs → sortedS ys = true → H p = none → Q (.ref p) (upd H p (.lst (ys.map V.str)))
theorem cr_sortedL (hc : X.calm = true) : CallR X (.builtin "sorted") (rSortedL X.prog X.w) := by
  intro pins s σ H vs us Q I r h
  obtain ⟨a, xs, rfl, ha, q⟩ := h
  rw [Vals.ref1 r]
  have R := held I ha
  have bound : xs.length ≤ sizeLine := by
    obtain ⟨o, es, ep, t, ls, ⟨ho, hx, hd⟩, ⟨pe, pm, nd⟩, ⟨hb, hf⟩, _⟩ := R
    have := pm.length_eq
    rw [pe.length, Array.length_toList, List.length_map] at this
    rw [← this]
    exact fits_of_scanBound hb
  refine sorted_call R (I.ok.hd hc) fun s' p out c ys k go hp hg hi hperm hs => ?_
  have hn : H p = none := I.hok.fresh hp
  have hlen : (ys.map V.str).length ≤ sizeLine := by rw [List.length_map, hperm.length_eq]; exact bound
  have J : Inv X pins σ (upd H p (.lst (ys.map V.str))) s' := I.call' (ch := []) go.2 (Un.laid k hp hn) (I.hok.laid k hp ⟨hlen, out.toList, c, vals_of_strs hi, hg⟩) (by rw [go.1]; exact I.bare) (fun _ z => nomatch z)
  exact ⟨.ref p, _, J, rfl, q ys p hperm hs hn⟩
end
end KnS

set_option Elab.async false
set_option linter.all false
set_option maxRecDepth 100000
set_option maxHeartbeats 4000000
/-! {elt for target in iter if ..}, elt an int or a text. -/
namespace KnS
open PySem PySem.Spec PyProof.Rows L2
section
variable {X : Cx}
abbrev set0 (w : World) : Obj := { cls := .type "set", dict := none, data := .set #[] 0 (.fresh 0 0 (!w.params.followText "set-order")) }
/-- what a turn may reach, and how a comprehension into a set reads -/
def tScL (P : Program) (w : World) (wi : TI) (g : TG) (tt : TT) (te : TE) (vs : List Nat) : TE := fun σ H Q => wi σ H fun J H1 => ∀ D, H1 D = none →
  ∃ W : Nat → Nat → Hp → Prop, (∃ m, W 0 m (upd H1 D (SetL P w D []))) ∧ ∀ i m H, W i m H → (J.stop i H ∧ Q (.ref D) H) ∨
    (J.go i H ∧ ∃ Nx : Hp → Prop, (∀ H', Nx H' → ∃ m', m' < m ∧ W (i + 1) m' H') ∧
      ∀ x H', J.yld i H x H' → g x (wipe σ vs) H' fun σ2 H2 => wipe σ2 vs = wipe σ vs ∧ tt σ2 H2 fun b H3 =>
        if b = true then te σ2 H3 fun y H4 => ∃ (k : Key) (ks : List Key), y = kV k ∧ H4 D = some (SetL P w D ks) ∧ ks.length + 1 < scanBound ∧ Nx (upd H4 D (SetL P w D (addL ks k))) else Nx H3)
theorem scL {elt tg iter : Expr} {ifs : List Expr} {scope : Scope} {own : List (Str × Nat)} {pos : Pos} {wi : TI} {g : TG} {tt : TT} {te : TE}
    (hc : X.calm = true) (hN : X.N.Nodup) (hi : PI X tg iter wi) (ok : BlkOk X.N X.env.scope scope own)
    (hg : ∀ (s : Shared) (H : Hp) (C : Addr) (cl : List (Str × Addr)) (fp : List Addr), PG (X.blk s H scope (compEnvC scope cl C X.env) fp) tg g)
    (ht : ∀ (s : Shared) (H : Hp) (C : Addr) (cl : List (Str × Addr)) (fp : List Addr), PTs (X.blk s H scope (compEnvC scope cl C X.env) fp) ifs tt)
    (he : ∀ (s : Shared) (H : Hp) (C : Addr) (cl : List (Str × Addr)) (fp : List Addr), PE (X.blk s H scope (compEnvC scope cl C X.env) fp) elt te)
    (hs : ∀ x, foldedSetIterable iter X.env x = pure x := by intro _; rfl) :
    PE X (.SetComp elt [⟨tg, iter, ifs, 0⟩] scope pos) (tScL X.prog X.w wi g tt te (own.map (·.2))) := by
  refine ⟨fun pins s σ H Q I h => ?_⟩
  rw [PpSet.eval_SetComp]
  have captured : ∀ y ∈ scope.names, y.2 = .free → ∃ c, X.env.cells.lookup y.1 = some c := fun y hy e =>
    (ok.free y hy e).elim (fun k => I.ok.has _ (.inl k)) fun k => I.ok.has _ (.inr k)
  refine wpAny_comprehension_free (use := none) rfl hs (closure_ok captured) ok.kind (fun y hy e => by rw [ok.uniq y hy, e]) ?_
  refine thn (hi.run pins s σ H _ I h) fun xv s1 hx => thn hx fun itv s2 ⟨it, fp, tn, J, H2, eit, I2, T, st2, f2, q⟩ => ?_
  subst eit
  refine PpSet.newSet_ok (newEnv_comp ?_)
  generalize hD : s2.heap.objs.size = D
  have freeD : H2 D = none := I2.hok.fresh (Nat.le_of_eq hD)
  obtain ⟨W, ⟨m0, w0⟩, turn⟩ := q D freeD
  -- the new set stands
  generalize h3 : s2.heap.push (set0 X.w) = hp3
  have keep3 : ∀ b o, s2.heap.get? b = some o → hp3.get? b = some o := fun b o e => h3 ▸ Heap.get?_push_of_some _ e
  have size3 : hp3.objs.size = s2.heap.objs.size + 1 := by rw [← h3, Heap.size_push]
  have I3 : Inv X pins σ (upd H2 D (SetL X.prog X.w D [])) { s2 with heap := hp3 } := by
    refine I2.laid (t' := s2.toks) keep3 (Nat.le_of_eq hD) (Holds.new ?_)
    rw [← h3, ← hD]
    exact fresh_set _
  have inFp : ∀ b ∈ fp, b < s2.heap.objs.size := fun b hb => let ⟨_, e, _⟩ := T.obj _ _ st2 b hb; Heap.lt_size e
  have f3 : ∀ b ∈ fp, FpOk X pins (upd H2 D (SetL X.prog X.w D [])) b ∧ b < hp3.objs.size := fun b hb =>
    ⟨⟨(upd_ne (by rw [← hD]; exact Nat.ne_of_lt (inFp b hb))).trans (f2 b hb).1, (f2 b hb).2⟩, by rw [size3]; exact Nat.lt_succ_of_lt (inFp b hb)⟩
  have st3 : tn 0 hp3 := T.keep _ _ _ st2 fun b _ => keep3 b
  generalize hH3 : upd H2 D (SetL X.prog X.w D []) = H3 at I3 f3 w0
  generalize hs3 : ({ s2 with heap := hp3 } : Shared) = s3 at I3
  have e3 : s3.heap = hp3 := by rw [← hs3]
  have I4 := block_start I3 ok hN (fun b hb => ⟨(f3 b hb).1, by rw [e3]; exact (f3 b hb).2⟩)
  have clear0 : ∀ b ∈ fp, H3 b = none := fun b hb => (f3 b hb).1.1
  show codeAny _ _ (.compStart (.SetComp elt [⟨tg, iter, ifs, 0⟩] scope pos) 0 (.ref it) (.ref D) (compEnvC scope (cellsFrom (s3.heap.objs.size + 1) scope.names (cloFrom X.env.cells scope.names [])) s3.heap.objs.size X.env))
    (compPost (model X.prog X.w) X.A X.xe none (EP X pins σ Q) (.ref D) s3.heap.objs.size) { s3 with heap := pushCells (s3.heap.push { cls := .type "dict", data := .dict #[] }) scope.names }
  have pg := hg s3 H3 s3.heap.objs.size (cellsFrom (s3.heap.objs.size + 1) scope.names (cloFrom X.env.cells scope.names [])) fp
  have pt := ht s3 H3 s3.heap.objs.size (cellsFrom (s3.heap.objs.size + 1) scope.names (cloFrom X.env.cells scope.names [])) fp
  have pe := he s3 H3 s3.heap.objs.size (cellsFrom (s3.heap.objs.size + 1) scope.names (cloFrom X.env.cells scope.names [])) fp
  have home : (compEnvC scope (cellsFrom (s3.heap.objs.size + 1) scope.names (cloFrom X.env.cells scope.names [])) s3.heap.objs.size X.env).locals = s3.heap.objs.size := rfl
  generalize compEnvC scope (cellsFrom (s3.heap.objs.size + 1) scope.names (cloFrom X.env.cells scope.names [])) s3.heap.objs.size X.env = ce at I4 pg pt pe home ⊢
  have st4 : tn 0 ({ s3 with heap := pushCells (s3.heap.push { cls := .type "dict", data := .dict #[] }) scope.names } : Shared).heap := by
    refine T.keep _ _ _ st3 fun b _ o e => pushCells_keeps _ _ _ _ (Heap.get?_push_of_some _ ?_)
    rw [e3]
    exact e
  generalize ({ s3 with heap := pushCells (s3.heap.push { cls := .type "dict", data := .dict #[] }) scope.names } : Shared) = s4 at I4 ⊢ st4
  have own0 : ∀ {σ' : L2.St} {H' : Hp} {s' : Shared}, Inv (X.blk s3 H3 scope ce fp) [] σ' H' s' → (∀ b ∈ fp, H' b = none) → ∀ b ∈ fp, FpOk (X.blk s3 H3 scope ce fp) [] H' b := fun I' cl b hb =>
    ⟨cl b hb, (I'.ok.exf b hb).1, I'.ok.exfs b hb, .inl hb, (fun x c e => (I'.ok.exf b hb).2 x c e), fun p hp => by cases List.mem_append.mp hp <;> rename_i z <;> exact absurd z List.not_mem_nil⟩
  have loop : codeAny (model X.prog X.w) X.A (.compLoop (.SetComp elt [⟨tg, iter, ifs, 0⟩] scope pos) 0 (.ref it) (.ref D) ce) (compPost (model X.prog X.w) X.A X.xe none (EP X pins σ Q) (.ref D) s3.heap.objs.size) s4 := by
    refine PpSet.compLoopS_any (fun n s' => ∃ i H', (Inv (X.blk s3 H3 scope ce fp) [] (wipe σ (own.map (·.2))) H' s' ∧ tn i s'.heap) ∧ (∀ b ∈ fp, H' b = none) ∧ W i n H') ?_ m0 ⟨0, H3, ⟨I4, st4⟩, clear0, w0⟩
    rintro n s5 ⟨i, H5, ⟨I5, st5⟩, cl5, w5⟩
    rcases turn i n H5 w5 with ⟨stop, fine⟩ | ⟨go, Nx, hNx, step⟩
    · refine thnF (T.done (X.blk s3 H3 scope ce fp) rfl rfl rfl hc i [] s5 _ H5 (fun _ _ => False) I5 (own0 I5 cl5) st5 stop) fun r s6 ⟨er, I6⟩ => ?_
      subst er
      have I7 : Inv X pins σ H5 s6 := I3.call' (ch := fp) I6.os I6.base I6.hok I6.bare fun b hb =>
        let f := (f3 b hb).1.2; ⟨f.2.2.1, f.1, f.2.2.2.1, f.2.2.2.2⟩
      have free5 : H5 s3.heap.objs.size = none := home ▸ I6.free
      obtain ⟨m, hn, _⟩ := I6.loc
      obtain ⟨_, k1, k2, k3, k4, k5⟩ := I3.fpOk (Nat.le_refl _) free5
      exact ⟨m, home ▸ hn, fun h'' sb => ⟨.ref D, H5, I7.turned (t' := s6.toks) (fun b o hb e => (sb.2 b hb).trans e) free5 k1 k3 k4 k5, rfl, fine⟩⟩
    · refine thnF (T.item (X.blk s3 H3 scope ce fp) rfl rfl rfl hc i [] s5 _ H5 (fun _ _ => False) I5 (own0 I5 cl5) st5 go) fun r s6 ⟨u, er, h6⟩ => ?_
      subst er
      refine thnF h6 fun _ s7 ⟨x, H7, I7, r7, y7, st7, cl7⟩ => ?_
      refine thnF (pg.run _ s7 _ H7 x u _ (I7.pinned (own0 I7 cl7) (T.obj _ _ st7)) r7 (step x H7 y7)) fun _ s8 ⟨σ8, H8, I8, same8, q8⟩ => thnF (pt.run _ s8 σ8 H8 _ I8 q8) fun b s9 ⟨H9, I9, q9⟩ => ?_
      have closed : ∀ {s' : Shared} {H' : Hp}, Inv (X.blk s3 H3 scope ce fp) ([] ++ pinsAt fp s7.heap) σ8 H' s' → Nx H' → ∃ m, m < n ∧ ∃ i H', (Inv (X.blk s3 H3 scope ce fp) [] (wipe σ (own.map (·.2))) H' s' ∧ tn i s'.heap) ∧ (∀ b ∈ fp, H' b = none) ∧ W i m H' := fun {s' H'} I' nx => by
        obtain ⟨m', less, w'⟩ := hNx H' nx
        have pinned : ∀ b ∈ fp, ∀ o, s7.heap.get? b = some o → s'.heap.get? b = some o ∧ H' b = none := fun b hb o e =>
          have z := I'.pin (b, o) (List.mem_append_right _ (List.mem_append_right _ (mem_pinsAt hb e)))
          ⟨z.1, z.2.1⟩
        have len8 : (wipe σ (own.map (·.2))).length = σ8.length := (congrArg List.length same8).symm.trans (wipe_length _ _)
        refine ⟨m', less, i + 1, H', ⟨(I'.unpinned (pins := [])).weak len8 fun j v e => ?_, T.keep _ _ _ st7 fun b hb o e => (pinned b hb o e).1⟩, fun b hb => ?_, w'⟩
        · exact (wipe_some (same8 ▸ e)).1
        · obtain ⟨o, e, _⟩ := T.obj _ _ st7 b hb
          exact (pinned b hb o e).2
      cases b with
      | false => exact closed I9 q9
      | true =>
        refine thnF (pe.run _ s9 σ8 H9 _ I9 q9) fun z s10 ⟨yv, H10, I10, r10, k, ks, ey, eD, room, nx⟩ => ?_
        subst ey
        exact add_inv (X := X.blk s3 H3 scope ce fp) I10 eD r10 room fun s11 I11 => closed I11 nx
  exact PpSet.codeAny_compStart_set loop (T.self X.A 0 _ _ _ st4 loop)
end
end KnS

set_option Elab.async false
set_option linter.all false
set_option maxRecDepth 100000
set_option maxHeartbeats 4000000
/-! set(a list of ints and texts). -/
namespace KnS
open PySem PySem.Spec PyProof.Rows L2
def allL (ks : List Key) : List Key := ks.foldl addL []
theorem mem_foldL {x : Key} : ∀ {l acc : List Key}, x ∈ l.foldl addL acc ↔ x ∈ acc ∨ x ∈ l := by
  intro l
  induction l with
  | nil => intro acc; exact ⟨.inl, fun h => h.elim id (fun z => nomatch z)⟩
  | cons y l ih =>
    intro acc
    rw [List.foldl_cons, ih, mem_addL, List.mem_cons]
    constructor
    · rintro ((h | h) | h)
      · exact .inl h
      · exact .inr (.inl h)
      · exact .inr (.inr h)
    · rintro (h | h | h)
      · exact .inl (.inl h)
      · exact .inl (.inr h)
      · exact .inr h
theorem mem_allL {x : Key} {l : List Key} : x ∈ allL l ↔ x ∈ l := mem_foldL.trans ⟨fun h => h.elim (fun z => nomatch z) id, .inr⟩
theorem addL_nodup {ks : List Key} {k : Key} (h : ks.Nodup) : (addL ks k).Nodup := by
  unfold addL
  by_cases z : hasL ks k = true
  · rw [if_pos z]; exact h
  · rw [if_neg z]
    exact List.nodup_append.mpr ⟨h, List.nodup_cons.mpr ⟨(fun z => nomatch z), List.nodup_nil⟩, fun u hu v hv e => z (hasL_iff.mpr (by rw [← List.mem_singleton.mp hv, ← e]; exact hu))⟩
theorem foldL_nodup : ∀ {l acc : List Key}, acc.Nodup → (l.foldl addL acc).Nodup
  | [], _, h => h
  | k :: l, _, h => foldL_nodup (l := l) (addL_nodup h)
theorem addL_length (ks : List Key) (k : Key) : (addL ks k).length ≤ ks.length + 1 := by
  unfold addL
  by_cases z : hasL ks k = true
  · rw [if_pos z]; omega
  · rw [if_neg z, List.length_append]; exact Nat.le_refl _
theorem foldL_length : ∀ (l acc : List Key), (l.foldl addL acc).length ≤ acc.length + l.length
  | [], _ => Nat.le_refl _
  | k :: l, acc => by
    have h1 := foldL_length l (addL acc k)
    have h2 := addL_length acc k
    rw [List.foldl_cons, List.length_cons]
    omega
section
variable {P : Program} {w : World} {A : Around} {E : Value → Shared → Prop} {s : Shared}
/-- set.__new__(set, a): a new empty set, led where the order is not by the text -/
theorem new_set (a : Value) {Q₁ : Value → Shared → Prop} (h : Q₁ (.ref s.heap.objs.size) { s with heap := s.heap.push { cls := .type "set", dict := none, data := .set #[] 0 (.fresh 0 0 (!w.params.followText "set-order")) } }) :
    codeAny (model P w) A (.call (.builtin "set.__new__") ⟨[.type "set", a], []⟩) (wants Q₁ E) s := by
  refine codeAny_of_tree (show wpAny _ A.in1 (do checkBuiltinCall "set.__new__" ⟨[.type "set", a], []⟩; again (.builtin "set.__new__" ⟨[.type "set", a], []⟩)) _ _ s from ?_)
  refine wpAny_bind (wpAny_of_eq (F.newCall_set_1 a) (wpAny_pure ⟨plainId_quiet F.plain_set_new _, codeAny_builtin F.entry_set_new ?_⟩))
  rw [Around.under_plainId F.plain_set_new _]
  unfold Builtin.«set.__new__» Builtin.Frozenset.newClass
  have hsub := sub_set_self
  obtain ⟨hp, g, d, tk, os⟩ := s
  dsimp only
  wp_walk
  refine wpAny_askSetting (wpAny_pure ?_)
  dsimp only
  simp only [newObj]
  exact wpAny_bind (wpAny_alloc (wpAny_pure (wpAny_pure h)))
/-- the loop of set(v) -/
theorem update_loop {I S : Addr} {fp wr : List Addr} {G : Array GenState → Array GenState → Prop} {ks : List Key} {Pv : Nat → Value → Prop} {St : Nat → Shared → Prop} {R : Result → Shared → Prop}
    (W : WalksS P w A.in1 I fp wr G ks.length Pv St) (hSf : S ∉ fp) (hval : ∀ i v k, Pv i v → ks[i]? = some k → (mixKind P w).is k v = true ∧ v.scannable = true) (room : ks.length + 1 < scanBound) :
    ∀ (k i : Nat) (s : Shared), ks.length - i = k → i ≤ ks.length → St i s → Holds P w s.heap S (allL (ks.take i)) →
      (∀ s', Moved (S :: wr) G s s' → Holds P w s'.heap S (allL ks) → R (.ok (.ret .none)) s') → codeAny (model P w) A (.builtin "set.update.loop" ⟨[.ref S, .ref I], []⟩) R s := by
  have hSw : S ∉ wr := fun h => hSf (W.sub _ h)
  have more : ∀ b ∈ wr, b ∈ S :: wr := fun b hb => List.mem_cons_of_mem _ hb
  intro k
  induction k with
  | zero =>
    intro i s hk hi hst hS hR
    obtain rfl : i = ks.length := by omega
    refine codeAny_builtin PyProof.Rows.F.entry_set_update_loop ?_
    rw [Around.under_plainId PyProof.Rows.F.plain_set_update_loop _]
    show wpAny _ A.in1 (pyNext (.ref I) >>= _) _ _ s
    refine wpAny_bind (W.done s _ _ hst fun s' hm => (show wpAny _ A.in1 (ret Value.none) _ _ s' from wpAny_pure (hR s' (hm.mono more) ?_)))
    rw [List.take_length] at hS
    exact hS.keep fun o ho => hm.heap S o hSw ho
  | succ k ih =>
    intro i s hk hi hst hS hR
    have lt : i < ks.length := by omega
    have at_ : ks[i]? = some ks[i] := List.getElem?_eq_getElem lt
    refine codeAny_builtin PyProof.Rows.F.entry_set_update_loop ?_
    rw [Around.under_plainId PyProof.Rows.F.plain_set_update_loop _]
    show wpAny _ A.in1 (pyNext (.ref I) >>= _) _ _ s
    refine wpAny_bind (W.item i s _ _ lt hst fun v s' hP hst' hm => ?_)
    obtain ⟨v1, v2⟩ := hval i v _ hP at_
    have hS' : Holds P w s'.heap S (allL (ks.take i)) := hS.keep fun o ho => hm.heap S o hSw ho
    have len : (allL (ks.take i)).length + 1 < scanBound := by
      have h1 := foldL_length (ks.take i) []
      rw [List.length_take] at h1
      have h2 : ([] : List Key).length = 0 := rfl
      unfold allL
      omega
    show wpAny _ A.in1 (holding [v] (setAdd S v) >>= _) _ _ s'
    refine wpAny_bind (wpAny_holding ?_)
    unfold setAdd
    refine wpAny_holding (wpAny_bind ((mixKind P w).pyHash v1 ?_))
    refine add_scan (s := { s' with toks := s'.toks + 1 }) v1 v2 hS' len fun b h' hsb hS2 => ?_
    have e2 : allL (ks.take (i + 1)) = addL (allL (ks.take i)) ks[i] := by
      unfold allL
      rw [List.take_add_one, at_, List.foldl_append]
      rfl
    refine wpAny_pure ⟨plainId_quiet PyProof.Rows.F.plain_set_update_loop _, ih (i + 1) _ (by omega) lt (W.frame _ s' _ _ hst' (Nat.le_succ _) fun b hb o e => ?_) (by rw [e2]; exact hS2) fun s'' hm'' hS'' => ?_⟩
    · exact (hsb.2 b fun h => hSf (h ▸ hb)).trans e
    · refine hR s'' (Moved.trans W.gtrans ((hm.mono more).then_heap (Nat.le_succ _) fun b o hb e => ?_) hm'') hS''
      exact (hsb.2 b fun h => hb (h ▸ List.mem_cons_self)).trans e

set_option maxHeartbeats 3200000 in
theorem set_call {l : Addr} {items : List Value} {ks : List Key} {Q : Value → Shared → Prop} (hh : A.handled = none) (hl : s.heap.IsList l items.toArray) (hk : Paired (fun k v => (mixKind P w).is k v = true ∧ v.scannable = true) ks items) (room : ks.length + 1 < scanBound)
    (h : ∀ (h' : Heap) (tk : Nat), Holds P w h' s.heap.objs.size (allL ks) → (∀ b o, b < s.heap.objs.size → s.heap.get? b = some o → h'.get? b = some o) → Q (.ref s.heap.objs.size) { s with heap := h', toks := tk }) :
    wpAny (model P w) A (call (.type "set") [.ref l]) Q E s := by
  have ⟨c, tl, hmro⟩ := PySem.F.called_set.mro
  have made := PySem.F.called_set.made
  have sub := PySem.F.called_set.sub
  refine wpAny_call (codeAny_of_tree (show wpAny _ _ (callAny (.type "set") _) _ _ _ from wpAny_pure ⟨Code.quiet_builtin _ (by decide +kernel), codeAny_builtin PySem.F.entry_type_call ?_⟩))
  rw [Around.under_plain (weight_type_call_type "set" [.ref l] []) rfl]
  have u1 := PySem.F.called_set.notType
  have u2 := PySem.F.called_set.canCreate
  have u3 := PySem.F.typeCall_set_1 (.ref l)
  repeat (any_goals (first | assumption | wp_step))
  have R0 := fresh_set (P := P) (w := w) s.heap
  have made0 := new_set (P := P) (w := w) (A := A.in1) (s := s) (.ref l) (E := E) (Q₁ := fun obj s₁ => obj = .ref s.heap.objs.size ∧ s₁ = { s with heap := s.heap.push { cls := .type "set", dict := none, data := .set #[] 0 (.fresh 0 0 (!w.params.followText "set-order")) } }) ⟨rfl, rfl⟩
  generalize (!w.params.followText "set-order") = led at made0 R0
  refine codeAny_mono made0 fun r s₁ hr => ?_
  match r, hr with
  | .error e, hr => exact hr
  | .ok .next, hr => exact hr.elim
  | .ok .brk, hr => exact hr.elim
  | .ok .cont, hr => exact hr.elim
  | .ok (.ret obj), hr =>
    obtain ⟨rfl, rfl⟩ := hr
    have hS : (s.heap.push { cls := .type "set", dict := none, data := .set #[] 0 (.fresh 0 0 led) }).get? s.heap.objs.size = some { cls := .type "set", dict := none, data := .set #[] 0 (.fresh 0 0 led) } := Heap.get?_push_size _ rfl
    have hT : Shared.TypeIs { s with heap := s.heap.push { cls := .type "set", dict := none, data := .set #[] 0 (.fresh 0 0 led) } } (.ref s.heap.objs.size) "set" := ⟨_, hS, rfl⟩
    have i1 := PySem.F.called_set.init.lookup
    have i2 := PySem.F.called_set.init.bind (.ref s.heap.objs.size)
    repeat (any_goals (first | assumption | wp_step))
    refine codeAny_mono (codeAny_call_builtin (R := wants (fun r s₂ => r = .none ∧ ∃ h' tk, s₂ = { s with heap := h', toks := tk } ∧ Holds P w h' s.heap.objs.size (allL ks) ∧ ∀ b o, b < s.heap.objs.size → s.heap.get? b = some o → h'.get? b = some o) E)
      PySem.F.called_set.init.plain PySem.F.entry_set_init (check_set_init_1 hT ?_)) fun r₂ s₂ hr₂ => ?_
    · have hlS : l < s.heap.objs.size := let ⟨o, e, _⟩ := hl; Heap.lt_size e
      have hl1 : (s.heap.push { cls := .type "set", dict := none, data := .set #[] 0 (.fresh 0 0 led) }).IsList l items.toArray := hl.at fun o e => Heap.get?_push_of_some _ e
      obtain ⟨⟨ocls, odict, odata, oslots⟩, hol, hcl, nl, hdl⟩ := hl1
      simp only at hcl hdl
      subst hcl hdl
      have n1 := PySem.F.sub_list_set
      have n2 := PySem.F.sub_list_frozenset
      have n3 : (Value.type "list" == Value.type "dict") = false := by decide
      unfold Builtin.«set.__init__» noKeywords Builtin.Frozenset.updateFrom
      generalize hPI : pyIter = PI
      wp_walk
      subst hPI
      have hl2 : (s.heap.push { cls := .type "set", dict := none, data := .set #[] 0 (.fresh 0 0 led) }).IsList l items.toArray := ⟨_, hol, rfl, nl, rfl⟩
      refine wpAny_pyIter_list hl2 ?_
      refine wpAny_bind (wpAny_runValue ?_)
      have zz : (s.heap.push { cls := .type "set", dict := none, data := .set #[] 0 (.fresh 0 0 led) }).objs.size = s.heap.objs.size + 1 := Heap.size_push ..
      have hneI : l ≠ (s.heap.push { cls := .type "set", dict := none, data := .set #[] 0 (.fresh 0 0 led) }).objs.size := by rw [zz]; exact Nat.ne_of_lt (Nat.lt_succ_of_lt hlS)
      have len : ks.length = items.toArray.size := hk.length.trans List.size_toArray.symm
      have W := (Walks.list (prog := P) (w := w) (A := A.in1.in1.in1) (by simpa using hh) (s.heap.push { cls := .type "set", dict := none, data := .set #[] 0 (.fresh 0 0 led) }).objs.size l hneI items.toArray).toS
      rw [← len] at W
      refine update_loop W (fun z => ?_) (fun i v k hv hki => ?_) room (ks.length - 0) 0 _ rfl (Nat.zero_le _) ⟨⟨_, Heap.get?_push_size _ rfl, rfl, rfl⟩, hl2.at fun o e => Heap.get?_push_of_some _ e⟩ ?_ fun s' hm hS' => ?_
      · rcases List.mem_cons.mp z with z | z
        · rw [zz] at z
          exact Nat.ne_of_lt (Nat.lt_succ_self _) z
        · exact Nat.ne_of_lt hlS (List.mem_singleton.mp z).symm
      · rw [List.getElem?_toArray] at hv
        have : ∀ {ks : List Key} {its : List Value} {i : Nat}, Paired (fun k v => (mixKind P w).is k v = true ∧ v.scannable = true) ks its → ks[i]? = some k → its[i]? = some v → (mixKind P w).is k v = true ∧ v.scannable = true := by
          intro ks its i hp
          induction hp generalizing i with
          | nil => intro z; cases z
          | cons r _ ih =>
            cases i with
            | zero => intro a b; cases a; cases b; exact r
            | succ i => exact fun a b => ih (i := i) a b
        exact this hk hki hv
      · exact R0.keep fun o e => Heap.get?_push_of_some _ e
      · obtain ⟨h', g', d', tk', os'⟩ := s'
        obtain rfl : g' = s.gens := hm.gens
        obtain rfl : d' = s.drawn := hm.drawn
        obtain rfl : os' = s.os := hm.os
        refine wpAny_pure (show wpAny _ _ (ret Value.none) _ _ _ from wpAny_pure ⟨rfl, h', tk', rfl, hS', fun b o hb e => ?_⟩)
        refine hm.heap b o (fun z => ?_) (Heap.get?_push_of_some _ (Heap.get?_push_of_some _ e))
        rcases List.mem_cons.mp z with z | z
        · exact Nat.ne_of_lt hb z
        · have e1 := List.mem_singleton.mp z
          rw [zz] at e1
          exact Nat.ne_of_lt (Nat.lt_succ_of_lt hb) e1
    · match r₂, hr₂ with
      | .error e, hr₂ => exact hr₂
      | .ok .next, hr₂ => exact hr₂.elim
      | .ok .brk, hr₂ => exact hr₂.elim
      | .ok .cont, hr₂ => exact hr₂.elim
      | .ok (.ret r), hr₂ =>
        obtain ⟨rfl, h', tk, rfl, hS', hk'⟩ := hr₂
        repeat (any_goals (first | assumption | wp_step))
        exact h _ _ hS' hk'
end
section
variable {X : Cx}
/-- set(xs), xs a list of ints and texts -/
def rSetOf (K : PySem.W.Frag) (P : Program) (w : World) : List V → Hp → VK → Prop := fun vs H Q => ∃ (a : Addr) (ks : List Key), vs = [.ref a] ∧ SqL K H a (ks.map kV) ∧ ks.length + 1 < scanBound ∧ ∀ p, H p = none → Q (.ref p) (upd H p (SetL P w p (allL ks)))
theorem cr_setOf (hc : X.calm = true) : CallR X (.type "set") (rSetOf X.K X.prog X.w) := by
  intro pins s σ H vs us Q I r h
  obtain ⟨a, ks, rfl, hs, room, q⟩ := h
  rw [Vals.ref1 r]
  obtain ⟨its, rv, pl, hz⟩ := I.list hs
  have hk : ∀ {ks : List Key} {its : List Value}, Vals (ks.map kV) its → Paired (fun k v => (mixKind X.prog X.w).is k v = true ∧ v.scannable = true) ks its := by
    intro ks
    induction ks with
    | nil => intro its hp; cases hp; exact .nil
    | cons k ks ih =>
      intro its hp
      cases hp with
      | cons r t => exact .cons (key_rel r X.prog X.w) (ih t)
  refine set_call (I.ok.hd hc) pl.isList (hk rv) room fun h' tk R k => ?_
  have J : Inv X pins σ (upd H s.heap.objs.size (SetL X.prog X.w s.heap.objs.size (allL ks))) { s with heap := h', toks := tk } :=
    I.laid (t' := tk) (fun b o e => k b o (Heap.lt_size e) e) (Nat.le_refl _) R.new
  exact ⟨.ref _, _, J, rfl, q _ (I.hok.fresh (Nat.le_refl _))⟩
end
end KnS

set_option Elab.async false
set_option linter.all false
set_option maxRecDepth 100000
set_option maxHeartbeats 4000000
/-! What is walked may be a list or a tuple: the for loop over it, and over enumerate of it. -/
namespace KnE
open PySem PySem.Spec PyProof.Rows L2
/-- a list (true) or a tuple (false) -/
def Sq (K : PySem.W.Frag) (b : Bool) (H : Hp) (a : Addr) (xs : List V) : Prop := match b with | true => SqL K H a xs | false => SqT K H a xs
def ItS (K : PySem.W.Frag) (b : Bool) (a : Addr) : It := match b with | true => Itl K a | false => Itt K a
def iSeq (K : PySem.W.Frag) (te : TE) : TI := fun σ H R => te σ H fun x H1 => ∃ a b, x = .ref a ∧ (∃ xs, Sq K b H1 a xs) ∧ R (ItS K b a) H1
section
variable {X : Cx} {tg : Expr}
theorem pi_seq {e : Expr} {te : TE} (he : PE X e te) : PI X tg e (iSeq X.K te) := by
  refine ⟨fun pins s σ H R I h => thn (he.run pins s σ H _ I h) fun v s1 ⟨x, H1, I1, r1, a, b, ex, ⟨xs, hq⟩, q⟩ => ?_⟩
  subst ex
  cases r1
  cases b with
  | true =>
    obtain ⟨its, rv, p, hz⟩ := I1.list hq
    exact wpAny_pyIter_list p.isList (pi_one (tk := s1.toks) I1 _ (turn_list a _) ⟨_, Heap.get?_push_size _ rfl, rfl, rfl⟩ q)
  | false =>
    obtain ⟨its, rv, p, hz⟩ := I1.tuple hq
    exact wpAny_pyIter_tuple (show s1.heap.IsTuple a its.toArray from p) (pi_one (tk := s1.toks) I1 _ (turn_tuple a _) ⟨_, Heap.get?_push_size _ rfl, rfl, rfl⟩ q)
end
theorem Sq.inj {X : Cx} {pins : List (Addr × Obj)} {σ : L2.St} {H : Hp} {s : Shared} {b : Bool} {a : Addr} {xs ys : List V} (I : Inv X pins σ H s) (h : Sq X.K b H a xs) (h' : Sq X.K b H a ys) : xs = ys := by
  cases b with
  | true => exact I.list_inj h h'
  | false => exact I.tuple_inj h h'
/-- the for loop over a list or tuple that the body leaves as it is -/
theorem for_seq {K : PySem.W.Frag} {b : Bool} {a : Addr} {xs : List V} {g : TG} {tb : TS} {D : Ends} {σ : L2.St} {H : Hp} (Pv : Nat → L2.St → Hp → Prop) (h0 : Pv 0 σ H) (hl : ∀ i σ H, i ≤ xs.length → Pv i σ H → Sq K b H a xs)
    (hs : ∀ i x σ H, xs[i]? = some x → Pv i σ H → g x σ H fun σ2 H2 => tb { D with nx := Pv (i + 1), ct := Pv (i + 1), bk := D.nx } σ2 H2) (hd : ∀ σ H, Pv xs.length σ H → D.nx σ H) :
    ∃ W : Nat → Nat → L2.St → Hp → Prop, (∃ m, W 0 m σ H) ∧ ∀ i m σ H, W i m σ H →
      ((ItS K b a).stop i H ∧ D.nx σ H) ∨ ((ItS K b a).go i H ∧ ∃ N : L2.St → Hp → Prop, (∀ σ' H', N σ' H' → ∃ m', m' < m ∧ W (i + 1) m' σ' H') ∧
        ∀ x H', (ItS K b a).yld i H x H' → g x σ H' fun σ2 H2 => tb { D with nx := N, ct := N, bk := D.nx } σ2 H2) := by
  cases b with
  | true => exact for_list (K := K) (a := a) (xs := xs) Pv h0 hl hs hd
  | false => exact for_tup (K := K) (a := a) (xs := xs) Pv h0 hl hs hd
/-! ### enumerate -/
def Liv (b : Bool) (h : Heap) (a : Addr) (its : List Value) : Prop := match b with | true => h.IsList a its.toArray | false => h.IsTuple a its.toArray
def iterAt (b : Bool) (h : Heap) (it a : Addr) (i : Nat) : Prop := match b with | true => h.IsListIter it a i | false => h.IsTupleIter it a i
/-- (0, x0), (1, x1), .., each a new tuple -/
def ItN (K : PySem.W.Frag) (b : Bool) (a : Addr) : It where
  go := fun i H => ∃ (xs : List V) (x : V), Sq K b H a xs ∧ xs[i]? = some x
  yld := fun i H v H' => ∃ T x, v = .ref T ∧ H T = none ∧ H' = upd H T (.tup [.int (i : Nat), x]) ∧ ∀ xs, Sq K b H a xs → xs[i]? = some x
  stop := fun i H => ∃ xs : List V, Sq K b H a xs ∧ xs.length = i
theorem iterAt.mono {b : Bool} {h h' : Heap} {it a : Addr} {i : Nat} (x : iterAt b h it a i) (k : ∀ o, h.get? it = some o → h'.get? it = some o) : iterAt b h' it a i := by
  cases b with
  | true => exact Heap.IsListIter.at x k
  | false => exact Heap.IsTupleIter.at x k
theorem iterAt.plain {b : Bool} {h : Heap} {it a : Addr} {i : Nat} (x : iterAt b h it a i) : ∃ o, h.get? it = some o ∧ ∀ v, o.data ≠ .cell v := by
  cases b with
  | true => obtain ⟨o, e, _, d⟩ := x; exact ⟨o, e, fun v z => by rw [d] at z; cases z⟩
  | false => obtain ⟨o, e, _, d⟩ := x; exact ⟨o, e, fun v z => by rw [d] at z; cases z⟩
section
variable {P : Program} {w : World} {A : Around} {E : Value → Shared → Prop} {s : Shared}
/-- one more of an enumeration, of either kind -/
theorem enum_item {b : Bool} {e it a : Addr} {i : Nat} {its : List Value} {u old : Value} {Q : Option Value → Shared → Prop} (hh : A.handled = none) (he : IsEnum s.heap e it i old) (hit : iterAt b s.heap it a i)
    (hp : Liv b s.heap a its) (hu : its[i]? = some u) (hne : e ≠ it) (hae : a ≠ e) (hai : a ≠ it)
    (hQ : ∀ h' tk, IsEnumOut h' e it ((i : Int) + 1) u s.heap.objs.size → iterAt b h' it a (i + 1) → h'.get? s.heap.objs.size = some { cls := .type "tuple", data := .seq #[.int i tk, u] } →
      (∀ b o, b ≠ e → b ≠ it → s.heap.get? b = some o → h'.get? b = some o) → Q (some (.ref s.heap.objs.size)) { s with heap := h', toks := tk + 1 }) : wpAny (model P w) A (pyNext (.ref e)) Q E s := by
  have hlt : i < its.toArray.size := by
    rw [List.size_toArray]
    exact (List.getElem?_eq_some_iff.mp hu).1
  have hef : e ∉ [it, a] := fun z => by
    rcases List.mem_cons.mp z with z | z
    · exact hne z
    · exact hae (List.mem_singleton.mp z).symm
  have same : ∀ {x : Value}, its.toArray[i]? = some x → x = u := fun {x} z => by
    rw [List.getElem?_toArray, hu] at z
    exact (Option.some.inj z).symm
  cases b with
  | true =>
    refine wpAny_pyNext_enum_itemD (Draws.list (A := A.in1) hh it a hai its.toArray) he ⟨hit, hp⟩ hlt hne hef fun x h' tk hP ho hs' hT hsz hk => ?_
    rw [same hP] at ho hT
    exact hQ h' tk ho hs'.1 hT hk
  | false =>
    refine wpAny_pyNext_enum_itemD (Draws.tuple (A := A.in1) hh it a hai its.toArray) he ⟨hit, hp⟩ hlt hne hef fun x h' tk hP ho hs' hT hsz hk => ?_
    rw [same hP] at ho hT
    exact hQ h' tk ho hs'.1 hT hk
theorem enum_end {b : Bool} {e it a : Addr} {i : Nat} {its : List Value} {old : Value} {Q : Option Value → Shared → Prop} (hh : A.handled = none) (he : IsEnum s.heap e it i old) (hit : iterAt b s.heap it a i)
    (hp : Liv b s.heap a its) (hi : i = its.length) (hai : a ≠ it)
    (hQ : ∀ h', Heap.ExtBut it s.heap h' → Q none { s with heap := h' }) : wpAny (model P w) A (pyNext (.ref e)) Q E s := by
  subst hi
  have z : its.toArray.size = its.length := List.size_toArray
  cases b with
  | true => exact wpAny_pyNext_enum_endD (Draws.list (A := A.in1) hh it a hai its.toArray) he ⟨z ▸ hit, hp⟩ hQ
  | false => exact wpAny_pyNext_enum_endD (Draws.tuple (A := A.in1) hh it a hai its.toArray) he ⟨z ▸ hit, hp⟩ hQ
end
theorem sq_lives {X : Cx} {pins : List (Addr × Obj)} {σ : L2.St} {H : Hp} {s : Shared} {b : Bool} {a : Addr} {xs : List V} (I : Inv X pins σ H s) (h : Sq X.K b H a xs) :
    ∃ its : List Value, Vals xs its ∧ Liv b s.heap a its := by
  cases b with
  | true => obtain ⟨its, rv, p, _⟩ := I.list h; exact ⟨its, rv, p.isList⟩
  | false => obtain ⟨its, rv, p, _⟩ := I.tuple h; exact ⟨its, rv, p⟩
theorem lives_ne {b : Bool} {h : Heap} {a : Addr} {its : List Value} {e : Addr} {o : Obj} {n : String} (p : Liv b h a its) (he : h.get? e = some o) (hc : o.cls = .type n) (n1 : n ≠ "list") (n2 : n ≠ "tuple") : a ≠ e := by
  rintro rfl
  cases b with
  | true => obtain ⟨o', e', c', _⟩ := p; rw [he] at e'; cases e'; rw [hc] at c'; cases c'; exact n1 rfl
  | false => obtain ⟨o', e', c', _⟩ := p; rw [he] at e'; cases e'; rw [hc] at c'; cases c'; exact n2 rfl
theorem iterAt.cls {b : Bool} {h : Heap} {it a : Addr} {i : Nat} (x : iterAt b h it a i) : ∃ o n, h.get? it = some o ∧ o.cls = .type n ∧ n ≠ "list" ∧ n ≠ "tuple" := by
  cases b with
  | true => obtain ⟨o, e, c, _⟩ := x; exact ⟨o, _, e, c, by decide, by decide⟩
  | false => obtain ⟨o, e, c, _⟩ := x; exact ⟨o, _, e, c, by decide, by decide⟩
theorem turn_en {P : Program} {w : World} {K : PySem.W.Frag} {elts : List Expr} {kk : Nat} {tpos : Pos} (b : Bool) (a e it : Addr) :
    Turn P w K (.Tuple elts kk tpos) (ItN K b a) [e, it] e (fun i h => (∃ old, IsEnum h e it ((i : Nat) : Int) old) ∧ iterAt b h it a i ∧ e ≠ it) where
  mem := List.mem_cons_self
  obj := fun i h ⟨⟨old, he⟩, hi, _⟩ c hc => by
    rcases List.mem_cons.mp hc with z | z
    · rw [z]; exact ⟨_, he, fun v q => nomatch q⟩
    · rw [List.mem_singleton.mp z]; exact hi.plain
  keep := fun i h h' ⟨⟨old, he⟩, hi, hne⟩ k => ⟨⟨old, k e List.mem_cons_self _ he⟩, hi.mono fun o q => k it (List.mem_cons_of_mem _ List.mem_cons_self) o q, hne⟩
  self := fun A i s Q E ⟨⟨_, he⟩, _⟩ h => wpAny_pyIter_enum he h
  done := by
    intro X hP hw hK hc i pins s σ H E I hf ⟨⟨old, he⟩, hit, hne⟩ ⟨xs, hq, hx⟩
    subst hP hw hK
    obtain ⟨its, rv, p⟩ := sq_lives I hq
    obtain ⟨oi, ni, hoi, ci, ni1, ni2⟩ := hit.cls
    obtain ⟨f0, f1, f2, f3, f4, f5⟩ := hf it (List.mem_cons_of_mem _ List.mem_cons_self)
    refine enum_end (I.ok.hd hc) he hit p (hx.symm.trans rv.length) (lives_ne p hoi ci ni1 ni2) fun h' eb => ?_
    exact ⟨rfl, I.turned (t' := s.toks) (fun c o hb q => eb c o hb q) f0 f1 f3 f4 f5⟩
  item := by
    intro X hP hw hK hc i pins s σ H E I hf ⟨⟨old, he⟩, hit, hne⟩ ⟨xs, x, hq, hx⟩
    subst hP hw hK
    obtain ⟨its, rv, p⟩ := sq_lives I hq
    obtain ⟨u, hu, ru⟩ := rv.get hx
    have he0 := he
    have hel : e < s.heap.objs.size := Heap.lt_size he
    obtain ⟨oi, ni, hoi, ci, ni1, ni2⟩ := hit.cls
    have hil : it < s.heap.objs.size := Heap.lt_size hoi
    refine enum_item (I.ok.hd hc) he hit p hu hne (lives_ne p he0 rfl (by decide) (by decide)) (lives_ne p hoi ci ni1 ni2) fun h' tk ho hit' hT hk => ?_
    refine ⟨_, rfl, wpAny_letOwnedTupleGo_enum (s := { s with heap := h', toks := tk + 1 }) ho fun h'' he' sb => ?_⟩
    have hT2 := (sb.2 s.heap.objs.size (Nat.ne_of_gt hel)).trans hT
    have I1 : Inv X pins σ (upd H s.heap.objs.size (.tup [.int (i : Nat), x])) { s with heap := h'', toks := tk + 1 } :=
      I.turnedNew (ch := [e, it]) (fun c ob hb q => (sb.2 c fun z => hb (z ▸ List.mem_cons_self)).trans (hk c ob (fun z => hb (z ▸ List.mem_cons_self)) (fun z => hb (z ▸ List.mem_cons_of_mem _ List.mem_cons_self)) q)) hf (Nat.le_refl _)
        (show ObjOk X.prog X.w _ h'' _ (.tup [.int (i : Nat), x]) from ⟨by show 2 ≤ sizeLine; decide, [.int i tk, u], .cons ⟨_, rfl⟩ (.cons ru .nil), _, hT2, rfl, _, rfl⟩)
    refine ⟨.ref s.heap.objs.size, _, I1, rfl, ⟨_, x, rfl, I.hok.fresh (Nat.le_refl _), rfl, fun ys hy => by rw [hy.inj I hq]; exact hx⟩, ⟨⟨u, ?_⟩, hit'.mono fun o q => (sb.2 it hne.symm).trans q, hne⟩, fun c hcm => ?_⟩
    · have e1 : ((i + 1 : Nat) : Int) = (i : Int) + 1 := by omega
      rw [e1]
      exact he'
    · rcases List.mem_cons.mp hcm with z | z
      · rw [z, upd_ne (Nat.ne_of_lt hel)]
        exact (hf e List.mem_cons_self).1
      · rw [List.mem_singleton.mp z, upd_ne (Nat.ne_of_lt hil)]
        exact (hf it (List.mem_cons_of_mem _ List.mem_cons_self)).1

/-! ### enumerate(v), its making -/
set_option maxHeartbeats 1000000 in
theorem new_enum {v : Value} {o : Obj} {Hv : Heap → Prop} (B : Begins v o Hv) : Meets (Builtin.«enumerate.__new__» ⟨[.type "enumerate", v], []⟩) (fun _ R s => Hv s.heap ∧
      R (.ok (.ret (.ref (s.heap.push o).objs.size))) { s with heap := (s.heap.push o).push { cls := .type "enumerate", data := .fields #[.none, .bool false, .ref s.heap.objs.size, rawInt 0, .none, .none] } }) :=
  .of_wp fun prog w A R s ⟨h1, h⟩ => by
    obtain ⟨hp, g, d, tk, os⟩ := s
    have hsub := sub_enumerate
    have q1 : ∀ {A' : Around} {E : Value → Shared → Prop} {Q : Value → Shared → Prop}, Q (.ref hp.objs.size) ⟨hp.push o, g, d, tk, os⟩ → wpAny (model prog w) A' (pyIter v) Q E ⟨hp, g, d, tk, os⟩ := B.iter prog w _ _ ⟨hp, g, d, tk, os⟩ _ h1
    wp_walk using q1
    refine wpAny_stack_any fun st => wpAny_pure ?_
    split
    · rename_i c _ _ _ _ _
      cases (c == Value.type "enumerate") <;> (wp_walk using q1; exact ⟨_, rfl, h⟩)
    · wp_walk using q1
      exact ⟨_, rfl, h⟩
section
variable {P : Program} {w : World} {A : Around} {E : Value → Shared → Prop} {s : Shared}
theorem enum_made {v : Value} {o : Obj} {Hv : Heap → Prop} {Q : Value → Shared → Prop} (B : Begins v o Hv) (h1 : Hv s.heap)
    (h : ∀ h', IsEnum h' (s.heap.objs.size + 1) s.heap.objs.size 0 .none → h'.get? s.heap.objs.size = some o → (∀ b o, s.heap.get? b = some o → h'.get? b = some o) → Q (.ref (s.heap.objs.size + 1)) { s with heap := h' }) :
    wpAny (model P w) A (call (.type "enumerate") [v]) Q E s := by
  refine callType_new F.called_enumerate (by decide) (F.typeCall_enumerate_1 _) (F.newCall_enumerate_1 _) (fun obj => F.args_object_init_2 obj _) F.entry_enumerate_new (new_enum B) ⟨h1, ?_⟩
  have hz : (s.heap.push o).objs.size = s.heap.objs.size + 1 := Heap.size_push ..
  have he := Heap.get?_push_size (s.heap.push o) (o := { cls := .type "enumerate", data := .fields #[.none, .bool false, .ref s.heap.objs.size, rawInt 0, .none, .none] }) rfl
  show _ ∧ _
  rw [hz] at he ⊢
  exact ⟨⟨_, he, rfl⟩, h _ he (Heap.get?_push_of_some _ (Heap.get?_push_size _ B.free)) fun b o x => Heap.get?_push_of_some _ (Heap.get?_push_of_some _ x)⟩
end
def iEnS (K : PySem.W.Frag) (ta : TA) : TI := fun σ H R => ta σ H fun vs H1 => ∃ a b xs, vs = [.ref a] ∧ Sq K b H1 a xs ∧ R (ItN K b a) H1
theorem pi_en {X : Cx} {e : Expr} {ta : TA} {p pos tpos : Pos} {elts : List Expr} {kk : Nat} (hg : Gl X "enumerate") (hm : X.mg "enumerate" = none) (ha : PA X [e] ta) (hs : starEach [e] X.env = [(false, eval e X.env)] := by rfl) :
    PI X (.Tuple elts kk tpos) (.Call (.Name "enumerate" p) [e] [] pos) (iEnS X.K ta) := by
  refine ⟨fun pins s σ H R I h => Call_ (ld_blt I hg hm boot_enumerate (PyProof.Rows.callWith_type1 (thn (ha.run pos pins s σ H _ I h) fun us s1 ⟨vs, H1, I1, r1, a, b, xs, ex, hq, q⟩ => ?_) hs rfl))⟩
  subst ex
  cases r1 with
  | cons r rr =>
    cases rr
    cases r
    obtain ⟨its, rv, p'⟩ := sq_lives I1 hq
    have fin : ∀ (h' : Heap), IsEnum h' (s1.heap.objs.size + 1) s1.heap.objs.size 0 .none → iterAt b h' s1.heap.objs.size a 0 → (∀ c o, s1.heap.get? c = some o → h'.get? c = some o) →
        wpAny (model X.prog X.w) X.A (pyIter (.ref (s1.heap.objs.size + 1))) (PIE X pins σ (.Tuple elts kk tpos) R) X.xe { s1 with heap := h' } := fun h' he hit hk => by
      refine wpAny_pyIter_enum (s := { s1 with heap := h' }) he ⟨s1.heap.objs.size + 1, [s1.heap.objs.size + 1, s1.heap.objs.size], _, _, H1, rfl, I1.kept (t' := s1.toks) hk, turn_en b a (s1.heap.objs.size + 1) s1.heap.objs.size, ⟨⟨.none, he⟩, hit, Nat.succ_ne_self _⟩, fun c hc => ?_, q⟩
      have hle : s1.heap.objs.size ≤ c := by
        rcases List.mem_cons.mp hc with z | z
        · rw [z]; exact Nat.le_add_right _ _
        · rw [List.mem_singleton.mp z]; exact Nat.le_refl _
      exact I1.fpOk hle (I1.hok.fresh hle)
    cases b with
    | true => exact enum_made (begins_list a its.toArray) p' fun h' he ho hk => fin h' he ⟨_, ho, rfl, rfl⟩ hk
    | false => exact enum_made (begins_tuple a its.toArray) p' fun h' he ho hk => fin h' he ⟨_, ho, rfl, rfl⟩ hk
theorem for_en {K : PySem.W.Frag} {b : Bool} {a : Addr} {xs : List V} {g : TG} {tb : TS} {D : Ends} {σ : L2.St} {H : Hp} (Pv : Nat → L2.St → Hp → Prop) (h0 : Pv 0 σ H) (hl : ∀ i σ H, i ≤ xs.length → Pv i σ H → Sq K b H a xs)
    (hs : ∀ (i : Nat) (x : V) (T : Addr) (σ : L2.St) (H : Hp), xs[i]? = some x → H T = none → Pv i σ H → g (.ref T) σ (upd H T (.tup [.int (i : Nat), x])) fun σ2 H2 => tb { D with nx := Pv (i + 1), ct := Pv (i + 1), bk := D.nx } σ2 H2) (hd : ∀ σ H, Pv xs.length σ H → D.nx σ H) :
    ∃ W : Nat → Nat → L2.St → Hp → Prop, (∃ m, W 0 m σ H) ∧ ∀ i m σ H, W i m σ H →
      ((ItN K b a).stop i H ∧ D.nx σ H) ∨ ((ItN K b a).go i H ∧ ∃ N : L2.St → Hp → Prop, (∀ σ' H', N σ' H' → ∃ m', m' < m ∧ W (i + 1) m' σ' H') ∧
        ∀ x H', (ItN K b a).yld i H x H' → g x σ H' fun σ2 H2 => tb { D with nx := N, ct := N, bk := D.nx } σ2 H2) := by
  refine ⟨fun i m σ H => m = xs.length - i ∧ i ≤ xs.length ∧ Pv i σ H, ⟨xs.length, rfl, Nat.zero_le _, h0⟩, fun i m σ H ⟨em, hi, p⟩ => ?_⟩
  have q := hl i σ H hi p
  rcases Nat.lt_or_eq_of_le hi with lt | e
  · refine .inr ⟨⟨xs, xs[i], q, List.getElem?_eq_getElem lt⟩, Pv (i + 1), fun σ' H' p' => ⟨xs.length - (i + 1), by omega, rfl, lt, p'⟩, fun v H' ⟨T, x, ev, nT, eH, at_⟩ => ?_⟩
    subst ev eH
    exact hs i x T σ H (at_ xs q) nT p
  · subst e
    exact .inl ⟨⟨xs, q, rfl⟩, hd σ H p⟩
end KnE

set_option Elab.async false
set_option linter.all false
set_option maxRecDepth 100000
set_option maxHeartbeats 4000000
/-! What a walk of a comprehension asks: into a set over a list or a tuple, into a dict over a list. -/
namespace KnC
open PySem PySem.Spec PyProof.Rows L2
theorem sc_seq {P : Program} {w : World} {K : PySem.W.Frag} {b : Bool} {a : Addr} {xs : List V} {g : TG} {tt : TT} {te : TE} {vs : List Nat} {σ : L2.St} {H1 : Hp} {D : Addr} {Qd : Hp → Prop} (Pv : Nat → Hp → Prop) (h0 : Pv 0 (upd H1 D (KnS.SetL P w D []))) (hl : ∀ i H, i ≤ xs.length → Pv i H → KnE.Sq K b H a xs)
    (hs : ∀ i x H, xs[i]? = some x → Pv i H → g x (wipe σ vs) H fun σ2 H2 => wipe σ2 vs = wipe σ vs ∧ tt σ2 H2 fun c H3 =>
      if c = true then te σ2 H3 fun y H4 => ∃ (k : Key) (ks : List Key), y = kV k ∧ H4 D = some (KnS.SetL P w D ks) ∧ ks.length + 1 < scanBound ∧ Pv (i + 1) (upd H4 D (KnS.SetL P w D (KnS.addL ks k))) else Pv (i + 1) H3) (hd : ∀ H, Pv xs.length H → Qd H) :
    ∃ W : Nat → Nat → Hp → Prop, (∃ m, W 0 m (upd H1 D (KnS.SetL P w D []))) ∧ ∀ i m H, W i m H → ((KnE.ItS K b a).stop i H ∧ Qd H) ∨
      ((KnE.ItS K b a).go i H ∧ ∃ Nx : Hp → Prop, (∀ H', Nx H' → ∃ m', m' < m ∧ W (i + 1) m' H') ∧ ∀ x H', (KnE.ItS K b a).yld i H x H' → g x (wipe σ vs) H' fun σ2 H2 => wipe σ2 vs = wipe σ vs ∧ tt σ2 H2 fun c H3 =>
        if c = true then te σ2 H3 fun y H4 => ∃ (k : Key) (ks : List Key), y = kV k ∧ H4 D = some (KnS.SetL P w D ks) ∧ ks.length + 1 < scanBound ∧ Nx (upd H4 D (KnS.SetL P w D (KnS.addL ks k))) else Nx H3) := by
  refine ⟨fun i m H => m = xs.length - i ∧ i ≤ xs.length ∧ Pv i H, ⟨xs.length, by simp, Nat.zero_le _, h0⟩, ?_⟩
  rintro i m H ⟨rfl, hi, p⟩
  have q := hl i H hi p
  cases b with
  | true =>
    by_cases hlt : i < xs.length
    · refine .inr ⟨⟨xs, xs[i], q, by simp [hlt]⟩, Pv (i + 1), fun H' p' => ⟨xs.length - (i + 1), by omega, rfl, hlt, p'⟩, fun x H' y => ?_⟩
      obtain ⟨e, y⟩ := y
      subst e
      exact hs i x _ (y xs q) p
    · have e : i = xs.length := by omega
      subst e
      exact .inl ⟨⟨xs, q, Nat.le_refl _⟩, hd H p⟩
  | false =>
    by_cases hlt : i < xs.length
    · refine .inr ⟨⟨xs, xs[i], q, by simp [hlt]⟩, Pv (i + 1), fun H' p' => ⟨xs.length - (i + 1), by omega, rfl, hlt, p'⟩, fun x H' y => ?_⟩
      obtain ⟨e, y⟩ := y
      subst e
      exact hs i x _ (y xs q) p
    · have e : i = xs.length := by omega
      subst e
      exact .inl ⟨⟨xs, q, Nat.le_refl _⟩, hd H p⟩
theorem dc_list {K : PySem.W.Frag} {a : Addr} {xs : List V} {g : TG} {tt : TT} {tk tv : TE} {vs : List Nat} {σ : L2.St} {H1 : Hp} {D : Addr} {Qd : Hp → Prop} (Pv : Nat → Hp → Prop) (h0 : Pv 0 (upd H1 D (.dK []))) (hl : ∀ i H, i ≤ xs.length → Pv i H → SqL K H a xs)
    (hs : ∀ i x H, xs[i]? = some x → Pv i H → g x (wipe σ vs) H fun σ2 H2 => wipe σ2 vs = wipe σ vs ∧ tt σ2 H2 fun b H3 =>
      if b = true then tk σ2 H3 fun y H4 => tv σ2 H4 fun z H5 => ∃ kvs k, y = kV k ∧ H5 D = some (.dK kvs) ∧ kvs.length < sizeLine ∧ Pv (i + 1) (upd H5 D (.dK (putK kvs k z))) else Pv (i + 1) H3) (hd : ∀ H, Pv xs.length H → Qd H) :
    ∃ W : Nat → Nat → Hp → Prop, (∃ m, W 0 m (upd H1 D (.dK []))) ∧ ∀ i m H, W i m H →
      ((Itl K a).stop i H ∧ Qd H) ∨ ((Itl K a).go i H ∧ ∃ Nx : Hp → Prop, (∀ H', Nx H' → ∃ m', m' < m ∧ W (i + 1) m' H') ∧ ∀ x H', (Itl K a).yld i H x H' → g x (wipe σ vs) H' fun σ2 H2 => wipe σ2 vs = wipe σ vs ∧ tt σ2 H2 fun b H3 =>
        if b = true then tk σ2 H3 fun y H4 => tv σ2 H4 fun z H5 => ∃ kvs k, y = kV k ∧ H5 D = some (.dK kvs) ∧ kvs.length < sizeLine ∧ Nx (upd H5 D (.dK (putK kvs k z))) else Nx H3) := by
  refine ⟨fun i m H => m = xs.length - i ∧ i ≤ xs.length ∧ Pv i H, ⟨xs.length, by simp, Nat.zero_le _, h0⟩, ?_⟩
  rintro i m H ⟨rfl, hi, p⟩
  have q := hl i H hi p
  by_cases hlt : i < xs.length
  · refine .inr ⟨⟨xs, xs[i], q, by simp [hlt]⟩, Pv (i + 1), fun H' p' => ⟨xs.length - (i + 1), by omega, rfl, hlt, p'⟩, fun x H' y => ?_⟩
    obtain ⟨e, y⟩ := y
    subst e
    exact hs i x _ (y xs q) p
  · have e : i = xs.length := by omega
    subst e
    exact .inl ⟨⟨xs, q, Nat.le_refl _⟩, hd H p⟩
/-- a list comprehension over a dict's keys -/
theorem lc_keys {d : Addr} {o : Obj} {kvs : List (Key × V)} {g : TG} {tt : TT} {te : TE} {vs : List Nat} {σ : L2.St} {H1 : Hp} {D : Addr} {Qd : Hp → Prop} (Pv : Nat → Hp → Prop) (h0 : Pv 0 (upd H1 D (.lst []))) (hl : ∀ i H, i ≤ kvs.length → Pv i H → H d = some (.frz o (.dK kvs)))
    (hs : ∀ i k v H, kvs[i]? = some (k, v) → Pv i H → g (kV k) (wipe σ vs) H fun σ2 H2 => wipe σ2 vs = wipe σ vs ∧ tt σ2 H2 fun b H3 =>
      if b = true then te σ2 H3 fun y H4 => ∃ acc, H4 D = some (.lst acc) ∧ acc.length < sizeLine ∧ Pv (i + 1) (upd H4 D (.lst (acc ++ [y]))) else Pv (i + 1) H3) (hd : ∀ H, Pv kvs.length H → Qd H) :
    ∃ W : Nat → Nat → Hp → Prop, (∃ m, W 0 m (upd H1 D (.lst []))) ∧ ∀ i m H, W i m H →
      ((Itk d o kvs).stop i H ∧ Qd H) ∨ ((Itk d o kvs).go i H ∧ ∃ Nx : Hp → Prop, (∀ H', Nx H' → ∃ m', m' < m ∧ W (i + 1) m' H') ∧ ∀ x H', (Itk d o kvs).yld i H x H' → g x (wipe σ vs) H' fun σ2 H2 => wipe σ2 vs = wipe σ vs ∧ tt σ2 H2 fun b H3 =>
        if b = true then te σ2 H3 fun y H4 => ∃ acc, H4 D = some (.lst acc) ∧ acc.length < sizeLine ∧ Nx (upd H4 D (.lst (acc ++ [y]))) else Nx H3) := by
  refine ⟨fun i m H => m = kvs.length - i ∧ i ≤ kvs.length ∧ Pv i H, ⟨kvs.length, by simp, Nat.zero_le _, h0⟩, ?_⟩
  rintro i m H ⟨rfl, hi, p⟩
  have q := hl i H hi p
  by_cases hlt : i < kvs.length
  · refine .inr ⟨⟨q, hlt⟩, Pv (i + 1), fun H' p' => ⟨kvs.length - (i + 1), by omega, rfl, hlt, p'⟩, fun x H' y => ?_⟩
    obtain ⟨e, k, v, ek, ex⟩ := y
    subst e ex
    exact hs i k v _ ek p
  · have e : i = kvs.length := by omega
    subst e
    exact .inl ⟨⟨q, Nat.le_refl _⟩, hd H p⟩
/-- texts as keys -/
theorem addL_strs {xs : List Str} {x : Str} : KnS.addL (xs.map Sum.inr) (Sum.inr x) = ((if x ∈ xs then xs else xs ++ [x]).map Sum.inr : List Key) := by
  unfold KnS.addL
  by_cases z : x ∈ xs
  · rw [if_pos z, if_pos (KnS.hasL_iff.mpr (List.mem_map.mpr ⟨x, z, rfl⟩))]
  · rw [if_neg z, if_neg (fun q => z (by obtain ⟨y, hy, e⟩ := List.mem_map.mp (KnS.hasL_iff.mp q); cases e; exact hy)), List.map_append]; rfl
/-- a list or a tuple by a place -/
def rIx (K : PySem.W.Frag) : R2 := fun x y H Q => rIxL K x y H Q ∨ rIxT K x y H Q
theorem ix_seq {X : Cx} {K : PySem.W.Frag} (h1 : IxR X (rIxL K)) (h2 : IxR X (rIxT K)) : IxR X (rIx K) := by
  intro value slice pins s σ H x y v u Q I rx ry h hs
  rcases h with h | h
  · exact h1 value slice pins s σ H x y v u Q I rx ry h hs
  · exact h2 value slice pins s σ H x y v u Q I rx ry h hs
/-- a branch, and what comes behind both its ways -/
theorem if_then {c : TT} {t u b : TS} {D : Ends} {σ : L2.St} {H : Hp} (T : L2.St → Hp → Prop) (h : (∀ σ2 H2, T σ2 H2 → b D σ2 H2) → tSeq (tIfS c t u) b D σ H) (k : ∀ σ2 H2, T σ2 H2 → b D σ2 H2) : tSeq (tIfS c t u) b D σ H := h k
theorem asg_if {i : Nat} {x : V} {c : TT} {t u b : TS} {D : Ends} {ra : VK} {rb rc : L2.St → Hp → Prop} {σ : L2.St} {H : Hp} (T : L2.St → Hp → Prop) (h : (∀ σ2 H2, T σ2 H2 → b D σ2 H2) → tSeq (tIfS c t u) b D (σ.set i (some x)) H) (k : ∀ σ2 H2, T σ2 H2 → b D σ2 H2) : gName i x σ H (Ends.nx { nx := tSeq (tIfS c t u) b D, rt := ra, ct := rb, bk := rc }) := h k
theorem nx_if {c : TT} {t u b : TS} {D : Ends} {ra : VK} {rb rc : L2.St → Hp → Prop} {σ : L2.St} {H : Hp} (T : L2.St → Hp → Prop) (h : (∀ σ2 H2, T σ2 H2 → b D σ2 H2) → tSeq (tIfS c t u) b D σ H) (k : ∀ σ2 H2, T σ2 H2 → b D σ2 H2) : Ends.nx { nx := tSeq (tIfS c t u) b D, rt := ra, ct := rb, bk := rc } σ H := h k
theorem un65 {k : Nat} {A : Around} (r : Room k A) : A.units + 65 < cLine := by have := r.un; omega
end KnC

set_option Elab.async false
set_option linter.all false
set_option maxRecDepth 100000
set_option maxHeartbeats 4000000
/-! list(d.values()). -/
namespace KnM
open PySem PySem.Spec PyProof.Rows L2
def tListVals (td : TE) : TE := fun σ H Q => td σ H fun x H1 => ∃ d kvs, x = .ref d ∧ Rd H1 d (.dK kvs) ∧ ∀ p, H1 p = none → Q (.ref p) (upd H1 p (.lst (kvs.map (·.2))))
theorem vals_kv {kvs : List (Key × V)} {vs : List (Key × Value)} (r : KV kvs vs) : Vals (kvs.map (·.2)) (vs.map (·.2)) := by
  unfold KV at r
  induction r with
  | nil => exact .nil
  | cons h _ ih => exact .cons h.2 ih
section
variable {X : Cx} {e : Expr} {td : TE} {p pos apos cpos : Pos}
theorem pe_listVals (hc : X.calm = true) (hg : Gl X "list") (hm : X.mg "list" = none) (he : PE X e td) (hbase : attributeBase e "values" X.env (eval e X.env) = eval e X.env := by rfl) (hline : (apos.endLine == cpos.line) = true := by rfl)
    (hs : starEach [.Call (.Attribute e "values" apos) [] [] cpos] X.env = (false, eval (.Call (.Attribute e "values" apos) [] [] cpos) X.env) :: starEach [] X.env := by rfl) :
    PE X (.Call (.Name "list" p) [.Call (.Attribute e "values" apos) [] [] cpos] [] pos) (tListVals td) := by
  refine ⟨fun pins s σ H Q I h => Call_ (ld_blt I hg hm boot_list ?_)⟩
  refine PyProof.Rows.callWith_type1 (PyProof.Rows.args_cons ?_ hs) hs rfl
  refine wpAny_Call_method (T := "dict") (id := "dict.values") hbase rfl hline F.plainAttrs_dict F.slot_dict_values F.type_dict_values (thn (he.run pins s σ H _ I h) fun u s1 ⟨x, H1, I1, rx, d, kvs, ex, hd, q⟩ => ?_)
  subst ex
  obtain rfl : u = Value.ref d := rx
  obtain ⟨z, lo, vs, rel, dd⟩ := dk_rd I1.hok hd
  obtain ⟨ep, hat⟩ := dd.dictAt
  refine ⟨dd.typeIs, dd.mapOf.noDict, ?_⟩
  show wpAny _ _ (callWith cpos (.builtin "dict.values") [.ref d] [] []) _ X.xe s1
  refine method_meetsIn F.slot_dict_values F.entry_dict_values rfl (PySem.evalArgs_none ⟨rfl, dd.typeIs, F.args_dict_values_1 _, _, meets_dict_values (mixKind X.prog X.w) d lo, ⟨vs, dd⟩, ?_⟩)
  refine PyProof.Rows.args_nil ?_
  generalize hh : s1.heap.push { cls := .type "dict_values", data := .fields #[.ref d] } = h2
  have k2 : ∀ b o, s1.heap.get? b = some o → h2.get? b = some o := fun b o e => hh ▸ Heap.get?_push_of_some _ e
  have view : h2.IsValuesView s1.heap.objs.size d := by
    rw [← hh]
    exact ⟨_, Heap.get?_push_size _ rfl, rfl, rfl⟩
  have hat2 : h2.DictAt (mixKind X.prog X.w) d vs ep := hh ▸ hat.push _
  have I2 : Inv X pins σ H1 { s1 with heap := h2 } := I1.kept (t' := s1.toks) k2
  refine PySem.W.kdl_call (s := { s1 with heap := h2 }) (PySem.W.kdl_values (knd := mixKind X.prog X.w) (kvs := vs) (ep := ep) (r := s1.heap.objs.size)) (I1.ok.hd hc) ⟨view, hat2⟩ (by rw [← rel.length]; exact z) fun h' tk acc c' hk hD hacc => ?_
  have e1 : acc.toList = vs.map (·.2) := PySem.W.kdl_vals_eq _ (by rw [Array.length_toList]; exact hacc.1) fun j v e => hacc.2 j v (by rw [← Array.getElem?_toList]; exact e)
  refine ⟨.ref h2.objs.size, upd H1 h2.objs.size (.lst (kvs.map (·.2))), I2.laid (t' := tk) hk (Nat.le_refl _) (show ObjOk X.prog X.w _ _ _ (.lst (kvs.map (·.2))) from ⟨by rw [List.length_map]; exact z, acc.toList, c', by rw [e1]; exact vals_kv rel, by rw [Array.toArray_toList]; exact hD⟩), rfl, q _ (I2.hok.fresh (Nat.le_refl _))⟩
end
end KnM

set_option Elab.async false
set_option linter.all false
set_option maxRecDepth 100000
set_option maxHeartbeats 4000000
/-! A property by its promise. -/
namespace KnP
open PySem PySem.Spec PyProof.Rows L2
structure Prp (P : Program) (w : World) (K : PySem.W.Frag) (mg : Str → Option Value) (base : Heap) (k : Nat) (C : Addr) (f : Str) (sp : Sp) : Prop where
  ex : ∃ (p g : Addr) (fd : FuncData) (ps : List Str), PropOf K C f p g ∧ FnOk P w K mg base CX0 k g fd ps sp ∧ Binds K fd ps []
theorem pe_prp {X : Cx} {k j : Nat} {C : Addr} {f : Str} {sp : Sp} {e : Expr} {ta : TE} {pos : Pos} (cl : Cls X.K C) (c : Prp X.prog X.w X.K X.mg X.base k C f sp) (hr : Room j X.A) (hk : k + 1 ≤ j) (he : PE X e ta)
    (hab : attributeBase e f X.env (eval e X.env) = eval e X.env := by rfl) : PE X (.Attribute e f pos) (tProp C sp [] E0 ta) := by
  obtain ⟨p, g, fd, ps, hp, F, b⟩ := c.ex
  exact pe_prop he cl hp F (hr.mono hk) b .nil pass0 hab
end KnP

set_option Elab.async false
set_option linter.all false
set_option maxRecDepth 100000
set_option maxHeartbeats 4000000
/-! Own special methods by their promises. -/
namespace KnW
open PySem PySem.Spec PyProof.Rows L2
structure Own (P : Program) (w : World) (K : PySem.W.Frag) (mg : Str → Option Value) (base : Heap) (k : Nat) (C : Addr) (m : Str) (sp : Sp) : Prop where
  ex : ∃ (f : Addr) (fd : FuncData) (ps : List Str), PySem.W.findIn K (.ref C) m = some (some (.ref f)) ∧ PySem.W.isFn K (.ref f) = true ∧ PySem.W.fnIn K f = true ∧ FnOk P w K mg base CX0 k f fd ps sp ∧ Binds K fd ps []
section
variable {X : Cx} {k j : Nat} {C : Addr} {sp : Sp} {a b : Expr} {ta tb : TE} {pos : Pos}
/-- a def run one frame below -/
theorem run_in1 {CX : CXT} {f : Addr} {fd : FuncData} {ps : List Str} {E : XK} {pins : List (Addr × Obj)} {σ : L2.St} {H : Hp} {s : Shared} {Q : VK} {us : List Value} {vs : List V} (F : FnOk X.prog X.w X.K X.mg X.base CX k f fd ps sp) (hr : Room (k + 1) X.A) (hb : Binds X.K fd ps []) (hx : Passes CX X E)
    (I : Inv X pins σ H s) (r : Vals vs us) (h : sp vs H Q E) : wpAny (model X.prog X.w) X.A.in1 (call (.ref f) us) (EP X pins σ Q) X.xe s := by
  have hl : us.length = ps.length := by rw [← r.length]; exact F.len _ _ _ _ h
  have hb' := hb s us I.kIn (by simpa using hl)
  rw [List.append_nil] at hb'
  refine wpAny_call (codeAny_mono (F.run X.A.in1 X.stack s H ⟨us, []⟩ us vs Q E hr.in1 I.env0.in1 hb' r h) fun r s' hq => ?_)
  cases r with
  | error e => exact hx pins σ H s e s' I hq
  | ok fl =>
    cases fl with
    | ret u => exact I.after hq
    | next => exact False.elim hq
    | brk => exact False.elim hq
    | cont => exact False.elim hq
/-- o[i] by an own __getitem__ -/
def rOwn (C : Addr) (sp : Sp) : R2 := fun x y H Q => ∃ a dx fs, x = .ref a ∧ H a = some (.ins C dx fs) ∧ sp [.ref a, y] H Q E0
theorem pe_get (c : Own X.prog X.w X.K X.mg X.base k C "__getitem__" sp) (hr : Room j X.A) (hk : k + 1 ≤ j) (ha : PE X a ta) (hb : PE X b tb)
    (hs : ∀ v u, subscripted b true v u = runValue (.builtin "lifetime.subscript" ⟨[v, u], []⟩) := by exact fun _ _ => rfl) : PE X (.Subscript a b pos) (tOp (rOwn C sp) ta tb) := by
  obtain ⟨f, fd, ps, h1, h2, h3, F, bb⟩ := c.ex
  refine ⟨fun pins s σ H Q I h => ?_⟩
  refine Subscript_ (binT ha hb I h fun v u s2 x y H2 I2 rx ry q => ?_)
  obtain ⟨o, dx, fs, rfl, eo, q⟩ := q
  cases rx
  obtain ⟨mA, O, _⟩ := ins_get I2.hok eo
  obtain ⟨od, J, _⟩ := O.look
  obtain ⟨m, hF⟩ := I2.fr
  exact PySem.W.sub_K hF I2.ok.mod.kin J h1 h3 h2 (run_in1 (vs := [.ref o, y]) F (hr.mono hk) bb pass0 I2 (.cons rfl (.cons ry .nil)) q) (hs _ _)
/-- two instances of the class compared by its own __eq__, which answers a bool -/
def rOwnEq (C : Addr) (sp : Sp) : R2 := fun x y H Q => ∃ a b dx dy fs gs, x = .ref a ∧ y = .ref b ∧ H a = some (.ins C dx fs) ∧ H b = some (.ins C dy gs) ∧ sp [.ref a, .ref b] H (fun v H' => ∃ c, v = .bl c ∧ Q (.bl c) H') E0
theorem op_ownEq (c : Own X.prog X.w X.K X.mg X.base k C "__eq__" sp) (hr : Room j X.A) (hk : k ≤ j) : OpR X (compareOp .Eq) (rOwnEq C sp) := by
  obtain ⟨f, fd, ps, h1, h2, h3, F, bb⟩ := c.ex
  intro pins s σ H x y v u Q I rx ry hq
  obtain ⟨a, b, dx, dy, fs, gs, rfl, rfl, ha, hb, q⟩ := hq
  cases rx
  cases ry
  obtain ⟨mA, J, _⟩ := ins_get I.hok ha
  obtain ⟨mB, J', _⟩ := ins_get I.hok hb
  obtain ⟨od, J, _⟩ := J.look
  obtain ⟨od', J', _⟩ := J'.look
  obtain ⟨m, hF⟩ := I.fr
  show wpAny (model X.prog X.w) X.A (richCompare .Eq (.ref a) (.ref b)) (EP X pins σ Q) X.xe s
  refine PySem.W.cmp_K (op := .Eq) (tb := .ref C) hr.units0 hF I.ok.mod.kin J J'.type (by simp [PySem.W.notFirst]) h1 h2 ?_
  have r2 : Vals [V.ref a, V.ref b] [Value.ref a, Value.ref b] := .cons rfl (.cons rfl .nil)
  refine wpAny_mono (run_fn (vs := [.ref a, .ref b]) (us := [.ref a, .ref b]) (dvs := []) (ds := []) F (hr.mono hk) bb .nil pass0 I r2 q) (fun r s' hv => ?_) fun _ _ e => e
  obtain ⟨z, H', I', rz, c, ez, q2⟩ := hv
  subst ez
  cases rz
  exact ⟨.bl c, H', I', rfl, q2⟩
end
end KnW

set_option Elab.async false
set_option linter.all false
set_option maxRecDepth 100000
set_option maxHeartbeats 4000000
/-! A dict put into another one, as a display with ** does it: from what the library says of one store. -/
namespace KnG
open PySem PySem.Spec PyProof.Rows L2
section parts
variable {M : Model} {Γ : PySem.Ctx} {p : Pos} {u : Shared} {a : Addr}
/-- which part of a dict is looked at makes no difference to a promise -/
theorem part_upd (f : Array DictEntry → Array DictEntry) (c : Option Value) (R : Unit → Pos → Shared → Prop) (B : Value → Pos → Shared → Prop) : Sem.wp M Γ (updateDict a f c) R B p u = Sem.wp M Γ (updateDict a f) R B p u := by
  simp only [updateDict, loadPart, updatePart, Sem.wp_bind', Sem.wp_load, Sem.wp_pure]
  refine propext (exists_congr fun o => and_congr_right fun _ => ?_)
  cases o.data <;> simp only [Sem.wp_bind', Sem.wp_load, Sem.wp_update, Sem.wp_pure]
theorem part_keys (f : Array DictEntry → Array DictEntry) (c : Option Value) (R : Unit → Pos → Shared → Prop) (B : Value → Pos → Shared → Prop) : Sem.wp M Γ (updateDictKeys a f c) R B p u = Sem.wp M Γ (updateDictKeys a f) R B p u := by
  simp only [updateDictKeys, lookBehind, loadPart, updatePart, Sem.wp_bind', Sem.wp_load, Sem.wp_pure]
  refine propext (exists_congr fun o => and_congr_right fun _ => ?_)
  cases o.data <;> simp only [Sem.wp_bind', Sem.wp_load, Sem.wp_update, Sem.wp_pure]
end parts
section
variable {M : Model} {A : Around} {B : Value → Shared → Prop} {u : Shared}
/-- what holds of a store by d[k] = v holds of one by a display -/
theorem put_of_set {d : Addr} {hh : Int} {key v : Value} {R : Unit → Shared → Prop} (h : wpAny M A (dictSetHashed d key hh v) R B u) : wpAny M A (dictPut d hh key v) R B u := fun Γ p hΓ => by
  have g := h Γ p hΓ
  unfold dictSetHashed at g
  unfold dictPut
  rw [Sem.wp_holding, Sem.wp_bind'] at g
  rw [Sem.wp_bind']
  refine Sem.wp_mono M Γ _ (fun r p' s' e => ?_) (fun _ _ _ e => e) p u g
  cases r with
  | none =>
    have e2 : Sem.wp M Γ (updateDictKeys d (·.push ⟨hh, key, v⟩) (keyPart key)) (fun x _ s => R x s) (fun x _ s => B x s) p' s' := by simpa [rule] using e
    rwa [part_keys] at e2
  | some i =>
    have e2 : Sem.wp M Γ (updateDict d (·.modify i fun e => { e with val := v }) (keyPart key)) (fun x _ s => R () s) (fun x _ s => B x s) p' s' := by simpa [rule, point] using e
    rwa [part_upd] at e2
end
section
variable {prog : Program} {w : World} {K : Type} [DecidableEq K] {knd : KeyKind prog w K} {A : Around} {B : Value → Shared → Prop}
/-- one dict's entries, put into another one from place i on -/
theorem put_rest {d o : Addr} {ob : Obj} {ents : Array DictEntry} {epc : Nat} {base more : List (K × Value)} (apart : d ≠ o) (dat : ob.data = .dict ents epc) (hk : KeysOf knd ents) (hp : Pairs knd ents.toList more)
    (fit : base.length + more.length ≤ sizeLine) : ∀ (n i : Nat) (u : Shared) (R : PUnit → Shared → Prop), i + n = ents.size → u.heap.get? o = some ob → u.heap.DictOf knd d (merged base (more.take i)) →
      (∀ g, g.get? o = some ob → g.DictOf knd d (merged base more) → Heap.SameBut d u.heap g → R PUnit.unit { u with heap := g }) →
      wpAny (model prog w) A (forIn (List.range' i n) PUnit.unit fun i (_ : PUnit) => (do
          let l' ← dictEntries o
          match l'[i]? with
            | some e => do
              holding [e.key, e.val] (dictPut d e.hash e.key e.val)
              let t ← dictEpoch o
              if (t != epc) = true then do
                  (unsupported "dict.changed-during-merge" : Sem PUnit)
                  pure (ForInStep.yield PUnit.unit)
                else pure (ForInStep.yield PUnit.unit)
            | _ => do
              (unsupported "dict.changed-during-merge" : Sem PUnit)
              pure (ForInStep.yield PUnit.unit) : Sem (ForInStep PUnit))) R B u := by
  have size_eq : ents.size = more.length := by
    have := hp.length
    rw [Array.length_toList] at this
    exact this.symm ▸ rfl
  intro n
  induction n with
  | zero =>
    intro i u R e1 e2 e3 e4
    have : more.take i = more := List.take_of_length_le (by omega)
    rw [this] at e3
    exact wpAny_pure (e4 _ e2 e3 (Heap.SameBut.refl _ _))
  | succ n ih =>
    intro i u R e1 e2 e3 e4
    have lt : i < ents.size := by omega
    have lm : i < more.length := by omega
    have gm : more[i]? = some (more[i].1, more[i].2) := List.getElem?_eq_getElem lm
    have ge : ents.toList[i]? = some ents[i] := by rw [Array.getElem?_toList]; exact Array.getElem?_eq_getElem lt
    have two := hp.get? ge gm
    obtain ⟨kk, kis, kh⟩ := hk _ (Array.getElem_mem lt)
    have same : kk = more[i].1 := knd.inj _ _ _ kis two.1
    have room := merged_length_le base (more.take i)
    have cut := List.length_take_le i more
    rw [List.range'_succ, List.forIn_cons]
    refine wpAny_bind (wpAny_bind (wpAny_dictEntries e2 dat ?_))
    rw [Array.getElem?_eq_getElem lt]
    dsimp only
    rw [kh, same, two.2]
    refine wpAny_bind (wpAny_holding (put_of_set (wpAny_dictSetHashed_pairs (k := more[i].1) two.1 e3 (fun g f1 f2 => ?_) (by omega))))
    have still : g.get? o = some ob := (f2.2 o apart.symm).trans e2
    refine wpAny_bind (wpAny_dictEpoch still dat ?_)
    simp only [bne_self_eq_false, Bool.false_eq_true, if_false]
    refine wpAny_pure (ih (i + 1) _ R (by omega) still ?_ fun g2 f3 f4 f5 => e4 g2 f3 f4 (f2.trans f5))
    rw [merged_take_succ base more i _ gm]
    exact f1
/-- one plain dict merged into another one, whose keys are no objects -/
theorem mergeMapping_dict {d o : Addr} {base more : List (K × Value)} {u : Shared} {R : Unit → Shared → Prop} (flat : ∀ k v, knd.is k v = true → ∀ a, v ≠ .ref a) (apart : d ≠ o) (own : (o == sysModules) = false)
    (at1 : u.heap.DictOf knd d base) (at2 : u.heap.DictOf knd o more) (go : ∀ g, g.DictOf knd d (merged base more) → g.DictOf knd o more → Heap.SameBut d u.heap g → R () { u with heap := g })
    (fit : base.length + more.length ≤ sizeLine) : wpAny (model prog w) A (mergeMapping d (.ref o) false) R B u := by
  have tail : ∀ (ob : Obj) (ents : Array DictEntry) (epc : Nat), u.heap.get? o = some ob → ob.ExactDict → ob.data = .dict ents epc → KeysOf knd ents → Pairs knd ents.toList more → (more.map (·.1)).Nodup → _ := fun ob ents epc c1 c2 c3 c4 c5 c6 =>
    put_rest (B := B) (A := A) (base := base) apart c3 c4 c5 fit ents.size 0 u R (Nat.zero_add _) c1 (by simpa [merged] using at1) fun g f1 f2 f3 => go g f2 ⟨ob, ents, epc, f1, c2, c3, c4, c5, c6⟩ f3
  have kind := at2.typeIs
  obtain ⟨ob, ents, epc, c1, c2, c3, c4, c5, c6⟩ := at2
  obtain ⟨ob1, ents1, epc1, b1, _, b3, _⟩ := at1
  have t := tail ob ents epc c1 c2 c3 c4 c5 c6
  unfold mergeMapping
  refine wpAny_bind ?_
  refine wpAny_isInstance (T := "dict") kind PySem.F.sub_dict_dict ?_
  rw [if_pos rfl]
  refine wpAny_bind (wpAny_specialOf kind F.slot_dict_iter.lookup (wpAny_bind (wpAny_pure ?_)))
  have yes : (some (Value.builtin "dict.__iter__") == some (Value.builtin "dict.__iter__")) = true := by decide +kernel
  rw [yes]
  simp only [own, Bool.false_eq_true, if_false]
  have scan : ∀ (l : List DictEntry), (∀ e ∈ l, ∀ a, e.key ≠ .ref a) → ∀ (R2 : PUnit → Shared → Prop) (f : DictEntry → PUnit → Sem (ForInStep PUnit)), (∀ e, (∀ a, e.key ≠ .ref a) → f e PUnit.unit = pure (ForInStep.yield PUnit.unit)) → R2 PUnit.unit u →
      wpAny (model prog w) A (forIn l PUnit.unit f) R2 B u := by
    intro l
    induction l with
    | nil => intro _ R2 f _ hR; exact wpAny_pure hR
    | cons e r ih =>
      intro hl R2 f hf hR
      rw [List.forIn_cons, hf e (hl e List.mem_cons_self)]
      exact wpAny_bind (wpAny_pure (ih (fun x hx => hl x (List.mem_cons_of_mem _ hx)) R2 f hf hR))
  have noref : ∀ e ∈ ents.toList, ∀ a, e.key ≠ .ref a := fun e he => by
    obtain ⟨k, kis, _⟩ := c4 e (Array.mem_toList_iff.mp he)
    exact flat k e.key kis
  refine wpAny_bind (wpAny_dictEntries b1 b3 ?_)
  split
  · refine wpAny_bind (wpAny_dictEntries c1 c3 (wpAny_bind ?_))
    rw [← Array.forIn_toList]
    refine scan _ noref _ _ (fun e he => ?_) ?_
    · cases q : e.key with
      | ref a => exact (he a q).elim
      | _ => rfl
    · refine wpAny_bind (wpAny_dictEntries c1 c3 (wpAny_bind (wpAny_dictEpoch c1 c3 (wpAny_bind ?_))))
      rw [List.range_eq_range']
      exact wpAny_mono t (fun _ _ h => wpAny_pure h) fun _ _ e => e
  · refine wpAny_bind (wpAny_dictEntries c1 c3 (wpAny_bind (wpAny_dictEpoch c1 c3 (wpAny_bind ?_))))
    rw [List.range_eq_range']
    exact wpAny_mono t (fun _ _ h => wpAny_pure h) fun _ _ e => e
end
end KnG

set_option Elab.async false
set_option linter.all false
set_option maxRecDepth 100000
set_option maxHeartbeats 4000000
/-! `{**a, **b}` of two dicts; an own operator of two instances of a class; o[i] = v by an own __setitem__. -/
namespace KnG
open PySem PySem.Spec PyProof.Rows L2
def mergeFold (a b : List (Key × V)) : List (Key × V) := b.foldl (fun acc kv => putK acc kv.1 kv.2) a
def tStar (d : Addr) (kvs : List (Key × V)) (t : TE) (σ : L2.St) (H : Hp) (Q : List (Key × V) → Hp → Prop) : Prop :=
  t σ H fun x H1 => ∃ a k1, x = .ref a ∧ a ≠ d ∧ H1 a = some (.dK k1) ∧ H1 d = some (.dK kvs) ∧ kvs.length + k1.length ≤ sizeLine ∧ Q (mergeFold kvs k1) (upd H1 d (.dK (mergeFold kvs k1)))
def tStars2 (t1 t2 : TE) : TE := fun σ H Q => ∀ d, H d = none → tStar d [] t1 σ (upd H d (.dK [])) fun k1 H1 => tStar d k1 t2 σ H1 fun _ H2 => Q (.ref d) H2
theorem mix_noref {P : Program} {w : World} (k : Key) (v : Value) (h : (mixKind P w).is k v = true) (a : Addr) : v ≠ .ref a := by
  intro e
  subst e
  cases k <;> exact nomatch h
section
variable {X : Cx} {e1 e2 : Expr} {t1 t2 : TE} {pos : Pos}
theorem star_step {α : Type} {z : α} {e : Expr} {t : TE} (he : PE X e t) {pins : List (Addr × Obj)} {σ : L2.St} {H : Hp} {s : Shared} {d : Addr} {kvs : List (Key × V)} {Q : List (Key × V) → Hp → Prop} {G : α → Shared → Prop} {E2 : Value → Value → Sem Unit} {E3 : Value → Sem Unit} {E1 : Value → Value → Sem Unit}
    (I : Inv X pins σ H s) (h : tStar d kvs t σ H Q) (hG : ∀ k1 H' s', Inv X pins σ H' s' → Q k1 H' → G z s') :
    wpAny (model X.prog X.w) X.A (do
      let m ← holding [.ref d] (do let x ← eval e X.env; standAt pos; pure x)
      (((holding [.ref d, m] (mergeMapping d m false)).onRaise fun x => E1 m x).tryCatch fun y => E2 m y).onRaise fun x => E3 x
      pure z) G X.xe s := by
  refine wpAny_bind (wpAny_holding (wpAny_bind (thn (he.run pins s σ H _ I h) fun u s1 ⟨x, H1, I1, rx, a, k1, ex, ne, ha, hd, sz, q⟩ => ?_)))
  refine wpAny_bind (wpAny_standAt (wpAny_pure ?_))
  subst ex
  cases rx
  obtain ⟨za, hsa, va, rela, da⟩ := dk_of I1.hok ha
  obtain ⟨zd, hsd, vd, reld, dd⟩ := dk_of I1.hok hd
  refine wpAny_bind (wpAny_onRaise (wpAny_tryCatch (wpAny_onRaise (wpAny_holding (mergeMapping_dict mix_noref ne.symm hsa dd da (fun h' hd' _ hs' => ?_) (by rw [← reld.length, ← rela.length]; exact sz))))))
  refine wpAny_pure (hG _ _ _ ?_ q)
  have hl : (mergeK kvs k1).length ≤ sizeLine := by
    have e := (KV.merge rela reld).length
    have e2 := merged_length_le vd va
    have e3 := reld.length
    have e4 := rela.length
    omega
  exact d_write I1 (by rw [hd]; exact True.intro) hs' (let ⟨q, _, _, hq, _⟩ := hd'; ⟨q, hq⟩) (dk_new hl hsd (KV.merge rela reld) hd')
theorem pe_stars2 (h1 : PE X e1 t1) (h2 : PE X e2 t2) : PE X (.Dict [none, none] [e1, e2] pos) (tStars2 t1 t2) := by
  refine ⟨fun pins s σ H Q I h => ?_⟩
  rw [arm_eval_Dict]
  refine wpAny_bind (wpAny_standAt ?_)
  show wpAny _ _ (dictDisplay [(none, do let x ← eval e1 X.env; standAt pos; pure x), (none, do let x ← eval e2 X.env; standAt pos; pure x)]) _ _ _
  unfold dictDisplay
  refine wpAny_bind ?_
  rw [List.forIn_cons]
  refine wpAny_bind ?_
  dsimp only
  refine wpAny_bind ?_
  rw [if_pos List.isEmpty_nil]
  refine wpAny_pure ?_
  dsimp only
  refine wpAny_bind (wpAny_alloc ?_)
  have I0 : Inv X pins σ (upd H s.heap.objs.size (.dK [])) { s with heap := s.heap.push { cls := .type "dict", data := .dict #[] } } := I.laid (a := s.heap.objs.size) (o := .dK []) (t' := s.toks) (fun _ _ q => Heap.get?_push_of_some _ q) (Nat.le_refl _) (dk_empty s.heap I.big)
  refine star_step h1 I0 (h _ (I.hok.fresh (Nat.le_refl _))) fun k1 H1 s1 I1 q1 => ?_
  dsimp only
  rw [List.forIn_cons]
  refine wpAny_bind ?_
  dsimp only
  refine wpAny_bind ?_
  rw [if_pos List.isEmpty_nil]
  refine wpAny_pure ?_
  dsimp only
  refine wpAny_bind (wpAny_pure ?_)
  refine star_step h2 I1 q1 fun k2 H2 s2 I2 q2 => ?_
  dsimp only
  rw [List.forIn_nil]
  refine wpAny_pure ?_
  dsimp only
  refine wpAny_bind ?_
  rw [if_pos List.isEmpty_nil]
  refine wpAny_pure ?_
  exact wpAny_pure ⟨.ref _, _, I2, rfl, q2⟩
end
end KnG

set_option Elab.async false
set_option linter.all false
set_option maxRecDepth 100000
set_option maxHeartbeats 4000000
/-! An own operator of two instances of a class; o[i] = v by an own __setitem__; a class made without arguments, by a default. -/
namespace KnW
open PySem PySem.Spec PyProof.Rows L2
section
variable {X : Cx} {k j : Nat} {C : Addr} {sp : Sp} {a b : Expr} {ta tb : TE} {pos : Pos}
/-- a + b by the class's own method, which answers a reference -/
def rOwnBin (C : Addr) (sp : Sp) : R2 := fun x y H Q => ∃ a b dx dy fs gs, x = .ref a ∧ y = .ref b ∧ H a = some (.ins C dx fs) ∧ H b = some (.ins C dy gs) ∧ sp [.ref a, .ref b] H (fun v H' => ∃ c, v = .ref c ∧ Q (.ref c) H') E0
theorem op_ownBin {op : Operator} {m : Str} (c : Own X.prog X.w X.K X.mg X.base k C m sp) (hm : m = PySem.dunder op.info.2) (sf : PySem.W.selfFirst X.K C = true) (hr : Room j X.A) (hk : k ≤ j) : OpR X (binaryOp op) (rOwnBin C sp) := by
  subst hm
  obtain ⟨f, fd, ps, h1, h2, h3, F, bb⟩ := c.ex
  intro pins s σ H x y v u Q I rx ry hq
  obtain ⟨a, b, dx, dy, fs, gs, rfl, rfl, ha, hb, q⟩ := hq
  cases rx
  cases ry
  obtain ⟨mA, J, _⟩ := ins_get I.hok ha
  obtain ⟨mB, J', _⟩ := ins_get I.hok hb
  obtain ⟨od, J, _⟩ := J.look
  obtain ⟨od', J', _⟩ := J'.look
  obtain ⟨m, hF⟩ := I.fr
  show wpAny (model X.prog X.w) X.A (binaryOp op (.ref a) (.ref b)) (EP X pins σ Q) X.xe s
  refine PySem.W.binop_K (op := op) hF I.ok.mod.kin J J'.type sf h1 h2 ?_
  have r2 : Vals [V.ref a, V.ref b] [Value.ref a, Value.ref b] := .cons rfl (.cons rfl .nil)
  refine wpAny_mono (run_fn (vs := [.ref a, .ref b]) (us := [.ref a, .ref b]) (dvs := []) (ds := []) F (hr.mono hk) bb .nil pass0 I r2 q) (fun r s' hv => ?_) fun _ _ e => e
  obtain ⟨z, H', I', rz, c, ez, q2⟩ := hv
  subst ez
  cases rz
  exact ⟨.ref c, H', I', rfl, q2⟩
/-- a |= b by the class's own in-place method, which answers a reference -/
def rOwnIn (C : Addr) (sp : Sp) : R2 := fun x y H Q => ∃ a dx fs, x = .ref a ∧ H a = some (.ins C dx fs) ∧ sp [.ref a, y] H (fun v H' => ∃ c, v = .ref c ∧ Q (.ref c) H') E0
theorem op_ownIn {op : Operator} {m : Str} (c : Own X.prog X.w X.K X.mg X.base k C m sp) (hm : m = PySem.dunderI op.info.2) (sf : PySem.W.selfFirst X.K C = true) (hr : Room j X.A) (hk : k ≤ j) : OpR X (inplaceOp op) (rOwnIn C sp) := by
  subst hm
  obtain ⟨f, fd, ps, h1, h2, h3, F, bb⟩ := c.ex
  intro pins s σ H x y v u Q I rx ry hq
  obtain ⟨a, dx, fs, rfl, ha, q⟩ := hq
  cases rx
  obtain ⟨mA, J, _⟩ := ins_get I.hok ha
  obtain ⟨od, J, _⟩ := J.look
  obtain ⟨m, hF⟩ := I.fr
  refine PySem.W.ksp_inplace (op := op) hF I.ok.mod.kin J sf h1 h2 ?_
  have r2 : Vals [V.ref a, y] [Value.ref a, u] := .cons rfl (.cons ry .nil)
  refine wpAny_mono (run_fn (vs := [.ref a, y]) (us := [.ref a, u]) (dvs := []) (ds := []) F (hr.mono hk) bb .nil pass0 I r2 q) (fun r s' hv => ?_) fun _ _ e => e
  obtain ⟨z, H', I', rz, w', ez, q2⟩ := hv
  subst ez
  cases rz
  exact ⟨.ref w', H', I', rfl, q2⟩
/-- o[i] = v by an own __setitem__ -/
def rSetOwn (C : Addr) (sp : Sp) : V → V → V → Hp → (Hp → Prop) → Prop := fun o i v H Q => ∃ a dx fs, o = .ref a ∧ H a = some (.ins C dx fs) ∧ sp [.ref a, i, v] H (fun _ H' => Q H') E0
theorem set_own (c : Own X.prog X.w X.K X.mg X.base k C "__setitem__" sp) (nq : PySem.W.noSeq X.K C = true) (hr : Room j X.A) (hk : k ≤ j) : PSet X (rSetOwn C sp) := by
  obtain ⟨f, fd, ps, h1, h2, h3, F, bb⟩ := c.ex
  intro pins s σ H o i v ov iv u Q I ro ri rv hq
  obtain ⟨a, dx, fs, rfl, ha, q⟩ := hq
  cases ro
  obtain ⟨mA, J, _⟩ := ins_get I.hok ha
  obtain ⟨od, J, _⟩ := J.look
  obtain ⟨m, hF⟩ := I.fr
  refine PySem.W.ksp_setItem hF I.ok.mod.kin J nq h1 h2 ?_
  have r3 : Vals [V.ref a, i, v] [Value.ref a, iv, u] := .cons rfl (.cons ri (.cons rv .nil))
  refine wpAny_mono (run_fn (vs := [.ref a, i, v]) (us := [.ref a, iv, u]) (dvs := []) (ds := []) F (hr.mono hk) bb .nil pass0 I r3 q) (fun r s' hv => ?_) fun _ _ e => e
  obtain ⟨z, H', I', rz, q2⟩ := hv
  exact ⟨H', I', q2⟩
theorem pe_mk0 {x : Str} {dvs : List V} {p : Pos} (c : C8.Mak X.prog X.w X.K X.mg X.base k x C sp dvs) (hr : Room j X.A) (hk : k + 1 ≤ j) (hg : Gl X x) (hdb : (x == ("__debug__" : Str)) = false := by decide) :
    PE X (.Call (.Name x p) [] [] pos) (tMake C sp dvs E0 tNil) := by
  obtain ⟨f, fd, ps, ds, M, F, hm, b, d⟩ := c.ex
  exact pe_make0 M F (hr.mono hk) hg hm b d pass0 hdb
end
theorem binds_less {K : PySem.W.Frag} {x qual : Str} {st : Stmt} {f T : Addr} {oc : Value} {od an : Option Addr} {osl : Array (Option Value)} {kV doc pm cdv ct : Value} {to : Obj} {tn : Nat} {its : List Value} {dvs : List V} {ps : List Str} (n : Nat)
    (l : K.lookup f = some ⟨oc, od, .func (PySem.W.fnOf x qual (defArgs st) (defBody st) (defScope st) (.ref T) kV doc pm an cdv ct), osl⟩) (c : PySem.W.codeIn K cdv qual = true) (k : PySem.W.keepIn K (.ref f) = true)
    (lT : K.lookup T = some to) (oT : to.data = .seq its.toArray tn) (rT : Vals dvs its) (hd : dvs ≠ []) (hn : n + dvs.length = ps.length)
    (h : ∀ (T : Addr) (kV doc pm : Value) (an : Option Addr) (cdv ct : Value) (us its : List Value), us.length = n → its.length = dvs.length →
      ∃ k, bindArgs (PySem.W.fnOf x qual (defArgs st) (defBody st) (defScope st) (.ref T) kV doc pm an cdv ct) ⟨us, []⟩ = seqItems? (.ref T) >>= k ∧ k (some its.toArray) = pure (ps.zip (us ++ its))) : ∃ ds, Vals dvs ds ∧ Binds K (PySem.W.fnOf x qual (defArgs st) (defBody st) (defScope st) (.ref T) kV doc pm an cdv ct) ps ds := by
  have F : FunD K x qual (defArgs st) (defBody st) (defScope st) dvs [] f (PySem.W.fnOf x qual (defArgs st) (defBody st) (defScope st) (.ref T) kV doc pm an cdv ct) :=
    ⟨⟨oc, od, .ref T, kV, doc, pm, an, cdv, ct, osl, rfl, l, c, .inr ⟨hd, T, to, its, tn, rfl, lT, oT, rT⟩, .inl rfl⟩, k⟩
  exact FunD.binds1 F (ps := ps) n 0 hd hn h
end KnW

set_option Elab.async false
set_option linter.all false
set_option maxRecDepth 100000
set_option maxHeartbeats 4000000
/-! An instance with an own __contains__, __len__: k in o, k not in o, len(o). -/
namespace KnW
open PySem PySem.Spec PyProof.Rows L2
section
variable {X : Cx} {k j : Nat} {C : Addr} {sp : Sp}
def rOwnHas (C : Addr) (sp : Sp) (neg : Bool) : R2 := fun x y H Q => ∃ a dx fs, y = .ref a ∧ H a = some (.ins C dx fs) ∧ sp [.ref a, x] H (fun v H' => ∃ c, v = .bl c ∧ Q (.bl (if neg then !c else c)) H') E0
theorem op_ownHas (c : Own X.prog X.w X.K X.mg X.base k C "__contains__" sp) (hr : Room j X.A) (hk : k ≤ j) : OpR X (compareOp .In) (rOwnHas C sp false) := by
  obtain ⟨f, fd, ps, h1, h2, h3, F, bb⟩ := c.ex
  intro pins s σ H x y v u Q I rx ry hq
  obtain ⟨a, dx, fs, rfl, ha, q⟩ := hq
  cases ry
  obtain ⟨mA, J, _⟩ := ins_get I.hok ha
  obtain ⟨od, J, _⟩ := J.look
  obtain ⟨m, hF⟩ := I.fr
  refine PySem.W.in_K hF I.ok.mod.kin J h1 h2 ?_
  refine wpAny_mono (run_fn (vs := [.ref a, x]) (us := [.ref a, v]) (dvs := []) (ds := []) F (hr.mono hk) bb .nil pass0 I (.cons rfl (.cons rx .nil)) q) (fun r s' hv => ?_) fun _ _ e => e
  obtain ⟨z, H', I', rz, b, ez, q2⟩ := hv
  subst ez
  cases rz
  exact wpAny_pure ⟨.bl b, H', I', rfl, q2⟩
theorem op_ownHasNot (c : Own X.prog X.w X.K X.mg X.base k C "__contains__" sp) (hr : Room j X.A) (hk : k ≤ j) : OpR X (compareOp .NotIn) (rOwnHas C sp true) := by
  obtain ⟨f, fd, ps, h1, h2, h3, F, bb⟩ := c.ex
  intro pins s σ H x y v u Q I rx ry hq
  obtain ⟨a, dx, fs, rfl, ha, q⟩ := hq
  cases ry
  obtain ⟨mA, J, _⟩ := ins_get I.hok ha
  obtain ⟨od, J, _⟩ := J.look
  obtain ⟨m, hF⟩ := I.fr
  refine PySem.W.notIn_K hF I.ok.mod.kin J h1 h2 ?_
  refine wpAny_mono (run_fn (vs := [.ref a, x]) (us := [.ref a, v]) (dvs := []) (ds := []) F (hr.mono hk) bb .nil pass0 I (.cons rfl (.cons rx .nil)) q) (fun r s' hv => ?_) fun _ _ e => e
  obtain ⟨z, H', I', rz, b, ez, q2⟩ := hv
  subst ez
  cases rz
  exact wpAny_pure ⟨.bl (!b), H', I', rfl, q2⟩
def rOwnLen (C : Addr) (sp : Sp) : List V → Hp → VK → Prop := fun xs H Q => ∃ a dx fs, xs = [.ref a] ∧ H a = some (.ins C dx fs) ∧ sp [.ref a] H (fun v H' => ∃ n : Nat, v = .int (n : Int) ∧ n ≤ 1000000 ∧ Q (.int (n : Int)) H') E0
theorem cr_ownLen (c : Own X.prog X.w X.K X.mg X.base k C "__len__" sp) (hr : Room j X.A) (hk : k + 1 ≤ j) : CallR X (.builtin "len") (rOwnLen C sp) := by
  obtain ⟨f, fd, ps, h1, h2, h3, F, bb⟩ := c.ex
  intro pins s σ H xs us Q I r hq
  obtain ⟨a, dx, fs, rfl, ha, q⟩ := hq
  obtain ⟨u, rfl, rx⟩ := vals1 r
  cases rx
  obtain ⟨mA, J, _⟩ := ins_get I.hok ha
  obtain ⟨od, J, _⟩ := J.look
  obtain ⟨m, hF⟩ := I.fr
  refine PySem.W.len_K hF I.ok.mod.kin J h1 h2 ?_
  refine wpAny_mono (run_in1 (vs := [.ref a]) F (hr.mono hk) bb pass0 I (.cons rfl .nil) q) (fun r s' hv => ?_) fun _ _ e => e
  obtain ⟨z, H', I', rz, n, ez, l, q2⟩ := hv
  subst ez
  obtain ⟨t, rfl⟩ := rz
  have small_ : ((n : Int)) < 2 ^ 63 := by
    have : (1000000 : Int) < 2 ^ 63 := by decide
    omega
  exact ⟨⟨Int.natCast_nonneg n, small_⟩, .int n, H', I'.tok _, ⟨_, rfl⟩, q2⟩
end
end KnW

set_option Elab.async false
set_option linter.all false
set_option maxRecDepth 100000
set_option maxHeartbeats 4000000
/-! An own operator whose other side is a built-in dict, list or tuple. -/
namespace KnW
open PySem PySem.Spec PyProof.Rows L2
section
variable {P : Program} {w : World} {A : Around} {E : Value → Shared → Prop} {s : Shared} {K : PySem.W.Frag} {x b C L f : Addr} {h₀ : Heap} {m : Str → Option Value} {ox : Obj} {od : Option Obj} {T : String}
theorem looks_typ {v : Value} {ob : Obj} (e : s.heap.get? b = some ob) (c : ob.cls = .type T) (hv : v = .ref b) : PySem.W.Looks (model P w) s.heap (typeOf v) (.type T) := fun A Q E s' k q => by
  subst hv
  exact wpAny_typeOf_ref (k _ _ e) (by rw [c]; exact q)
/-- what is known of the two names of an operator at a built-in type -/
structure Side (K : PySem.W.Frag) (C : Addr) (nm : String) (T : String) : Prop where
  f : ∃ fo, PySem.W.findIn K (.type T) (PySem.dunder nm) = some fo
  r : ∃ ro, PySem.W.findIn K (.type T) (dunderR nm) = some ro
  no : PySem.W.subIn K (.type T) (.ref C) = some false
open PySem.W in
theorem bin_left {op : Operator} {y : Value} {rc : Option Value} {Q : Value → Shared → Prop} (F : Fr h₀ L s.heap m) (X₀ : K.In h₀) (I : InstAt s.heap x ox C od) (hb : Looks (model P w) s.heap (typeOf y) (.type T)) (hc : selfFirst K C = true)
    (hs : findIn K (.ref C) (PySem.dunder op.info.2) = some (some (.ref f))) (hf : isFn K (.ref f) = true) (hr : findIn K (.ref C) (dunderR op.info.2) = some rc) (hp : rc = none ∨ ∃ g : Addr, rc = some (.ref g)) (sd : Side K C op.info.2 T)
    (h : wpAny (model P w) A (call (.ref f) [.ref x, y]) (PySem.W.CmpBack Q) E s) : wpAny (model P w) A (binaryOp op (.ref x) y) Q E s := by
  obtain ⟨⟨fo, e1⟩, ⟨ro, e2⟩, e3⟩ := sd
  have KI := X₀.keeps F.keep
  obtain ⟨cd, more, hcd, hmro⟩ := ksp_first hc
  rcases info : op.info with ⟨sy, nam⟩
  rw [info] at hs hr e1 e2
  dsimp only at hs hr e1 e2
  have go := ksp_try KI I hs hf h
  obtain ⟨hh, gg, dd, tt, oo⟩ := s
  have l1 : Looks (model P w) hh (typeOf (.ref x)) (.ref C) := I.type
  have l3 := fills_K (M := model P w) KI hcd hmro hs
  have l4 := ksp_fillsT (M := model P w) KI e1 e2
  have l5 := looks_subIn (M := model P w) KI e3
  have l6 := ksp_inPy (M := model P w) KI hs hr hp
  have l7 : Looks (model P w) hh (numberSlotInPython (.type T) nam) false := .of_pure rfl
  have l8 := looks_findIn (M := model P w) KI e2
  generalize ((fo.isSome && !isSeqSlot fo) || (ro.isSome && !isSeqSlot ro)) = rt at l4
  have ne : (Value.ref C == Value.type T) = false := Bool.eq_false_iff.mpr fun q => by cases beq_iff_eq.mp q
  simp only [binaryOp, info]
  refine wpAny_holding (wpAny_bind (?_ : wpAny _ _ (binaryOp1 nam _ _) _ _ _))
  unfold binaryOp1
  refine wpAny_bind (l1.at (wpAny_bind (hb.at (wpAny_bind (l3.at ?_)))))
  simp only [ne, Bool.false_eq_true, if_false]
  cases rt with
  | false =>
    ksp_lk
    exact wpAny_mono go (fun r s' ⟨v, ev, q⟩ => by subst ev; ksp_lk; exact q) fun _ _ z => z
  | true =>
    ksp_lk
    exact wpAny_mono go (fun r s' ⟨v, ev, q⟩ => by subst ev; ksp_lk; exact q) fun _ _ z => z
open PySem.W in
theorem dict_or_not {Q : Value → Shared → Prop} (hd : s.TypeIs (.ref b) "dict") (hx : Looks (model P w) s.heap (typeOf (.ref x)) (.ref C)) (hsub : Looks (model P w) s.heap (isSubtype (.ref C) (.type "dict")) false) (h : Q .notImplemented s) :
    wpAny (model P w) A (call (.builtin "dict.__or__") [.ref b, .ref x]) Q E s := by
  refine wpAny_call_entry PySem.F.slot_dict_or hd PySem.F.entry_dict_or ?_ (PySem.F.args_dict_or_2 _ _)
  unfold Builtin.«dict.__or__» Builtin.Dict.dictSlotArgs
  refine wpAny_bind (wpAny_bind (wpAny_notOrdered_dict hd ?_))
  refine wpAny_bind (?_ : wpAny _ _ (slotArgs _ _ _) _ _ _)
  unfold slotArgs
  show wpAny _ _ (pure (Value.ref b, [Value.ref x])) _ _ _
  refine wpAny_pure (wpAny_pure ?_)
  show wpAny _ _ ((isInstance (.ref b) (.type "dict") <&&> isInstance (.ref x) (.type "dict")) >>= fun c => if (!c) = true then _ else _) _ _ _
  refine wpAny_bind (wpAny_bind (wpAny_isInstance hd PySem.F.sub_dict_dict ?_))
  refine (?_ : wpAny _ _ (isInstance (.ref x) (.type "dict")) _ _ _)
  unfold isInstance
  refine wpAny_bind (hx.here (hsub.here ?_))
  rw [if_pos (show (!false) = true from rfl)]
  refine wpAny_bind (wpAny_rule ?_)
  exact wpAny_pure ⟨_, rfl, h⟩
open PySem.W in
/-- a dict on the left, whose own operator says that it does not know the other side, or that has none -/
theorem bin_right {op : Operator} {g : Addr} {Q : Value → Shared → Prop} (F : Fr h₀ L s.heap m) (X₀ : K.In h₀) (I : InstAt s.heap x ox C od) (hd : s.TypeIs (.ref b) "dict") (hc : selfFirst K C = true) (hop : op = .BitOr ∨ op = .BitAnd)
    (hl : findIn K (.ref C) (PySem.dunder op.info.2) = some (some (.ref g))) (hs : findIn K (.ref C) (dunderR op.info.2) = some (some (.ref f))) (hf : isFn K (.ref f) = true) (hsub : subIn K (.ref C) (.type "dict") = some false)
    (h : wpAny (model P w) A (call (.ref f) [.ref x, .ref b]) (PySem.W.CmpBack Q) E s) : wpAny (model P w) A (binaryOp op (.ref b) (.ref x)) Q E s := by
  have KI := X₀.keeps F.keep
  obtain ⟨cd, more, hcd, hmro⟩ := ksp_first hc
  have go := ksp_try KI I hs hf h
  obtain ⟨od', hod, hcl⟩ := id hd
  have hb : Looks (model P w) s.heap (typeOf (.ref b)) (.type "dict") := looks_typ hod hcl rfl
  have l1 : Looks (model P w) s.heap (typeOf (.ref x)) (.ref C) := I.type
  have l5 := looks_subIn (M := model P w) KI hsub
  have l3 := fills_K (M := model P w) (nm := op.info.2) KI hcd hmro hl
  have ne : (Value.type "dict" == Value.ref C) = false := Bool.eq_false_iff.mpr fun q => by cases beq_iff_eq.mp q
  have last : ∀ (R : Option Value → Shared → Prop), (∀ v s', Q v s' → R (some v) s') → wpAny (model P w) A (tryMethod (.ref x) (dunderR op.info.2) (.ref b)) R E s := fun R hR => wpAny_mono go (fun r s' ⟨v, ev, q⟩ => ev ▸ hR v s' q) fun _ _ z => z
  rcases hop with rfl | rfl
  · have l4 : Looks (model P w) s.heap (fillsNumberSlot (.type "dict") "or") true := .of_pure PySem.F.fills_dict_or
    have nots : ∀ (R : Option Value → Shared → Prop), R none s → wpAny (model P w) A (tryMethod (.ref b) (PySem.dunder "or") (.ref x)) R E s := fun R hR => by
      unfold tryMethod
      refine wpAny_bind (wpAny_callSpecial?_slot hd PySem.F.slot_dict_or (dict_or_not hd l1 l5 ?_))
      exact wpAny_pure hR
    have l7 : Looks (model P w) s.heap (numberSlotInPython (.type "dict") "or") false := .of_pure rfl
    simp only [binaryOp, show Operator.BitOr.info = ("|", "or") from rfl] at *
    refine wpAny_holding (wpAny_bind (?_ : wpAny _ _ (binaryOp1 "or" _ _) _ _ _))
    unfold binaryOp1
    refine wpAny_bind (hb.here (wpAny_bind (l1.here (wpAny_bind (l4.here ?_)))))
    simp only [ne, Bool.false_eq_true, if_false]
    refine wpAny_bind (l3.here ?_)
    rw [if_pos (show (true && true) = true from rfl)]
    refine wpAny_bind (l5.here ?_)
    simp only [Bool.false_eq_true, if_false, Bool.not_false, Bool.and_self, if_true, Bool.and_true]
    refine wpAny_bind (l7.here ?_)
    simp only [Bool.false_eq_true, if_false]
    refine wpAny_bind (nots _ ?_)
    dsimp only
    refine wpAny_bind (last _ fun v s' q => ?_)
    dsimp only
    exact wpAny_bind (wpAny_rule (wpAny_pure (wpAny_pure q)))
  · have l4 : Looks (model P w) s.heap (fillsNumberSlot (.type "dict") "and") false := .of_pure (by kernel_rfl)
    simp only [binaryOp, show Operator.BitAnd.info = ("&", "and") from rfl] at *
    refine wpAny_holding (wpAny_bind (?_ : wpAny _ _ (binaryOp1 "and" _ _) _ _ _))
    unfold binaryOp1
    refine wpAny_bind (hb.here (wpAny_bind (l1.here (wpAny_bind (l4.here ?_)))))
    simp only [ne, Bool.false_eq_true, if_false]
    refine wpAny_bind (l3.here ?_)
    simp only [Bool.false_eq_true, if_false, Bool.not_false, Bool.and_self, if_true, Bool.and_true, Bool.false_and]
    refine wpAny_bind (wpAny_pure ?_)
    simp only [Bool.false_eq_true, if_false]
    refine wpAny_bind (last _ fun v s' q => ?_)
    dsimp only
    exact wpAny_bind (wpAny_rule (wpAny_pure (wpAny_pure q)))
end
end KnW

set_option Elab.async false
set_option linter.all false
set_option maxRecDepth 100000
set_option maxHeartbeats 4000000
/-! a + b by an own method where b is a dict, a list or a tuple; a + b by an own reflected method where a is a dict. -/
namespace KnW
open PySem PySem.Spec PyProof.Rows L2
/-- a value of one of these built-in types -/
def TyB (K : PySem.W.Frag) (T : String) (y : V) (H : Hp) : Prop := tyV K T y H ∨ (T = "tuple" ∧ ∃ p xs, y = .ref p ∧ H p = some (.tup xs))
theorem TyB.is {X : Cx} {pins : List (Addr × Obj)} {σ : L2.St} {H : Hp} {s : Shared} {T : String} {y : V} {v : Value} (I : Inv X pins σ H s) (r : RelV y v) (t : TyB X.K T y H) (nt : ∀ z, T ≠ "str" ∧ T ≠ "int" ∧ T ≠ z ++ "?") : ∃ b ob, v = .ref b ∧ s.heap.get? b = some ob ∧ ob.cls = .type T := by
  rcases t with t | ⟨rfl, p, xs, rfl, hp⟩
  · obtain ⟨h1, _⟩ := tyV_is I r t
    cases y with
    | ref p =>
      cases r
      obtain ⟨o, e, c⟩ := h1
      exact ⟨p, o, rfl, e, c⟩
    | str z => exact ((nt "").1 t).elim
    | int z => exact ((nt "").2.1 t).elim
    | _ => exact False.elim t
  · cases r
    obtain ⟨_, its, _, pl⟩ := I.hok p _ hp
    obtain ⟨ob, e, c, _⟩ := pl
    exact ⟨p, ob, rfl, e, c⟩
theorem side_of {K : PySem.W.Frag} {C : Addr} {nm : String} {T : String} (hn : nm = "or" ∨ nm = "and" ∨ nm = "sub") (hT : T = "dict" ∨ T = "list" ∨ T = "tuple") : Side K C nm T := by
  have m1 : PySem.fastBuiltinMro "dict" = some [.type "dict", .type "object"] := by decide +kernel
  have m2 : PySem.fastBuiltinMro "list" = some [.type "list", .type "object"] := by decide +kernel
  have m3 : PySem.fastBuiltinMro "tuple" = some [.type "tuple", .type "object"] := by decide +kernel
  refine ⟨?_, ?_, ?_⟩
  · refine Option.isSome_iff_exists.mp ?_
    show (fastLookup T (PySem.dunder nm)).isSome = true
    rcases hn with rfl | rfl | rfl <;> rcases hT with rfl | rfl | rfl <;> decide +kernel
  · refine Option.isSome_iff_exists.mp ?_
    show (fastLookup T (dunderR nm)).isSome = true
    rcases hn with rfl | rfl | rfl <;> rcases hT with rfl | rfl | rfl <;> decide +kernel
  · show (PySem.fastBuiltinMro T).map (·.contains (.ref C)) = some false
    rcases hT with rfl | rfl | rfl
    · rw [m1]; rfl
    · rw [m2]; rfl
    · rw [m3]; rfl
section
variable {X : Cx} {k j : Nat} {C : Addr} {sp : Sp}
def rOwnBinA (K : PySem.W.Frag) (C : Addr) (sp : Sp) : R2 := fun x y H Q => ∃ a dx fs, x = .ref a ∧ H a = some (.ins C dx fs) ∧ ((∃ b dy gs, y = .ref b ∧ H b = some (.ins C dy gs)) ∨ ∃ T, (T = "dict" ∨ T = "list" ∨ T = "tuple") ∧ TyB K T y H) ∧
  sp [.ref a, y] H (fun v H' => ∃ c, v = .ref c ∧ Q (.ref c) H') E0
theorem op_ownBinA {op : Operator} {m : Str} (c : Own X.prog X.w X.K X.mg X.base k C m sp) (hm : m = PySem.dunder op.info.2) (sf : PySem.W.selfFirst X.K C = true) (hn : op.info.2 = "or" ∨ op.info.2 = "and" ∨ op.info.2 = "sub")
    (hrr : ∃ rc, PySem.W.findIn X.K (.ref C) (dunderR op.info.2) = some rc ∧ (rc = none ∨ ∃ g : Addr, rc = some (.ref g))) (hr : Room j X.A) (hk : k ≤ j) : OpR X (binaryOp op) (rOwnBinA X.K C sp) := by
  subst hm
  obtain ⟨f, fd, ps, h1, h2, h3, F, bb⟩ := c.ex
  intro pins s σ H x y v u Q I rx ry hq
  obtain ⟨a, dx, fs, rfl, ha, alt, q⟩ := hq
  cases rx
  obtain ⟨mA, J, _⟩ := ins_get I.hok ha
  obtain ⟨od, J, _⟩ := J.look
  obtain ⟨m, hF⟩ := I.fr
  have last : wpAny (model X.prog X.w) X.A (call (.ref f) [.ref a, u]) (PySem.W.CmpBack (EP X pins σ Q)) X.xe s := by
    refine wpAny_mono (run_fn (vs := [.ref a, y]) (us := [.ref a, u]) (dvs := []) (ds := []) F (hr.mono hk) bb .nil pass0 I (.cons rfl (.cons ry .nil)) q) (fun r s' hv => ?_) fun _ _ e => e
    obtain ⟨z, H', I', rz, c, ez, q2⟩ := hv
    subst ez
    cases rz
    exact ⟨.ref c, H', I', rfl, q2⟩
  rcases alt with ⟨b, dy, gs, rfl, hb⟩ | ⟨T, hT, ty⟩
  · cases ry
    obtain ⟨mB, J', _⟩ := ins_get I.hok hb
    obtain ⟨od', J', _⟩ := J'.look
    exact PySem.W.binop_K (op := op) hF I.ok.mod.kin J J'.type sf h1 h2 last
  · obtain ⟨b, ob, rfl, e, cl⟩ := ty.is I ry (fun z => by
      rcases hT with rfl | rfl | rfl <;> refine ⟨by decide, by decide, fun q => ?_⟩ <;> exact absurd (congrArg (fun t : String => t.toList.getLast?) q) (by simp [String.toList_append]))
    obtain ⟨rc, er, hp⟩ := hrr
    exact bin_left (op := op) hF I.ok.mod.kin J (looks_typ e cl rfl) sf h1 h2 er hp (side_of hn hT) last
/-- a | b, a & b where a is a dict -/
def rOwnRBin (K : PySem.W.Frag) (C : Addr) (sp : Sp) : R2 := fun x y H Q => ∃ a b dx fs, x = .ref b ∧ tyV K "dict" x H ∧ y = .ref a ∧ H a = some (.ins C dx fs) ∧ sp [.ref a, .ref b] H (fun v H' => ∃ c, v = .ref c ∧ Q (.ref c) H') E0
theorem op_ownRBin {op : Operator} {m ml : Str} {sp2 : Sp} {k2 : Nat} (c : Own X.prog X.w X.K X.mg X.base k C m sp) (cl : Own X.prog X.w X.K X.mg X.base k2 C ml sp2) (hm : m = dunderR op.info.2) (hml : ml = PySem.dunder op.info.2) (sf : PySem.W.selfFirst X.K C = true) (hop : op = .BitOr ∨ op = .BitAnd)
    (nd : PySem.W.subIn X.K (.ref C) (.type "dict") = some false) (hr : Room j X.A) (hk : k ≤ j) : OpR X (binaryOp op) (rOwnRBin X.K C sp) := by
  subst hm hml
  obtain ⟨f, fd, ps, h1, h2, h3, F, bb⟩ := c.ex
  obtain ⟨g, _, _, g1, _⟩ := cl.ex
  intro pins s σ H x y v u Q I rx ry hq
  obtain ⟨a, b, dx, fs, rfl, ty, rfl, ha, q⟩ := hq
  obtain ⟨tis, _⟩ := tyV_is I rx ty
  cases rx
  cases ry
  obtain ⟨mA, J, _⟩ := ins_get I.hok ha
  obtain ⟨od, J, _⟩ := J.look
  obtain ⟨m, hF⟩ := I.fr
  refine bin_right (op := op) hF I.ok.mod.kin J tis sf hop g1 h1 h2 nd ?_
  refine wpAny_mono (run_fn (vs := [.ref a, .ref b]) (us := [.ref a, .ref b]) (dvs := []) (ds := []) F (hr.mono hk) bb .nil pass0 I (.cons rfl (.cons rfl .nil)) q) (fun r s' hv => ?_) fun _ _ e => e
  obtain ⟨z, H', I', rz, c, ez, q2⟩ := hv
  subst ez
  cases rz
  exact ⟨.ref c, H', I', rfl, q2⟩
end
end KnW

set_option Elab.async false
set_option linter.all false
set_option maxRecDepth 100000
set_option maxHeartbeats 4000000
/-! isinstance of an instance or a dict; d.update(e); the reflected name of an own operator. -/
namespace KnW
open PySem PySem.Spec PyProof.Rows L2
section
variable {X : Cx} {k : Nat} {C : Addr} {sp : Sp}
theorem rr_of {m nm : Str} {P : Program} {w : World} {K : PySem.W.Frag} {mg : Str → Option Value} {base : Heap} (c : Own P w K mg base k C m sp) (e : nm = m) : ∃ rc, PySem.W.findIn K (.ref C) nm = some rc ∧ (rc = none ∨ ∃ g : Addr, rc = some (.ref g)) := by
  subst e
  obtain ⟨f, _, _, h1, _⟩ := c.ex
  exact ⟨_, h1, .inr ⟨f, rfl⟩⟩
theorem kit_dict {K : PySem.W.Frag} {C : Addr} (c : PySem.W.isClsIn K C = true) (t : PySem.W.typeIn K (.ref C) = some (.type "type")) : PySem.W.kitOne K (.type "dict") (.ref C) = some false := by
  have ne : (Value.type "dict" == Value.ref C) = false := Bool.eq_false_iff.mpr fun q => by cases beq_iff_eq.mp q
  have sub : PySem.W.subIn K (.type "dict") (.ref C) = some false := (side_of (nm := "or") (.inl rfl) (.inl rfl)).no
  have both : ((PySem.W.clsIn K C).isSome && PySem.W.typeIn K (.ref C) == some (.type "type")) = true := by
    rw [t, show (PySem.W.clsIn K C).isSome = true from c]
    simp
  unfold PySem.W.kitOne
  rw [ne]
  refine (if_neg Bool.false_ne_true).trans ?_
  show (if ((PySem.W.clsIn K C).isSome && PySem.W.typeIn K (.ref C) == some (.type "type")) = true then PySem.W.subIn K (.type "dict") (.ref C) else none) = some false
  rw [if_pos both, sub]
def rIsCA (C : Addr) : List V → Hp → VK → Prop := fun xs H Q => (∃ a dx fs, xs = [.ref a, .ref C] ∧ H a = some (.ins C dx fs) ∧ Q (.bl true) H) ∨ ∃ a kvs, xs = [.ref a, .ref C] ∧ H a = some (.dK kvs) ∧ Q (.bl false) H
theorem call_isCA (c : C8.InsC X.K C) (nd : PySem.W.kitOne X.K (.type "dict") (.ref C) = some false) : CallR X (.builtin "isinstance") (rIsCA C) := by
  intro pins s σ H xs us Q I r h
  rcases h with ⟨a, dx, fs, rfl, ha, q⟩ | ⟨a, kvs, rfl, ha, q⟩
  · exact C8.call_isC c pins s σ H _ us Q I r ⟨a, dx, fs, rfl, ha, q⟩
  · obtain ⟨u, w', rfl, ru, rw'⟩ := vals2 r
    cases rw'
    exact isinst_ok I ru (TyOf.dK ha) nd fun tk => ⟨.bl false, H, I.tok _, rfl, q⟩
def rUpdate : V → List V → Hp → VK → Prop := fun x xs H Q => ∃ d e base more, x = .ref d ∧ xs = [.ref e] ∧ d ≠ e ∧ H d = some (.dK base) ∧ H e = some (.dK more) ∧ base.length + more.length ≤ sizeLine ∧ Q .non (upd H d (.dK (KnG.mergeFold base more)))
theorem mt_update : MtR X "dict.update" rUpdate := by
  intro pins s σ H x xs v us Q I r rs h
  obtain ⟨d, e, base, more, rfl, rfl, ne, hd, he, sz, q⟩ := h
  cases r
  obtain ⟨u, rfl, ru⟩ := vals1 rs
  cases ru
  obtain ⟨ze, hse, ve, rele, de⟩ := dk_of I.hok he
  obtain ⟨zd, hsd, vd, reld, dd⟩ := dk_of I.hok hd
  refine call_meetsIn PySem.F.slot_dict_update dd.typeIs PySem.F.entry_dict_update (PySem.F.args_dict_update_2 _ _) (meets_dict_update (mixKind X.prog X.w) d e ne hse) ⟨vd, ve, dd, de, by rw [← reld.length, ← rele.length]; exact sz, fun h' hm _ hs => ?_⟩
  have hl : (mergeK base more).length ≤ sizeLine := by
    have e1 := (KV.merge rele reld).length
    have e2 := merged_length_le vd ve
    have e3 := reld.length
    have e4 := rele.length
    omega
  exact ⟨.non, _, d_write I (by rw [hd]; exact True.intro) hs (let ⟨q, _, _, hq, _⟩ := hm; ⟨q, hq⟩) (dk_new hl hsd (KV.merge rele reld) hm), rfl, q⟩
end
end KnW

set_option Elab.async false
set_option linter.all false
set_option maxRecDepth 100000
set_option maxHeartbeats 4000000
/-! An instance compared by == and != with a value of any kind: its own __eq__, and object's __ne__ over it. -/
namespace KnW
open PySem PySem.Spec PyProof.Rows L2
theorem looks_ty {X : Cx} {pins : List (Addr × Obj)} {σ : L2.St} {H : Hp} {s : Shared} {x : V} {u t : Value} (I : Inv X pins σ H s) (rx : RelV x u) (ty : TyOf X.K H x t) : PySem.W.Looks (model X.prog X.w) s.heap (typeOf u) t := by
  cases ty with
  | non => cases (show u = Value.none from rx); exact .of_pure rfl
  | bl y => cases (show u = Value.bool y from rx); exact .of_pure rfl
  | int i => obtain ⟨t, q⟩ := (show ∃ t, u = Value.int i t from rx); cases q; exact .of_pure rfl
  | str y => obtain ⟨t, q⟩ := (show ∃ t, u = Value.str y t from rx); cases q; exact .of_pure rfl
  | flt y => obtain ⟨t, q⟩ := (show ∃ t, u = Value.float y t from rx); cases q; exact .of_pure rfl
  | @lst a xs ea =>
    cases (show u = Value.ref a from rx)
    obtain ⟨_, _, n, _, e⟩ := (show ObjOk X.prog X.w H s.heap a (.lst xs) from I.hok a _ ea)
    exact looks_typ e rfl rfl
  | @frz a ob xs ea =>
    cases (show u = Value.ref a from rx)
    obtain ⟨_, _, _, n, _, e⟩ := (show ObjOk X.prog X.w H s.heap a (.frz ob (.lst xs)) from I.hok a _ ea)
    exact looks_typ e rfl rfl
  | @tup a xs ea =>
    cases (show u = Value.ref a from rx)
    obtain ⟨_, _, _, ob, e, c, _⟩ := (show ObjOk X.prog X.w H s.heap a (.tup xs) from I.hok a _ ea)
    exact looks_typ e c rfl
  | @dK a kvs ea =>
    cases (show u = Value.ref a from rx)
    obtain ⟨_, _, vs, _, ob, _, _, e, c, _⟩ := (show ObjOk X.prog X.w H s.heap a (.dK kvs) from I.hok a _ ea)
    exact looks_typ e c.1 rfl
  | @dT a kvs ea =>
    cases (show u = Value.ref a from rx)
    obtain ⟨_, _, _, _, ob, _, _, e, c, _⟩ := (show ObjOk X.prog X.w H s.heap a (.dT kvs) from I.hok a _ ea)
    exact looks_typ e c.1 rfl
  | @ins a C dx fs ea cl ha hn htk hm =>
    cases (show u = Value.ref a from rx)
    obtain ⟨mA, O, _⟩ := ins_get I.hok ea
    obtain ⟨od, J, _⟩ := O.look
    exact J.type
/-- the built-in types whose values are compared here -/
def plainTys : List String := ["NoneType", "bool", "int", "str", "list", "tuple", "dict"]
theorem sub_none {C : Addr} {l : List String} {T : String} (h : PySem.fastBuiltinMro T = some (l.map Value.type)) (K : PySem.W.Frag) : PySem.W.subIn K (.type T) (.ref C) = some false := by
  show (PySem.fastBuiltinMro T).map (·.contains (.ref C)) = some false
  rw [h, Option.map_some]
  congr 1
  rw [List.contains_eq_any_beq, List.any_eq_false]
  intro v hv
  obtain ⟨n, _, rfl⟩ := List.mem_map.mp hv
  intro q
  cases beq_iff_eq.mp q
theorem not_first {K : PySem.W.Frag} {C : Addr} {T : String} (h : T ∈ plainTys) : PySem.W.notFirst K C (.type T) = true := by
  have : PySem.W.subIn K (.type T) (.ref C) = some false := by
    unfold plainTys at h
    simp only [List.mem_cons, List.not_mem_nil, or_false] at h
    rcases h with rfl | rfl | rfl | rfl | rfl | rfl | rfl
    · exact sub_none (l := ["NoneType", "object"]) (by decide +kernel) K
    · exact sub_none (l := ["bool", "int", "object"]) (by decide +kernel) K
    · exact sub_none (l := ["int", "object"]) (by decide +kernel) K
    · exact sub_none (l := ["str", "object"]) (by decide +kernel) K
    · exact sub_none (l := ["list", "object"]) (by decide +kernel) K
    · exact sub_none (l := ["tuple", "object"]) (by decide +kernel) K
    · exact sub_none (l := ["dict", "object"]) (by decide +kernel) K
  unfold PySem.W.notFirst
  rw [this]
  simp
theorem not_first_self {K : PySem.W.Frag} {C : Addr} : PySem.W.notFirst K C (.ref C) = true := by simp [PySem.W.notFirst]
theorem not_first_of {K : PySem.W.Frag} {C D : Addr} (h : PySem.W.subIn K (.ref D) (.ref C) = some false) : PySem.W.notFirst K C (.ref D) = true := by
  unfold PySem.W.notFirst
  rw [h]
  simp
theorem kit_own {K : PySem.W.Frag} {C : Addr} {t : Value} (c : PySem.W.isClsIn K C = true) (ty : PySem.W.typeIn K (.ref C) = some (.type "type")) (n : t ≠ .ref C) (sub : PySem.W.subIn K t (.ref C) = some false) : PySem.W.kitOne K t (.ref C) = some false := by
  have ne : (t == Value.ref C) = false := beq_eq_false_iff_ne.mpr n
  have both : ((PySem.W.clsIn K C).isSome && PySem.W.typeIn K (.ref C) == some (.type "type")) = true := by
    rw [ty, show (PySem.W.clsIn K C).isSome = true from c]
    simp
  unfold PySem.W.kitOne
  rw [ne]
  refine (if_neg Bool.false_ne_true).trans ?_
  show (if ((PySem.W.clsIn K C).isSome && PySem.W.typeIn K (.ref C) == some (.type "type")) = true then PySem.W.subIn K t (.ref C) else none) = some false
  rw [if_pos both, sub]
theorem plain_sub {K : PySem.W.Frag} {C : Addr} {T : String} (h : T ∈ plainTys) : PySem.W.subIn K (.type T) (.ref C) = some false := by
  unfold plainTys at h
  simp only [List.mem_cons, List.not_mem_nil, or_false] at h
  rcases h with rfl | rfl | rfl | rfl | rfl | rfl | rfl
  · exact sub_none (l := ["NoneType", "object"]) (by decide +kernel) K
  · exact sub_none (l := ["bool", "int", "object"]) (by decide +kernel) K
  · exact sub_none (l := ["int", "object"]) (by decide +kernel) K
  · exact sub_none (l := ["str", "object"]) (by decide +kernel) K
  · exact sub_none (l := ["list", "object"]) (by decide +kernel) K
  · exact sub_none (l := ["tuple", "object"]) (by decide +kernel) K
  · exact sub_none (l := ["dict", "object"]) (by decide +kernel) K
section
variable {P : Program} {w : World} {A : Around} {E : Value → Shared → Prop} {s : Shared} {K : PySem.W.Frag} {x C L f : Addr} {h₀ : Heap} {m : Str → Option Value} {ox : Obj} {od : Option Obj} {b tb : Value}
open PySem.W in
theorem ne_own {Q : Value → Shared → Prop} (hu : A.units + 1 < cLine) (F : Fr h₀ L s.heap m) (X₀ : K.In h₀) (I : InstAt s.heap x ox C od) (hb : Looks (model P w) s.heap (typeOf b) tb) (hn : notFirst K C tb = true)
    (hne : findIn K (.ref C) "__ne__" = some (some (.builtin "object.__ne__"))) (hob : subIn K (.ref C) (.type "object") = some true) (hs : findIn K (.ref C) "__eq__" = some (some (.ref f))) (hf : isFn K (.ref f) = true)
    (h : wpAny (model P w) A.in1 (call (.ref f) [.ref x, b]) (fun v s' => ∃ c, v = .bool c ∧ Q (.bool (!c)) s') E s) : wpAny (model P w) A (richCompare .NotEq (.ref x) b) Q E s := by
  have KI := X₀.keeps F.keep
  have body : wpAny (model P w) A.in1 (Builtin.«object.__ne__» ⟨[.ref x, b], []⟩) (fun fin s' => ∃ v, fin = .done (.ret v) ∧ ∃ c, v = .bool c ∧ Q v s') E s := by
    unfold Builtin.«object.__ne__»
    refine wpAny_bind (?_ : wpAny _ _ (slotArgs _ _ _) _ _ _)
    unfold slotArgs
    show wpAny _ _ (pure (Value.ref x, [b])) _ _ _
    refine wpAny_pure ?_
    dsimp only
    refine wpAny_bind (wpAny_cRoomFor (show A.units + 1 < cLine from hu) ?_)
    refine wpAny_bind (ifBound_K KI I hs hf (wpAny_mono h (fun v s' hv => ?_) fun _ _ e => e))
    obtain ⟨c, rfl, q⟩ := hv
    dsimp only
    refine wpAny_bind (wpAny_truthy_bool ?_)
    exact wpAny_pure ⟨_, rfl, _, rfl, q⟩
  have sig : ∀ {A' : Around} {Q' : Unit → Shared → Prop}, Q' () s → wpAny (model P w) A' (checkBuiltinCall "object.__ne__" ⟨[.ref x, b], []⟩) Q' E s := fun {A' Q'} q => by
    have ha := PySem.F.cmpArgs_ne (.ref x) b
    simp only [checkBuiltinCall, PySem.F.cmpKind_ne, PySem.F.cmpSplit_ne]
    unfold isInstance
    refine wpAny_bind (wpAny_bind (I.type.here ((looks_subIn KI hob).here ?_)))
    simp only [Bool.not_true, Bool.false_eq_true, if_false]
    cases hsig : Manifest.signature? "object.__ne__" with
    | none => exact wpAny_pure q
    | some sg =>
      simp only [argsOk, hsig] at ha
      have h2 : Bind.checkArgs "object.__ne__" sg ⟨[.ref x, b], []⟩ = pure () := ha
      show wpAny _ _ (Bind.checkArgs "object.__ne__" sg ⟨[.ref x, b], []⟩) _ _ _
      rw [h2]; exact wpAny_pure q
  have called : wpAny (model P w) A (call (.builtin "object.__ne__") [.ref x, b]) (fun v s' => ∃ c, v = .bool c ∧ Q v s') E s := by
    refine wpAny_call (codeAny_call_builtin (by decide +kernel) PySem.F.cmpEntry_ne (sig ?_))
    refine wpAny_mono body (fun fin s' hv => ?_) fun _ _ e => e
    obtain ⟨v, rfl, q⟩ := hv
    exact q
  have bnd : bindSpecial (.builtin "object.__ne__") (.ref x) = pure (.builtin "object.__ne__", [.ref x]) := PySem.F.cmp_object.ne.bind _
  have one : wpAny (model P w) A (tryCompare (.ref x) "__ne__" b) (fun r s' => ∃ v, r = some v ∧ Q v s') E s := by
    unfold tryCompare
    refine wpAny_bind (?_ : wpAny _ _ (callSpecialIfBound? _ _ _) _ _ _)
    simp only [callSpecialIfBound?, bindSpecialIfBound?]
    refine wpAny_holding (wpAny_bind (wpAny_bind (?_ : wpAny _ _ (specialOf (.ref x) "__ne__") _ _ _)))
    unfold specialOf
    refine wpAny_bind (I.type.here ((looks_findIn KI hne).here ?_))
    dsimp only
    rw [bnd]
    have fin : ∀ {R : Option Value → Shared → Prop}, (∀ v s', (∃ c, v = .bool c ∧ Q v s') → R (some v) s') → wpAny (model P w) A (call (.builtin "object.__ne__") ([.ref x] ++ [b]) >>= fun v => pure (some v)) R E s := fun {R} k => wpAny_bind (wpAny_mono called (fun v s' hv => wpAny_pure (k v s' hv)) fun _ _ e => e)
    have last : ∀ v s', (∃ c, v = Value.bool c ∧ Q v s') → wpAny (model P w) A (match some v with | some .notImplemented | none => pure none | some v => pure (some v)) (fun r s' => ∃ v, r = some v ∧ Q v s') E s' := fun v s' ⟨c, e, q⟩ => by
      subst e
      exact wpAny_pure ⟨_, rfl, q⟩
    refine wpAny_bind (wpAny_askSetting (wpAny_ite ?_))
    split
    · exact wpAny_bind (wpAny_pure (wpAny_pure (fin last)))
    · exact wpAny_tryCatch (wpAny_bind (wpAny_pure (wpAny_pure (fin last))))
  unfold richCompare
  simp only [oneThing_ref]
  refine wpAny_holding (wpAny_bind (wpAny_cRoomFor (show A.units < cLine by omega) ?_))
  refine wpAny_bind (I.type.here (wpAny_bind (hb.here ?_)))
  split
  · rename_i q
    have e : subIn K tb (.ref C) = some false := by
      rcases Bool.or_eq_true_iff.mp hn with e | e
      · rw [beq_iff_eq.mp e] at q; simp at q
      · exact beq_iff_eq.mp e
    refine wpAny_bind ((looks_subIn KI e).here ?_)
    simp only [Bool.false_eq_true, if_false]
    exact wpAny_bind (wpAny_mono one (fun r s' ⟨v, ev, q⟩ => by subst ev; exact wpAny_pure q) fun _ _ e => e)
  · refine wpAny_bind (wpAny_pure ?_)
    simp only [Bool.false_eq_true, if_false]
    exact wpAny_bind (wpAny_mono one (fun r s' ⟨v, ev, q⟩ => by subst ev; exact wpAny_pure q) fun _ _ e => e)
end
section
variable {X : Cx} {k j : Nat} {C : Addr} {sp : Sp}
def rOwnCmp (K : PySem.W.Frag) (C : Addr) (sp : Sp) (neg : Bool) : R2 := fun x y H Q => ∃ a dx fs t, x = .ref a ∧ H a = some (.ins C dx fs) ∧ TyOf K H y t ∧ PySem.W.notFirst K C t = true ∧ sp [.ref a, y] H (fun v H' => ∃ c, v = .bl c ∧ Q (.bl (if neg then !c else c)) H') E0
theorem op_ownEqA (c : Own X.prog X.w X.K X.mg X.base k C "__eq__" sp) (hr : Room j X.A) (hk : k ≤ j) : OpR X (compareOp .Eq) (rOwnCmp X.K C sp false) := by
  obtain ⟨f, fd, ps, h1, h2, h3, F, bb⟩ := c.ex
  intro pins s σ H x y v u Q I rx ry hq
  obtain ⟨a, dx, fs, t, rfl, ha, ty, nf, q⟩ := hq
  have lt := looks_ty I ry ty
  cases rx
  obtain ⟨mA, J, _⟩ := ins_get I.hok ha
  obtain ⟨od, J, _⟩ := J.look
  obtain ⟨m, hF⟩ := I.fr
  show wpAny (model X.prog X.w) X.A (richCompare .Eq (.ref a) u) (EP X pins σ Q) X.xe s
  refine PySem.W.cmp_K (op := .Eq) (tb := t) hr.units0 hF I.ok.mod.kin J lt nf h1 h2 ?_
  refine wpAny_mono (run_fn (vs := [.ref a, y]) (us := [.ref a, u]) (dvs := []) (ds := []) F (hr.mono hk) bb .nil pass0 I (.cons rfl (.cons ry .nil)) q) (fun r s' hv => ?_) fun _ _ e => e
  obtain ⟨z, H', I', rz, c, ez, q2⟩ := hv
  subst ez
  cases rz
  exact ⟨.bl c, H', I', rfl, q2⟩
theorem op_ownNe (c : Own X.prog X.w X.K X.mg X.base k C "__eq__" sp) (hne : PySem.W.findIn X.K (.ref C) "__ne__" = some (some (.builtin "object.__ne__"))) (hob : PySem.W.subIn X.K (.ref C) (.type "object") = some true) (hr : Room j X.A) (hk : k + 1 ≤ j) : OpR X (compareOp .NotEq) (rOwnCmp X.K C sp true) := by
  obtain ⟨f, fd, ps, h1, h2, h3, F, bb⟩ := c.ex
  intro pins s σ H x y v u Q I rx ry hq
  obtain ⟨a, dx, fs, t, rfl, ha, ty, nf, q⟩ := hq
  have lt := looks_ty I ry ty
  cases rx
  obtain ⟨mA, J, _⟩ := ins_get I.hok ha
  obtain ⟨od, J, _⟩ := J.look
  obtain ⟨m, hF⟩ := I.fr
  show wpAny (model X.prog X.w) X.A (richCompare .NotEq (.ref a) u) (EP X pins σ Q) X.xe s
  refine ne_own (tb := t) (by have := hr.un; omega) hF I.ok.mod.kin J lt nf hne hob h1 h2 ?_
  refine wpAny_mono (run_in1 (vs := [.ref a, y]) (us := [.ref a, u]) F (hr.mono hk) bb pass0 I (.cons rfl (.cons ry .nil)) q) (fun r s' hv => ?_) fun _ _ e => e
  obtain ⟨z, H', I', rz, c, ez, q2⟩ := hv
  subst ez
  cases rz
  exact ⟨c, rfl, .bl (!c), H', I', rfl, q2⟩
end
end KnW

set_option Elab.async false
set_option linter.all false
set_option maxRecDepth 100000
/-! Order of texts, of ints; the states that steps reach. -/
namespace KnA
open PySem PySem.Spec PyProof.Rows
theorem lt_irr : ∀ a : List Nat, ltCps a a = false
  | [] => rfl
  | x :: r => by
    show (decide (x < x) || (x == x && ltCps r r)) = false
    rw [lt_irr r, decide_eq_false (Nat.lt_irrefl x)]; simp
theorem le_trans_ : ∀ {a b c : List Nat}, ltCps b a = false → ltCps c b = false → ltCps c a = false
  | [], [], [], _, _ => rfl
  | [], [], _ :: _, _, _ => rfl
  | [], _ :: _, [], _, h => by cases h
  | [], _ :: _, _ :: _, _, _ => rfl
  | _ :: _, [], _, h, _ => by cases h
  | _ :: _, _ :: _, [], _, h => by cases h
  | x :: r, y :: t, z :: u, h1, h2 => by
    have h1' : (decide (y < x) || (y == x && ltCps t r)) = false := h1
    have h2' : (decide (z < y) || (z == y && ltCps u t)) = false := h2
    show (decide (z < x) || (z == x && ltCps u r)) = false
    rw [Bool.or_eq_false_iff, decide_eq_false_iff_not, Bool.and_eq_false_iff, beq_eq_false_iff_ne] at h1' h2' ⊢
    refine ⟨by omega, ?_⟩
    by_cases e : z = x
    · right
      have e1 : y = x := by omega
      have e2 : z = y := by omega
      exact le_trans_ (h1'.2.resolve_left fun q => q e1) (h2'.2.resolve_left fun q => q e2)
    · exact .inl e
theorem le_anti : ∀ {a b : List Nat}, ltCps b a = false → ltCps a b = false → a = b
  | [], [], _, _ => rfl
  | [], _ :: _, _, h2 => by cases h2
  | _ :: _, [], h1, _ => by cases h1
  | x :: r, y :: t, h1, h2 => by
    have h1' : (decide (y < x) || (y == x && ltCps t r)) = false := h1
    have h2' : (decide (x < y) || (x == y && ltCps r t)) = false := h2
    rw [Bool.or_eq_false_iff, decide_eq_false_iff_not, Bool.and_eq_false_iff, beq_eq_false_iff_ne] at h1' h2'
    have e : x = y := by omega
    subst e
    rw [le_anti (h1'.2.resolve_left fun q => q rfl) (h2'.2.resolve_left fun q => q rfl)]
def leS (a b : Str) : Prop := ltCps b.cps.toList a.cps.toList = false
theorem leS_trans {a b c : Str} (h1 : leS a b) (h2 : leS b c) : leS a c := le_trans_ h1 h2
theorem str_ext {a b : Str} (h : a.cps.toList = b.cps.toList) : a = b := by
  cases a; cases b
  exact congrArg Str.mk (Array.toList_inj.mp h)
theorem leS_anti {a b : Str} (h1 : leS a b) (h2 : leS b a) : a = b := str_ext (le_anti h1 h2)
theorem rising_pair : ∀ {p : Str} {l : List Str}, risingS p l = true → (p :: l).Pairwise leS
  | p, [], _ => List.pairwise_singleton _ _
  | p, x :: r, h => by
    have h' : (!ltCps x.cps.toList p.cps.toList && risingS x r) = true := h
    rw [Bool.and_eq_true, Bool.not_eq_true'] at h'
    have ih := rising_pair h'.2
    refine List.pairwise_cons.mpr ⟨fun y hy => ?_, ih⟩
    rcases List.mem_cons.mp hy with z | z
    · rw [z]; exact h'.1
    · exact leS_trans h'.1 ((List.pairwise_cons.mp ih).1 y z)
theorem sorted_pair {l : List Str} (h : sortedS l = true) : l.Pairwise leS := by
  cases l with
  | nil => exact List.Pairwise.nil
  | cons x r => exact rising_pair h
theorem perm_sorted {α : Type} {R : α → α → Prop} (anti : ∀ {a b}, R a b → R b a → a = b) : ∀ {l m : List α}, l.Perm m → l.Pairwise R → m.Pairwise R → l = m
  | [], m, p, _, _ => (List.Perm.nil_eq p)
  | x :: l, [], p, _, _ => absurd p.length_eq (by simp)
  | x :: l, y :: m, p, h1, h2 => by
    have e : x = y := by
      have hx : x ∈ y :: m := p.mem_iff.mp List.mem_cons_self
      have hy : y ∈ x :: l := p.mem_iff.mpr List.mem_cons_self
      rcases List.mem_cons.mp hx with z | z
      · exact z
      · rcases List.mem_cons.mp hy with z' | z'
        · exact z'.symm
        · exact anti ((List.pairwise_cons.mp h1).1 y z') ((List.pairwise_cons.mp h2).1 x z)
    subst e
    rw [perm_sorted anti (List.perm_cons x |>.mp p) (List.pairwise_cons.mp h1).2 (List.pairwise_cons.mp h2).2]
theorem nodup_perm {α : Type} [DecidableEq α] {l m : List α} (h1 : l.Nodup) (h2 : m.Nodup) (h : ∀ x, x ∈ l ↔ x ∈ m) : l.Perm m := (List.perm_ext_iff_of_nodup h1 h2).mpr h
/-- the sorted list of these texts, each once -/
structure Words (ys : List Str) (xs : List Str) : Prop where
  up : ys.Pairwise leS
  nd : ys.Nodup
  mem : ∀ x, x ∈ ys ↔ x ∈ xs
theorem Words.uniq {ys zs xs : List Str} (a : Words ys xs) (b : Words zs xs) : ys = zs :=
  perm_sorted leS_anti (nodup_perm a.nd b.nd fun x => (a.mem x).trans (b.mem x).symm) a.up b.up
/-! ### states -/
abbrev Stp := Int × Str × Int
inductive Reach (ss : List Stp) (s0 : Int) : Int → Prop where
  | start : Reach ss s0 s0
  | step {x : Int} {w : Str} {y : Int} (h : Reach ss s0 x) (m : (x, w, y) ∈ ss) : Reach ss s0 y
structure States (ns : List Int) (ss : List Stp) (s0 : Int) : Prop where
  up : ns.Pairwise (· < ·)
  mem : ∀ x, x ∈ ns ↔ Reach ss s0 x
theorem States.uniq {a b : List Int} {ss : List Stp} {s0 : Int} (h : States a ss s0) (k : States b ss s0) : a = b := by
  have nd : ∀ {l : List Int}, l.Pairwise (· < ·) → l.Nodup := fun p => p.imp fun h e => by omega
  exact perm_sorted (R := fun x y : Int => x < y) (fun h1 h2 => by omega) (nodup_perm (nd h.up) (nd k.up) fun x => (h.mem x).trans (k.mem x).symm) h.up k.up
theorem lt_of_le {l : List Int} (h : l.Pairwise (· ≤ ·)) (d : l.Nodup) : l.Pairwise (· < ·) := by
  induction l with
  | nil => exact List.Pairwise.nil
  | cons x r ih =>
    obtain ⟨h1, h2⟩ := List.pairwise_cons.mp h
    obtain ⟨d1, d2⟩ := List.nodup_cons.mp d
    refine List.pairwise_cons.mpr ⟨fun y hy => ?_, ih h2 d2⟩
    have := h1 y hy
    have ne : x ≠ y := fun e => d1 (e ▸ hy)
    omega
/-- closed under the steps, from the start, and nothing else -/
theorem reach_of {ss : List Stp} {s0 : Int} {l : List Int} (h0 : s0 ∈ l) (hc : ∀ x w y, x ∈ l → (x, w, y) ∈ ss → y ∈ l) (hr : ∀ x ∈ l, Reach ss s0 x) (x : Int) : x ∈ l ↔ Reach ss s0 x := by
  refine ⟨hr x, fun h => ?_⟩
  induction h with
  | start => exact h0
  | step _ m ih => exact hc _ _ _ ih m
end KnA

set_option Elab.async false
set_option linter.all false
set_option maxRecDepth 100000
set_option maxHeartbeats 4000000
/-! xs[::-1] of a list. -/
namespace KnR
open PySem PySem.Spec PyProof.Rows L2
theorem pick_rev (its : List Value) : slicePick its.toArray none none (some (-1)) = its.reverse.toArray := by
  unfold slicePick
  have b : sliceBounds none none (some (-1)) its.toArray.size = ((its.length : Int) - 1, -1, -1) := by
    unfold sliceBounds
    simp
  rw [b]
  refine congrArg List.toArray ?_
  show (sliceRange ((its.length : Int) - 1) (-1) (-1)).filterMap (its.toArray[·]?) = its.reverse
  have r : sliceRange ((its.length : Int) - 1) (-1) (-1) = (List.range its.length).map fun k => its.length - 1 - k := by
    unfold sliceRange
    have c : (if (-1 : Int) > 0 then (if (its.length : Int) - 1 < -1 then (-1 - ((its.length : Int) - 1) + -1 - 1) / -1 else 0) else (if (its.length : Int) - 1 > -1 then ((its.length : Int) - 1 - -1 - -1 - 1) / (- -1) else 0)) = (its.length : Int) := by
      rw [if_neg (by decide)]
      by_cases h : (its.length : Int) - 1 > -1
      · rw [if_pos h]
        have : (- -1 : Int) = 1 := rfl
        rw [this, Int.ediv_one]
        omega
      · rw [if_neg h]; omega
    show (List.range (Int.toNat _)).map _ = _
    rw [c, Int.toNat_natCast]
    refine List.map_congr_left fun k hk => ?_
    have := List.mem_range.mp hk
    omega
  rw [r, List.filterMap_map]
  refine List.ext_getElem? fun i => ?_
  have all : ∀ n, n ≤ its.length → ((List.range n).filterMap ((fun x : Nat => its.toArray[x]?) ∘ fun k => its.length - 1 - k)) = its.reverse.take n := by
    intro n
    induction n with
    | zero => intro _; rfl
    | succ n ih =>
      intro h
      have hk : its.length - 1 - n < its.length := by omega
      have e : its.toArray[its.length - 1 - n]? = some its[its.length - 1 - n] := by
        rw [List.getElem?_toArray, List.getElem?_eq_getElem hk]
      rw [List.range_succ, List.filterMap_append, ih (by omega), List.take_add_one]
      refine congrArg (its.reverse.take n ++ ·) ?_
      have g : its.reverse[n]? = some its[its.length - 1 - n] := by
        rw [List.getElem?_reverse (by omega), List.getElem?_eq_getElem hk]
      rw [g, List.filterMap_cons, List.filterMap_nil]
      have e2 : ((fun x : Nat => its.toArray[x]?) ∘ fun k => its.length - 1 - k) n = some its[its.length - 1 - n] := e
      rw [e2]; rfl
  rw [all its.length (Nat.le_refl _), List.take_of_length_le (by rw [List.length_reverse]; exact Nat.le_refl _)]
def tRev (K : PySem.W.Frag) (te : TE) (ts : TO) : TE := fun σ H Q => te σ H fun x H1 => ts σ H1 fun o H2 => ∃ a xs, x = .ref a ∧ o = some (-1) ∧ SqL K H2 a xs ∧ ∀ p, H2 p = none → Q (.ref p) (upd H2 p (.lst xs.reverse))
section
variable {X : Cx} {e st : Expr} {te ts : TE} {p2 pos : Pos}
theorem pe_rev (he : PE X e te) (hs : PE X st ts) : PE X (.Subscript e (.Slice none none (some st) p2) pos) (tRev X.K te (tPart ts)) := by
  refine ⟨fun pins s σ H Q I h => ?_⟩
  refine Subscript_ (thn (he.run pins s σ H _ I h) fun v s1 ⟨x, H1, I1, r1, q1⟩ => ?_)
  have po : PO X (some st) (tPart ts) := po_some hs
  refine wpAny_Slice ?_
  rw [evalPart_none]
  refine wpAny_pure (wpAny_pure ?_)
  refine thn (po.run pins s1 σ H1 _ I1 q1) fun vk s3 ⟨o, H3, I3, pk, a, xs, ex, eo, hx, q3⟩ => ?_
  subst ex eo
  cases r1
  have I4 : Inv X pins σ H3 { s3 with heap := s3.heap.push { cls := .type "slice", data := .fields #[.none, .none, vk] } } := I3.kept (t' := s3.toks) fun b ob q => Heap.get?_push_of_some _ q
  obtain ⟨its, r, ht, hz⟩ := I4.list hx
  have hlen := r.length
  have hg : wpAny (model X.prog X.w) X.A (getItem (.ref a) (.ref s3.heap.objs.size)) (EP X pins σ Q) X.xe { s3 with heap := s3.heap.push { cls := .type "slice", data := .fields #[.none, .none, vk] } } := by
    refine wpAny_getItem_list_slice ht.isList (Heap.IsSliceOf.new ..) .none .none pk (by simp) ?_ (by rw [List.size_toArray]; omega)
    rw [pick_rev]
    refine ⟨.ref _, _, I4.laid (t' := s3.toks) (o := .lst xs.reverse) (fun b ob q => Heap.get?_push_of_some _ q) (Nat.le_refl _) ?_, rfl, q3 _ (I4.hok.fresh (Nat.le_refl _))⟩
    exact ⟨by rw [List.length_reverse]; exact hz, _, 0, r.reverse, Heap.get?_push_size _ rfl⟩
  show wpAny (model X.prog X.w) X.A (subscriptTail e (.Slice none none (some st) p2) (.ref a) (.ref s3.heap.objs.size)) (EP X pins σ Q) X.xe { s3 with heap := s3.heap.push { cls := .type "slice", data := .fields #[.none, .none, vk] } }
  exact tail_any (ops := [.ref a, .ref s3.heap.objs.size]) ht.isList.typeIs slot_list_getitem.lookup hg (by with_unfolding_all rfl)
end
end KnR

set_option Elab.async false
set_option linter.all false
set_option maxRecDepth 100000
set_option maxHeartbeats 4000000
/-! A def that has defaults, all of its arguments given. -/
namespace KnD
open PySem PySem.Spec PyProof.Rows L2
structure FunX (K : PySem.W.Frag) (x qual : Str) (st : Stmt) (f : Addr) (fd : FuncData) : Prop where
  ex : ∃ (oc : Value) (od : Option Addr) (dV kV doc pm : Value) (an : Option Addr) (cdv ct : Value) (osl : Array (Option Value)),
    fd = PySem.W.fnOf x qual (defArgs st) (defBody st) (defScope st) dV kV doc pm an cdv ct ∧ K.lookup f = some ⟨oc, od, .func fd, osl⟩ ∧ PySem.W.codeIn K cdv qual = true
section
variable {P : Program} {w : World} {K : PySem.W.Frag} {mg : Str → Option Value} {base : Heap}
theorem FunX.ok {x qual : Str} {st : Stmt} {f : Addr} {fd : FuncData} {N ps : List Str} {k : Nat} {sp : Sp} (F : FunX K x qual st f fd) (S : FnScope N ps (defScope st)) (len : ∀ vs H Q E, sp vs H Q E → vs.length = ps.length)
    (hbody : ∀ (cdv : Value) (A : Around) (outer : List Env) (s : Shared) (H : Hp) (vs : List V) (Q : VK) (E : XK), Room k (A.deeper (envOfC qual (defScope st) s.heap.objs.size f cdv)) → sp vs H Q E →
      ∃ t, PSs (cxOf CX0 P w K mg base N qual (defScope st) f cdv A outer s H E).nox (defBody st) t ∧ t { nx := fun _ H' => Q .non H', rt := Q } (start N vs) H) : FnOk P w K mg base CX0 (k + 1) f fd ps sp := by
  obtain ⟨oc, od, dV, kV, doc, pm, an, cdv, ct, osl, rfl, lk, hcd⟩ := F.ex
  refine fn_of lk hcd S len fun A outer s H vs Q E hr hsp => ?_
  obtain ⟨t, h, q⟩ := hbody cdv A outer s H vs Q E hr hsp
  exact ⟨t, h.nox, q⟩
/-- .. that may raise -/
theorem FunX.okX {x qual : Str} {st : Stmt} {f : Addr} {fd : FuncData} {N ps : List Str} {k : Nat} {sp : Sp} (F : FunX K x qual st f fd) (S : FnScope N ps (defScope st)) (len : ∀ vs H Q E, sp vs H Q E → vs.length = ps.length)
    (hbody : ∀ (cdv : Value) (A : Around) (outer : List Env) (s : Shared) (H : Hp) (vs : List V) (Q : VK) (E : XK), Room k (A.deeper (envOfC qual (defScope st) s.heap.objs.size f cdv)) → sp vs H Q E →
      ∃ t, PSs (cxOf (L2.CX P w) P w K mg base N qual (defScope st) f cdv A outer s H E) (defBody st) t ∧ t { nx := fun _ H' => Q .non H', rt := Q } (start N vs) H) : FnOk P w K mg base (L2.CX P w) (k + 1) f fd ps sp := by
  obtain ⟨oc, od, dV, kV, doc, pm, an, cdv, ct, osl, rfl, lk, hcd⟩ := F.ex
  exact fn_of lk hcd S len fun A outer s H vs Q E hr hsp => hbody cdv A outer s H vs Q E hr hsp
theorem binds_full {x qual : Str} {st : Stmt} {f T : Addr} {oc : Value} {od an : Option Addr} {osl : Array (Option Value)} {kV doc pm cdv ct : Value} {to : Obj} {tn : Nat} {its : List Value} {dvs : List V} {ps : List Str}
    (l : K.lookup f = some ⟨oc, od, .func (PySem.W.fnOf x qual (defArgs st) (defBody st) (defScope st) (.ref T) kV doc pm an cdv ct), osl⟩) (c : PySem.W.codeIn K cdv qual = true) (k : PySem.W.keepIn K (.ref f) = true)
    (lT : K.lookup T = some to) (oT : to.data = .seq its.toArray tn) (rT : Vals dvs its) (hd : dvs ≠ [])
    (h : ∀ (T : Addr) (kV doc pm : Value) (an : Option Addr) (cdv ct : Value) (us its : List Value), us.length = ps.length → its.length = dvs.length →
      ∃ k, bindArgs (PySem.W.fnOf x qual (defArgs st) (defBody st) (defScope st) (.ref T) kV doc pm an cdv ct) ⟨us, []⟩ = seqItems? (.ref T) >>= k ∧ k (some its.toArray) = pure (ps.zip (us ++ its.drop dvs.length))) : Binds K (PySem.W.fnOf x qual (defArgs st) (defBody st) (defScope st) (.ref T) kV doc pm an cdv ct) ps [] := by
  have F : FunD K x qual (defArgs st) (defBody st) (defScope st) dvs [] f (PySem.W.fnOf x qual (defArgs st) (defBody st) (defScope st) (.ref T) kV doc pm an cdv ct) :=
    ⟨⟨oc, od, .ref T, kV, doc, pm, an, cdv, ct, osl, rfl, l, c, .inr ⟨hd, T, to, its, tn, rfl, lT, oT, rT⟩, .inl rfl⟩, k⟩
  obtain ⟨ds, v, b⟩ := FunD.binds1 F (ps := ps) ps.length dvs.length hd (by omega) h
  rw [List.drop_length] at v
  cases v
  exact b
end
end KnD

set_option Elab.async false
set_option linter.all false
set_option maxRecDepth 100000
set_option maxHeartbeats 4000000
/-! Own errors whose base is an own error: Base.__init__(self, ..). -/
namespace KnX
open PySem PySem.Spec PyProof.Rows L2 ClX
variable {X : Cx} {o e : Expr} {es : List Expr} {to te : TE} {ta : TA} {f x : Str} {p p' p1 p2 pos : Pos} {C0 : Addr} {mc : Value}
/-- what the written part says of the base, as it is read by its name -/
structure BaseC (K : PySem.W.Frag) (C0 : Addr) (mc : Value) : Prop where
  r : CRead K C0 mc
  at_ : PySem.W.findCls K (.ref C0) mc "__init__" = some (.val (.builtin "ValueError.__init__"))
theorem pe_baseinit {pl : Sem Bool} (hg : Gl X x) (hm : X.mg x = some (.ref C0)) (B : BaseC X.K C0 mc) (ha : PA X (e :: es) ta)
    (hdb : (x == ("__debug__" : Str)) = false := by decide)
    (hc : eval (.Call (.Attribute (.Name x p1) "__init__" p2) (e :: es) [] pos) X.env = (do
      let ov ← eval (.Name x p1) X.env
      standAt p2.atName
      let (f, first) ← holding [ov] (getMethod ov "__init__" pl)
      callWith pos f first (backTo pos (starEach (e :: es) X.env)) (backToKw pos (keywordEach [] X.env))) := by rfl)
    (he : starEach (e :: es) X.env = (false, eval e X.env) :: starEach es X.env := by rfl) (hpl : (backTo pos (starEach es X.env)).any (·.1) = false := by rfl) :
    PE X (.Call (.Attribute (.Name x p1) "__init__" p2) (e :: es) [] pos) (tVeI X.K ta) := by
  refine ⟨fun pins s σ H Q I h => ?_⟩
  refine PySem.W.methodCall_KW (ld_glob I hg hm ?_ hdb) hc
  refine PySem.W.method_cls I.kIn B.r.ga (PySem.W.cls_value I.kIn B.r.rd B.at_ (by decide +kernel) ?_)
  show wpAny _ _ (callWith pos (Value.builtin "ValueError.__init__") [] (backTo pos (starEach (e :: es) X.env)) []) _ _ _
  refine PyProof.Rows.callWith_method1 (thn (ha.run pos pins _ σ H _ (I.tok _) h) fun us s1 ⟨vs, H1, I1, r1, a, C, ws, ev, hl, T, ea, q⟩ => ?_) he hpl
  subst ev
  cases r1 with
  | @cons _ u0 _ ur ra rw' =>
    obtain rfl : u0 = Value.ref a := ra
    exact oinit_ok T I1 ea (by rw [← Paired.length rw', sizeLine_eq]; omega) fun s' J => ⟨.non, H1, J, rfl, q⟩
/-- an own error's __init__: the field is stored in a new dict -/
def spErr (C : Addr) (g : Str) (_ : PySem.W.Frag) : Sp := fun vs H Q _ => ∃ (a : Addr) (y : V), vs = [.ref a, y] ∧ H a = some (exo a C none) ∧ ∀ dx, H dx = none → dx ≠ a → Q .non (upd (upd H dx (exd dx [(g, y)])) a (exo a C (some dx)))
/-- what the walk asks of an own error class -/
structure ErrC (K : PySem.W.Frag) (mg : Str → Option Value) (x : Str) (C fI : Addr) (g : Str) : Prop where
  gC : mg x = some (.ref C)
  ox : OexC K C
  iC : PySem.W.findIn K (.ref C) "__init__" = some (some (.ref fI))
  tI : PySem.W.typeIn K (.ref fI) = some (.type "function")
  no : PySem.W.findIn K (.ref C) g = some none
/-- C(v) behind its arguments: the error's dict d is new -/
theorem mk_err {C : Addr} {g : Str} {K : PySem.W.Frag} {v : V} {H1 : Hp} {Q : XK} (h : ∀ d, H1 d = none → Q (.ref C) (some d) (upd H1 d (.xd [(g, v)]))) : ([v] : List V).length ≤ 1000 ∧ ∀ a, H1 a = none → spErr C g K (.ref a :: ([v] ++ [])) (upd H1 a (exo a C none))
    (fun u H2 => u = .non ∧ ∃ (d : Addr) (fs : List (Str × V)), H2 a = some (exo a C (some d)) ∧ H2 d = some (exd d fs) ∧ H1 d = none ∧ Q (.ref C) (some d) (upd (del H2 a) d (.xd fs))) (fun _ _ _ => False) := by
  refine ⟨Nat.le_of_ble_eq_true rfl, fun a na => ⟨a, v, rfl, upd_same, fun dx nd ne => ⟨rfl, dx, [(g, v)], upd_same, (upd_ne ne).trans upd_same, ?_, ?_⟩⟩⟩
  · rwa [upd_ne ne] at nd
  · have nd' : H1 dx = none := by rwa [upd_ne ne] at nd
    have e : upd (del (upd (upd (upd H1 a (exo a C none)) dx (exd dx [(g, v)])) a (exo a C (some dx))) a) dx (.xd [(g, v)]) = upd H1 dx (.xd [(g, v)]) := by
      funext b
      by_cases hb : b = dx
      · rw [hb, upd_same, upd_same]
      · rw [upd_ne hb, upd_ne hb]
        by_cases ha : b = a
        · rw [ha, del_same, na]
        · rw [del_ne ha, upd_ne ha, upd_ne hb, upd_ne ha]
    rw [e]
    exact h dx nd'
theorem pmk_err {C fI : Addr} {k j : Nat} {fd : FuncData} {ps : List Str} {g : Str} (T : ErrC X.K X.mg x C fI g) (F1 : FnOk X.prog X.w X.K X.mg X.base CX0 k fI fd ps (spErr C g X.K)) (hr : Room j X.A) (hk : k + 1 ≤ j) (hb : Binds X.K fd ps []) (hg : Gl X x) (ha : PA X (e :: es) ta)
    (hdb : (x == ("__debug__" : Str)) = false := by decide) (he : starEach (e :: es) X.env = (false, eval e X.env) :: starEach es X.env := by rfl) (hpl : (backTo pos (starEach es X.env)).any (·.1) = false := by rfl) :
    PMk X (.Call (.Name x p) (e :: es) [] pos) (tMkO C (spErr C g X.K) [] ta) :=
  pmk_oex (dvs := []) T.ox T.iC T.tI F1 (hr.mono hk) hb .nil (fun _ _ _ _ _ _ _ h => h.elim) hg T.gC ha hdb he hpl
/-- an own error class by its promise -/
structure Err (P : Program) (w : World) (K : PySem.W.Frag) (mg : Str → Option Value) (base : Heap) (k : Nat) (x : Str) (C : Addr) (g : Str) : Prop where
  ex : ∃ (fI : Addr) (fd : FuncData) (ps : List Str), ErrC K mg x C fI g ∧ FnOk P w K mg base CX0 k fI fd ps (spErr C g K) ∧ Binds K fd ps []
/-- raise C(e) -/
theorem ps_err {C : Addr} {k j : Nat} {g : Str} {W : WX} {pos2 : Pos} (hc : X.calm = true) (tk : Takes X W) (c : Err X.prog X.w X.K X.mg X.base k x C g) (hr : Room j X.A) (hk : k + 1 ≤ j) (hg : Gl X x) (ha : PA X (e :: es) ta)
    (hdb : (x == ("__debug__" : Str)) = false := by decide) (he : starEach (e :: es) X.env = (false, eval e X.env) :: starEach es X.env := by rfl) (hpl : (backTo pos (starEach es X.env)).any (·.1) = false := by rfl) :
    PS X (.Raise (some (.Call (.Name x p) (e :: es) [] pos)) none pos2) (fun _ σ H => tMkO C (spErr C g X.K) [] ta σ H fun cls d H' => W cls d σ H') := by
  obtain ⟨fI, fd, ps, T, F, b⟩ := c.ex
  exact ps_raise hc tk (pmk_err T F hr hk b hg ha hdb he hpl)
/-! ### calls that may raise -/
/-- a def that may raise, by its promise -/
structure CalX (P : Program) (w : World) (K : PySem.W.Frag) (mg : Str → Option Value) (base : Heap) (k : Nat) (x : Str) (sp : Sp) : Prop where
  ex : ∃ (f : Addr) (fd : FuncData) (ps : List Str), FnOk P w K mg base (L2.CX P w) k f fd ps sp ∧ mg x = some (.ref f) ∧ PySem.W.keepIn K (.ref f) = true ∧ Binds K fd ps []
theorem pe_cx {k j : Nat} {sp : Sp} {W : WX} {t : TA} (c : CalX X.prog X.w X.K X.mg X.base k x sp) (hr : Room j X.A) (hk : k ≤ j) (hg : Gl X x) (tk : Takes X W) (ha : PA X (e :: es) t)
    (hdb : (x == ("__debug__" : Str)) = false := by decide) (he : starEach (e :: es) X.env = (false, eval e X.env) :: starEach es X.env := by rfl) (hpl : (backTo pos (starEach es X.env)).any (·.1) = false := by rfl) :
    PE X (.Call (.Name x p) (e :: es) [] pos) (tCallS sp (WE W) t) := by
  obtain ⟨f, fd, ps, F, hm, kp, b⟩ := c.ex
  exact pe_callS F (hr.mono hk) hg hm kp b (fun σ => passAt tk σ) ha hdb he hpl
/-- C(e, ..), C's own __init__ may raise -/
def tMakeS (C : Addr) (sp : Sp) (E : L2.St → XK) (t : TA) : TE := fun σ H Q => t σ H fun vs H1 => ∀ x dx, H1 x = none → H1 dx = none → dx ≠ x → sp (.ref x :: vs) (upd (upd H1 dx (.own x)) x (.ins C dx [])) (fun v H2 => v = .non ∧ Q (.ref x) H2) (E σ)
structure MakX (P : Program) (w : World) (K : PySem.W.Frag) (mg : Str → Option Value) (base : Heap) (k : Nat) (x : Str) (C : Addr) (sp : Sp) : Prop where
  ex : ∃ (f : Addr) (fd : FuncData) (ps : List Str), Mk K C f ∧ FnOk P w K mg base (L2.CX P w) k f fd ps sp ∧ mg x = some (.ref C) ∧ Binds K fd ps []
theorem pe_mkx {k j : Nat} {C : Addr} {sp : Sp} {W : WX} {t : TA} (c : MakX X.prog X.w X.K X.mg X.base k x C sp) (hr : Room j X.A) (hk : k + 1 ≤ j) (hg : Gl X x) (tk : Takes X W) (ha : PA X (e :: es) t)
    (hdb : (x == ("__debug__" : Str)) = false := by decide) (he : starEach (e :: es) X.env = (false, eval e X.env) :: starEach es X.env := by rfl) (hpl : (backTo pos (starEach es X.env)).any (·.1) = false := by rfl) :
    PE X (.Call (.Name x p) (e :: es) [] pos) (tMakeS C sp (WE W) t) := by
  obtain ⟨f, fd, ps, M, F, hm, b⟩ := c.ex
  refine ⟨fun pins s σ H Q I h => wpAny_Call_Name_kw (ld_glob I hg hm (PySem.W.callWith_K (h₀ := X.base) I.ok.mod.kin M.kp (thn (ha.run pos pins s σ H _ I h) fun us s1 ⟨vs, H1, I1, r, q⟩ => ⟨I1.kIn, ?_⟩) he hpl) hdb)⟩
  have new : ∀ a, s1.heap.objs.size ≤ a → H1 a = none := fun a => I1.hok.fresh
  have q1 := q (s1.heap.objs.size + 1) s1.heap.objs.size (new _ (Nat.le_succ _)) (new _ (Nat.le_refl _)) (Nat.ne_of_lt (Nat.lt_succ_self _))
  have J := Inv.made (C := C) I1
  have rr : Vals (V.ref (s1.heap.objs.size + 1) :: vs) (Value.ref (s1.heap.objs.size + 1) :: us) := .cons rfl r
  have len : (Value.ref (s1.heap.objs.size + 1) :: us).length = ps.length := by rw [← rr.length]; exact F.len _ _ _ _ q1
  have bb := b _ (Value.ref (s1.heap.objs.size + 1) :: us) J.kIn (by rw [List.append_nil]; exact len)
  rw [List.append_nil] at bb
  refine wpAny_call (make_map (f := f) I1.kIn M.makes M.init (beq_iff_eq.mp M.fn) (codeAny_mono (F.run _ X.stack _ _ ⟨_, []⟩ _ _ _ (WE W σ) ((hr.mono hk).make C us []) (J.env0.make C us []) bb rr q1) fun res s2 hres => ?_))
  cases res with
  | error ex => exact passAt tk σ pins _ _ ex s2 J hres
  | ok fl =>
    cases fl with
    | ret u =>
      obtain ⟨v, H', J2, rv, ev, q3⟩ := J.after hres
      subst ev
      exact ⟨rv, ⟨.ref _, H', J2, rfl, q3⟩⟩
    | next => exact hres.elim
    | brk => exact hres.elim
    | cont => exact hres.elim
/-! ### out of a statement that runs while a thing is locked -/
/-- the thing is as it was -/
def wUn (G0 : Hp) (W : WX) : WX := fun cls dd τ G => ∃ (d : Addr) (u : HO) (od : Obj), (∀ o' u', G0 d ≠ some (.frz o' u')) ∧ G d = some (.frz od u) ∧ W cls dd τ (upd G d u)
theorem takes_un {W : WX} (tk : Takes X W) : Takes X (wUn X.H_0 W) := fun v s' h => by
  obtain ⟨a, B, sI, pins, τ, G, cls, dd, ev, I, nb, up, sky, na, eos, bare, d, u, od, h0, hd, hw⟩ := h
  have ne : a ≠ d := fun z => by rw [z, hd] at na; cases na
  exact tk v s' ⟨a, B, sI, pins, τ, upd G d u, cls, dd, ev, I.unlock hd h0, nb, up, sky, (upd_ne ne).trans na, eos, bare, hw⟩
theorem upd_swap {G : Hp} {a b : Addr} {x y : HO} (h : a ≠ b) : upd (upd G a x) b y = upd (upd G b y) a x := by
  funext c
  by_cases ca : c = a
  · subst ca; rw [upd_ne h, upd_same, upd_same]
  · by_cases cb : c = b
    · subst cb; rw [upd_same, upd_ne (Ne.symm h), upd_same]
    · rw [upd_ne cb, upd_ne ca, upd_ne ca, upd_ne cb]
end KnX

set_option Elab.async false
set_option linter.all false
set_option maxRecDepth 100000
set_option maxHeartbeats 4000000
/-! try: .. except A as e: .. except B as e: .. -/
namespace KnX
open PySem PySem.Spec PyProof.Rows L2
/-- behind a suite the name is gone -/
def endsAs (i : Nat) (D : Ends) : Ends := { nx := fun τ G => D.nx (τ.set i none) G, rt := D.rt, bk := fun τ G => D.bk (τ.set i none) G, ct := fun τ G => D.ct (τ.set i none) G }
abbrev Clause := Value × Nat × (Addr → Value → Option Addr → TS)
def wAll (K : PySem.W.Frag) (Wout : WX) (D : Ends) : List Clause → WX
  | [] => Wout
  | q :: r => fun cls d τ G => ∃ yes, PySem.W.exmOne K cls q.1 = some yes ∧ (yes = true → ∀ a, G a = none → q.2.2 a cls d (endsAs q.2.1 D) (τ.set q.2.1 (some (.ref a))) G) ∧ (yes = false → wAll K Wout D r cls d τ G)
inductive HdsAs (X : Cx) : List ExceptHandler → List Clause → Prop
  | nil : HdsAs X [] []
  | cons {x n : Str} {c : Value} {i : Nat} {ts : Addr → Value → Option Addr → TS} {b₀ : Stmt} {suite : List Stmt} {np pe : Pos} {hds : List ExceptHandler} {l : List Clause} (hc : Names X x c) (hi : X.N[i]? = some n) (hln : X.env.kindOf n = some .local)
      (hsu : ∀ (a : Addr) (oe : Obj) (cls : Value) (d : Option Addr) (pn : List (Addr × Obj)), Zc cls d oe → (∃ vs, oe.data = .fields vs) → PSs (X.suite a ((a, oe) :: pn)) (b₀ :: suite) (ts a cls d)) (r : HdsAs X hds l) :
      HdsAs X (.ExceptHandler (some (.Name x np)) (some n) (b₀ :: suite) pe :: hds) ((c, i, ts) :: l)
section
variable {X : Cx} {body : List Stmt} {h₀ : ExceptHandler} {hds : List ExceptHandler} {l : List Clause} {pos : Pos} {tb : WX → TS} {Wout : WX}
theorem ps_try_all (hs : X.stack = X.env :: X.outer) (hf : X.env.frame = some X.env.locals) (hN : X.N.Nodup) (tk : Takes X Wout)
    (hb : ∀ (W : WX) (pn : List (Addr × Obj)) (xe : Value → Shared → Prop), Takes (X.tr pn xe) W → PassesOwn (model X.prog X.w) X.A X.env xe → PSs (X.tr pn xe) body (tb W))
    (hh : HdsAs X (h₀ :: hds) l) : PS X (.Try body (h₀ :: hds) [] [] pos) (fun D σ H => tb (wAll X.K Wout D l) D σ H) := by
  refine ⟨fun pins s0 σ0 H0 D I0 h => ?_⟩
  have okX := I0.ok
  have frX : X.A.frames = some (X.env :: X.outer) := by rw [okX.frames, hs]
  refine wpAny_Try_except (wpAny_mono ((hb (wAll X.K Wout D l) (X.pn ++ pins) (fun ex s₁ => wpAny (model X.prog X.w) X.A (noteFrame ex X.env) (fun _ s₂ => wpAny (model X.prog X.w) X.A (setFlight ex none) (fun _ s₃ =>
    wpAny (model X.prog X.w) X.A (handleBy ex X.env (h₀ :: hds)) (SP X pins D) X.xe s₃) X.xe s₂) X.xe s₁) (fun u st air => ?_) PassesOwn.looking).run [] s0 σ0 H0 D (I0.toTry _) h) (fun fl s1 fin => ?_) (fun ex s1 hx => hx))
  · obtain ⟨a, B, sB, pins2, τ, G, cls, d, rfl, JT, keepB, upB, sky, na, eos, bare, wq⟩ := air
    have J : Inv X pins τ G sB := JT.ofTry okX
    have skyX : Sky B (X.env :: X.outer) a (Zc cls d) X.env.locals st.heap := by rw [← hs]; exact sky
    show wpAny (model X.prog X.w) X.A (noteFrame (.ref a) X.env) _ _ _
    refine Sky.land Zc.steady frX hf skyX fun g1 land1 up1 => ?_
    have J1 : Inv X pins τ G { st with heap := g1 } := J.landed keepB land1.1 (upB.trans up1) eos bare
    obtain ⟨oe1, vs1, ge1, hz1, hd1⟩ := land1.there
    have notIn : a ∉ frs (X.env :: X.outer) := fun hm => by
      obtain ⟨_, o', e', bad⟩ := land1.2.2.1.mem hm
      rw [ge1] at e'
      cases e'
      exact bad _ hd1
    have n1 : a ≠ X.env.locals := fun z => notIn (List.mem_filterMap.mpr ⟨X.env, List.mem_cons_self, by rw [hf, z]⟩)
    have n2 : a ∉ X.fs := fun hm => by
      obtain ⟨fr, hfr, q⟩ := List.mem_filterMap.mp hm
      exact notIn (List.mem_filterMap.mpr ⟨fr, List.mem_cons_of_mem _ hfr, q⟩)
    have S1 := J1.suite ge1 hd1 na n1 n2
    have each : ∀ {hs' : List ExceptHandler} {l' : List Clause}, HdsAs X hs' l' → wAll X.K Wout D l' cls d τ G → wpAny (model X.prog X.w) X.A (handleBy (.ref a) X.env hs') (SP X pins D) X.xe { st with heap := g1 } := by
      intro hs' l' hk
      induction hk with
      | nil =>
        intro wq
        refine wpAny_handleBy_nil ?_
        obtain ⟨_, _, _, oe, vs, T, oT, ts', ge, _, hd, hT, _⟩ := id land1
        unfold PySem.passOn
        refine wpAny_bind (wpAny_field ge hd hT ?_)
        rw [if_neg (show ¬ ((Value.ref T == Value.none) = true) by simp)]
        have out : wpAny (model X.prog X.w) X.A (setFlight (.ref a) X.env.frame) (fun _ s4 => wpAny (model X.prog X.w) X.A (throw (.ref a) : Sem Flow) (SP X pins D) X.xe s4) X.xe { st with heap := g1 } := by
          rw [hf]
          exact HandSPX.setFlight_upZ land1 fun g2 held2 up2 => wpAny_throw (tk _ _ ⟨a, B, sB, pins, τ, G, cls, d, rfl, J, keepB, (upB.trans up1).trans up2, .inr (.inr (by rw [hs]; exact held2)), na, eos, bare, wq⟩)
        first
          | exact wpAny_bind (wpAny_pure (wpAny_bind out))
          | exact wpAny_bind out
      | @cons x n c i ts b₀ suite np pe hds2 l2 hc hi hln hsu r ih =>
        intro wq
        obtain ⟨yes, hyes, wy, wn⟩ := wq
        refine wpAny_handleBy_cons (codeAny_handlers_test ?_) (by intro q; cases q)
        have kind : PySem.W.Looks (model X.prog X.w) g1 (typeOf (.ref a)) cls := fun A Q E s k q => wpAny_typeOf_ref (k _ _ ge1) (by rw [hz1.1]; exact q)
        have asked : ∀ {Q : Value → Shared → Prop} {E : Value → Shared → Prop}, Q c { st with heap := g1 } → wpAny (model X.prog X.w) (X.A.mark (some (.ref a))) (eval (.Name x np) X.env) Q E { st with heap := g1 } := fun {Q E} q => by
          obtain ⟨hg, hdbg, hm | ⟨hm, hv, hnn⟩⟩ := hc
          · exact ld_glob (X := X.suite a ((a, oe1) :: (X.pn ++ pins))) S1 hg hm q hdbg
          · exact ld_blt (X := X.suite a ((a, oe1) :: (X.pn ++ pins))) S1 hg hm hv q hnn hdbg
        refine asked ((PySem.W.exm_one (M := model X.prog X.w) J1.kIn kind hyes).here ?_)
        cases yes with
        | false => exact ih (wn rfl)
        | true =>
          refine codeAny_handlers_suite_as (HandSPX.lands_againZ land1 fun g2 land2 up2 => ?_)
          have J2 : Inv X pins τ G { st with heap := g2 } := J.landed keepB land2.1 ((upB.trans up1).trans up2) eos bare
          obtain ⟨oe2, vs2, ge2, hz2, hd2⟩ := land2.there
          refine store_ok (X := X.suite a ((a, oe2) :: (X.pn ++ pins))) (v := .ref a) (J2.suite ge2 hd2 na n1 n2) hN hi (.inl hln) rfl (fun s5 S5 => ?_) (.inr hln)
          refine wpAny_mono ((hsu a oe2 cls d (X.pn ++ pins) hz2 ⟨_, hd2⟩).run [] s5 _ G _ S5 (wy rfl a na)) (fun fl s6 fin => ?_) (fun _ _ z => False.elim z)
          have gone : ∀ {τ6 : L2.St} {G6 : Hp} {Q : Shared → Prop}, Inv (X.suite a ((a, oe2) :: (X.pn ++ pins))) [] τ6 G6 s6 → (∀ s7, Inv X pins (τ6.set i none) G6 s7 → Q s7) →
              wpAny (model X.prog X.w) X.A (do bindName X.env n .none; unbindBehindTheSuite X.env n pe) (fun _ s7 => Q s7) X.xe s6 := fun {τ6 G6 Q} S6 k => gone_ok (S6.unsuite okX) hN hi hln k
          cases fl with
          | next => obtain ⟨τ6, G6, S6, q6⟩ := fin; exact gone S6 fun s7 J7 => ⟨_, _, J7, q6⟩
          | brk => obtain ⟨τ6, G6, S6, q6⟩ := fin; exact gone S6 fun s7 J7 => ⟨_, _, J7, q6⟩
          | cont => obtain ⟨τ6, G6, S6, q6⟩ := fin; exact gone S6 fun s7 J7 => ⟨_, _, J7, q6⟩
          | ret u => obtain ⟨v6, τ6, G6, S6, r6, q6⟩ := fin; exact gone S6 fun s7 J7 => ⟨_, _, _, J7, r6, q6⟩
    exact each hh wq
  · cases fl with
    | next => obtain ⟨τ, G, J, q⟩ := fin; exact wpAny_execs_nil ⟨τ, G, J.ofTry okX, q⟩
    | brk => obtain ⟨τ, G, J, q⟩ := fin; exact ⟨τ, G, J.ofTry okX, q⟩
    | cont => obtain ⟨τ, G, J, q⟩ := fin; exact ⟨τ, G, J.ofTry okX, q⟩
    | ret u => obtain ⟨v, τ, G, J, r, q⟩ := fin; exact ⟨v, τ, G, J.ofTry okX, r, q⟩
end
end KnX

set_option Elab.async false
set_option linter.all false
set_option maxRecDepth 100000
set_option maxHeartbeats 4000000
/-! Two lists of the very same items, of any depth. -/
namespace KnQ
open PySem PySem.Spec PyProof.Rows L2
/-- an item that equals itself at once -/
def Own : V → Prop
  | .non => True
  | .bl _ => True
  | .int _ => True
  | .str _ => True
  | .ref _ => True
  | _ => False
open PySem.SeqAt in
theorem eq_own {A : Around} {s : Shared} {v : V} {u1 u2 : Value} (o : Own v) (r1 : RelV v u1) (r2 : RelV v u2) : EqAt A s u1 u2 true := by
  cases v with
  | non => cases r1; cases r2; exact EqAt.same _
  | bl b => cases r1; cases r2; exact EqAt.same _
  | ref a => cases r1; cases r2; exact EqAt.same _
  | int i =>
    obtain ⟨t1, rfl⟩ := r1
    obtain ⟨t2, rfl⟩ := r2
    have h := EqAt.int_int (A := A) (s := s) i t1 i t2
    rwa [beq_self_eq_true] at h
  | str z =>
    obtain ⟨t1, rfl⟩ := r1
    obtain ⟨t2, rfl⟩ := r2
    have h := EqAt.str_str (A := A) (s := s) z t1 z t2
    rwa [beq_self_eq_true] at h
  | _ => exact o.elim
section
variable {X : Cx}
theorem op_neOwn (hu : X.A.units < cLine) : OpR X (compareOp .NotEq) (fun x y H Q => ∃ a b xs, x = .ref a ∧ y = .ref b ∧ H a = some (.lst xs) ∧ H b = some (.lst xs) ∧ (∀ v ∈ xs, Own v) ∧ Q (.bl false) H) := by
  intro pins s σ H x y v u Q I rx ry h
  obtain ⟨a, b, xs, rfl, rfl, ea, eb, ho, q⟩ := h
  cases rx
  cases ry
  obtain ⟨i1, r1, p1, _⟩ := I.list (.inl (.inl ea) : SqL X.K H a xs)
  obtain ⟨i2, r2, p2, _⟩ := I.list (.inl (.inl eb) : SqL X.K H b xs)
  have l1 := r1.length
  have l2 := r2.length
  have each : ∀ j (h1 : j < i1.toArray.size) (h2 : j < i2.toArray.size), PySem.SeqAt.EqAt X.A.in1 s i1.toArray[j] i2.toArray[j] ((fun _ => true) j) := fun j h1 h2 => by
    rw [List.size_toArray] at h1 h2
    have hj : j < xs.length := by omega
    have gx : xs[j]? = some xs[j] := List.getElem?_eq_getElem hj
    obtain ⟨u1, g1, k1⟩ := r1.get gx
    obtain ⟨u2, g2, k2⟩ := r2.get gx
    have e1 : i1.toArray[j] = u1 := (List.getElem?_eq_some_iff.mp g1).2
    have e2 : i2.toArray[j] = u2 := (List.getElem?_eq_some_iff.mp g2).2
    rw [e1, e2]
    exact eq_own (ho _ (List.getElem_mem hj)) k1 k2
  have rc := PySem.SeqAt.RcNeAt.lists p1.isList p2.isList (by rw [List.size_toArray, List.size_toArray]; omega) hu each
  have all : (List.range i1.toArray.size).all (fun _ => true) = true := List.all_eq_true.mpr fun _ _ => rfl
  refine rc X.prog X.w X.xe (EP X pins σ Q) ?_
  rw [all]
  exact ⟨.bl false, H, I, rfl, q⟩
end
end KnQ

set_option Elab.async false
set_option linter.all false
set_option maxRecDepth 100000
set_option maxHeartbeats 4000000
/-! xs[i] += e, xs a list. -/
namespace KnL
open PySem PySem.Spec PyProof.Rows L2
section
variable {X : Cx}
theorem get_list : PGet X (rIxL X.K) := by
  intro pins s σ H x y v u Q I rx ry h
  obtain ⟨p, xs, i, z, rfl, rfl, hq, he, q⟩ := h
  cases rx
  obtain ⟨t, rfl⟩ := ry
  obtain ⟨its, r, pl, hz⟩ := I.list hq
  obtain ⟨j, h1, h2, h3, h4, h5⟩ := atI_get he
  obtain ⟨w, ew, rw'⟩ := r.get h2
  have hl := r.length
  have hn := line63
  have fin : EP X pins σ Q w s := ⟨z, H, I, rw', q⟩
  by_cases h0 : 0 ≤ i
  · have hj : i.toNat = j := by
      rw [seqIndex_of h0 h5] at h1
      exact Option.some.inj h1
    exact wpAny_getItem_list pl.isList h0 (by omega) (by rw [hj]; simpa using ew) fin
  · have hj : (i + (its.toArray.size : Int)).toNat = j := by
      rw [seqIndex_neg (by omega) h4] at h1
      rw [List.size_toArray, ← hl]
      exact Option.some.inj h1
    exact wpAny_getItem_list_neg pl.isList (by omega) (by rw [List.size_toArray] <;> omega) (by omega) (by rw [hj]; simpa using ew) fin
end
end KnL

set_option Elab.async false
set_option linter.all false
set_option maxRecDepth 100000
/-! a dict comprehension that is given to a local name on the same line -/
namespace KnDc
open PySem PySem.Spec PyProof.Rows L2
variable {X : Cx}
theorem ps_setDc {i : Nat} {y : Str} {py : Pos} {kx vx tg iter : Expr} {ifs : List Expr} {scope : Scope} {own : List (Str × Nat)} {pos spos : Pos} {wi : TI} {g : TG} {tt : TT} {tk tv : TE} (cm : X.calm = true) (dn : X.N.Nodup) (iy : X.N[i]? = some y) (ly : X.env.scope.names.lookup y = some .local)
    (sw : swapsWith (.DictComp kx vx [⟨tg, iter, ifs, 0⟩] scope pos) (some (.Name y py)) spos.line X.env = pure true) (pi : PI X tg iter wi) (bo : BlkOk X.N X.env.scope scope own)
    (pg : ∀ s H C cl fp, PG (X.blk s H scope (compEnvC scope cl C X.env) fp) tg g) (pt : ∀ s H C cl fp, PTs (X.blk s H scope (compEnvC scope cl C X.env) fp) ifs tt)
    (pk : ∀ s H C cl fp, PE (X.blk s H scope (compEnvC scope cl C X.env) fp) kx tk) (pv : ∀ s H C cl fp, PE (X.blk s H scope (compEnvC scope cl C X.env) fp) vx tv)
    (hs : ∀ x, foldedSetIterable iter X.env x = pure x := by intro _; rfl) :
    PS X (.Assign [.Name y py] (.DictComp kx vx [⟨tg, iter, ifs, 0⟩] scope pos) spos) (tAsg (tDc wi g tt tk tv (own.map (·.2))) (gName i)) := by
  refine ⟨fun pins s σ H D I h => ?_⟩
  rw [exec_Assign_Name_used _ _ _ _ sw]
  refine wpAny_bind (wpAny_standAt (wpAny_bind (?_)))
  show wpAny _ X.A (do let _ ← comprehension (.DictComp kx vx [⟨tg, iter, ifs, 0⟩] scope pos) scope X.env (firstIterPos [⟨tg, iter, ifs, 0⟩] pos) newDict false (eval iter X.env) (some (assign (.Name y py) X.env))) _ _ s
  have h : tDc wi g tt tk tv (own.map (·.2)) σ H (fun x H1 => gName i x σ H1 D.nx) := h
  refine wpAny_bind (thn (dc_core (Qf := fun _ s' => SP X pins D .next s') cm dn I pi bo pg pt pk pv hs h fun L C s' m H' I' q hn f => ?_) fun _ s' hq => wpAny_pure (wpAny_pure hq))
  show wpAny _ X.A (assign (.Name y py) X.env (.ref L)) _ _ _
  refine wpAny_assign_Name (store_ok2 (v := V.ref L) I' dn iy (.inl ly) rfl (fun s2 I2 ⟨a, sb, ha⟩ => ?_) (.inr ly))
  obtain ⟨g0, g1, g2, g3, g4, g5⟩ := f
  have nCa : C ≠ a := by
    rcases ha with z | z
    · rw [z]; exact g1
    · exact fun e => (g4 y a z) e.symm
  refine ⟨m, hn.sameBut sb nCa, fun h3 sb3 => ?_⟩
  exact ⟨_, H', I2.turned (t' := s2.toks) (fun b o hb e => ((sb3.2 b hb).trans e)) g0 g1 g3 g4 g5, q⟩
theorem swD {kx vx : Expr} {gs : List Comprehension} {scope : Scope} {pos py : Pos} {y : Str} {l : Nat} {env : Env} (hk : env.scope.kind = .function) (hy : env.scope.names.lookup y = some .local) (hl : (py.line == pos.line) = true)
    (ha : (scope.names.any fun (n, k) => n == y && (k == .local || k == .cell)) = false) : swapsWith (.DictComp kx vx gs scope pos) (some (.Name y py)) l env = pure true := by
  have e1 : env.kindOf y = some .local := hy
  have e2 : env.blockKind = .function := by unfold Env.blockKind; rw [hk]; rfl
  unfold swapsWith
  simp only [e2, e1, ha, Expr.pos, hl]
  rfl
end KnDc

set_option Elab.async false
set_option linter.all false
set_option maxRecDepth 100000
set_option maxHeartbeats 4000000
/-! len(a set of ints and texts). -/
namespace KnS
open PySem PySem.Spec PyProof.Rows L2
variable {X : Cx}
theorem cr_lenL : CallR X (.builtin "len") (fun xs H Q => ∃ (a : Addr) (ks : List Key), xs = [.ref a] ∧ H a = some (SetL X.prog X.w a ks) ∧ Q (.int ks.length) H) := by
  intro pins s σ H vs us Q I r h
  obtain ⟨a, ks, rfl, ha, q⟩ := h
  rw [Vals.ref1 r]
  obtain ⟨o, es, ep, t, ls, ⟨ho, hx, hd⟩, ⟨pe, pm, nd⟩, ⟨hb, hf⟩, _⟩ := held I ha
  have hn : es.size = ks.length := by
    have e1 : ls.length = es.size := pe.length
    rw [← pm.length_eq, e1]
  unfold scanBound at hb
  exact call_len_set ho hx hd hf (by omega) ⟨.int ks.length, H, I.tok _, ⟨_, by rw [hn]⟩, q⟩
end KnS

set_option Elab.async false
set_option linter.all false
set_option maxRecDepth 100000
set_option maxHeartbeats 4000000
/-! Sets whose members are flat tuples, with items of any kind of keys by value: one more put in. -/
namespace KnZ
open PySem PySem.Spec PyProof.Rows L2
open PySem renaming wpAny_bind → seqAny
section
variable {κ : Type} [DecidableEq κ] {P : Program} {w : World}
/-- no item is of a class of the text; each is hashed by what it is -/
structure Flat (knd : PySem.KeyKind P w κ) : Prop where
  cls : ∀ (n : Nat) (k : κ) (v : Value), knd.is k v = true → ofAClassStatement n v = pure false
  val : ∀ (n : Nat) (k : κ) (v : Value), knd.is k v = true → ∃ b, hashByValue n v = pure b
theorem flat_mix : Flat (mixKind P w) where
  cls := fun n k v h => by rcases keyIs_shape h with ⟨i, t, rfl, rfl⟩ | ⟨x, t, rfl, rfl⟩ <;> cases n <;> rfl
  val := fun n k v h => by rcases keyIs_shape h with ⟨i, t, rfl, rfl⟩ | ⟨x, t, rfl, rfl⟩ <;> cases n <;> exact ⟨_, rfl⟩
variable {knd : PySem.KeyKind P w κ} {A : Around} {E : Value → Shared → Prop} {s : Shared}
theorem each_is {ks : List κ} {vs : List Value} (h : PySem.ItemsAre knd ks vs) : ∀ v ∈ vs, ∃ k, knd.is k v = true := by
  induction h with
  | nil => exact fun v hv => nomatch hv
  | cons r _ ih => exact fun v hv => (List.mem_cons.mp hv).elim (fun e => ⟨_, e ▸ r⟩) (ih v)
/-- a loop that asks each item of a tuple and leaves all as it is -/
theorem asks_all {α : Type} {B : Value → Sem (ForInStep (Option α × Unit))} {vs : List Value} {ok : Value → Prop} (hv : ∀ v ∈ vs, ok v)
    (hb : ∀ v, ok v → ∀ (s : Shared) (Q : ForInStep (Option α × Unit) → Shared → Prop), Q (.yield (none, ())) s → wpAny (model P w) A (B v) Q E s) {Q : Option α × Unit → Shared → Prop} (h : Q (none, ()) s) :
    wpAny (model P w) A (forIn vs ((none : Option α), ()) fun v _ => B v) Q E s := by
  refine wpAny_forIn_list _ (fun rest r s' => r = (none, ()) ∧ s' = s ∧ ∀ v ∈ rest, ok v) _ ?_ ?_ _ _ ⟨rfl, rfl, hv⟩
  · rintro v rest r s' ⟨hr, rfl, all⟩
    exact hb v (all v List.mem_cons_self) _ _ ⟨rfl, rfl, fun u hu => all u (List.mem_cons_of_mem _ hu)⟩
  · rintro r s' ⟨hr, rfl, _⟩
    rw [hr]; exact h
theorem no_class (fl : Flat knd) {k : List κ} {b : Addr} {Q : Bool → Shared → Prop} (hk : IsTupleKey knd s.heap k b) (h : Q false s) : wpAny (model P w) A (ofAClassStatement 8 (.ref b)) Q E s := by
  have hT := hk.typeIs
  obtain ⟨o, its, n, ho, _, hd, hi⟩ := hk
  unfold ofAClassStatement
  refine seqAny (wpAny_typeOf hT ?_)
  dsimp only
  have same : (("tuple" : String) == "tuple") = true := by decide
  simp only [same, if_false, if_true, Bool.not_true, Bool.false_eq_true]
  try refine seqAny (wpAny_pure ?_)
  try simp only [Bool.not_true, if_false, Bool.false_eq_true]
  show wpAny _ _ (seqItems? (.ref b) >>= _) _ _ _; refine seqAny (wpAny_seqItems ho hd ?_)
  dsimp only
  refine seqAny ?_
  show wpAny _ _ (forIn its _ _) _ _ s
  rw [← Array.forIn_toList]
  refine asks_all (ok := fun v => ∃ k, knd.is k v = true) (each_is hi) (fun v ⟨k, hv⟩ s Q q => ?_) (wpAny_pure h)
  rw [fl.cls _ k v hv]
  refine seqAny (wpAny_pure ?_)
  simp only [if_false, Bool.false_eq_true]
  exact wpAny_pure q
theorem by_value (fl : Flat knd) {k : List κ} {b : Addr} {Q : Bool → Shared → Prop} (hk : IsTupleKey knd s.heap k b) (h : ∀ b, Q b s) : wpAny (model P w) A (hashByValue 8 (.ref b)) Q E s := by
  have hT := hk.typeIs
  obtain ⟨o, its, n, ho, _, hd, hi⟩ := hk
  unfold hashByValue
  refine seqAny (wpAny_specialOf hT F.slot_tuple_hash.lookup ?_)
  show wpAny _ _ (seqItems? (.ref b) >>= _) _ _ _; refine seqAny (wpAny_seqItems ho hd ?_)
  refine seqAny ?_
  show wpAny _ _ (forIn its _ _) _ _ s
  rw [← Array.forIn_toList]
  refine wpAny_forIn_list _ (fun rest r s' => s' = s ∧ ∀ v ∈ rest, ∃ k, knd.is k v = true) _ ?_ ?_ _ _ ⟨rfl, each_is hi⟩
  · rintro v rest r s' ⟨rfl, all⟩
    obtain ⟨k, hv⟩ := all v List.mem_cons_self
    obtain ⟨b, e⟩ := fl.val 7 k v hv
    rw [e]
    refine seqAny (wpAny_pure ?_)
    cases b with
    | true =>
      simp only [Bool.not_true, if_false, Bool.false_eq_true]
      exact wpAny_pure ⟨rfl, fun u hu => all u (List.mem_cons_of_mem _ hu)⟩
    | false =>
      simp only [Bool.not_false, if_true]
      exact wpAny_pure (wpAny_pure (h false))
  · rintro ⟨r1, r2⟩ s' ⟨rfl, _⟩
    cases r1 with
    | none => exact wpAny_pure (h true)
    | some b => exact wpAny_pure (h b)
theorem unseen (fl : Flat knd) {k : List κ} {b : Addr} {Q : Bool → Shared → Prop} (hk : IsTupleKey knd s.heap k b) {ys : List Value} (hy : ∀ y ∈ ys, ∃ k' c, y = Value.ref c ∧ IsTupleKey knd s.heap k' c) (h : Q false s) :
    wpAny (model P w) A (searchCouldBeSeen (.ref b) ys) Q E s := by
  unfold searchCouldBeSeen
  refine seqAny ?_
  refine wpAny_forIn_list _ (fun rest r s' => r.1 = none ∧ s' = s ∧ ∀ y ∈ rest, ∃ k' c, y = Value.ref c ∧ IsTupleKey knd s.heap k' c) _ ?_ ?_ _ _ ⟨rfl, rfl, hy⟩
  · rintro v rest r s' ⟨hr, rfl, all⟩
    obtain ⟨k', c, rfl, hc⟩ := all v List.mem_cons_self
    have left : ∀ y ∈ rest, ∃ k' c, y = Value.ref c ∧ IsTupleKey knd s'.heap k' c := fun u hu => all u (List.mem_cons_of_mem _ hu)
    dsimp only
    by_cases hv : (b == c || (carriedByValue (.ref b) && carriedByValue (.ref c))) = true
    · exact wp_if_pos hv (wpAny_pure ⟨rfl, rfl, left⟩)
    · refine wp_if_neg hv (wpAny_bind (wpAny_eqIsQuiet_tuple hk ?_))
      simp only [Bool.not_true, if_false, Bool.false_eq_true]
      refine seqAny (wpAny_eqIsQuiet_tuple hc ?_)
      simp only [Bool.not_true, if_false, Bool.false_eq_true]
      refine seqAny (no_class fl hk ?_)
      simp only [if_false, Bool.false_eq_true]
      refine seqAny (no_class fl hc ?_)
      simp only [if_false, Bool.false_eq_true]
      exact wpAny_pure ⟨rfl, rfl, left⟩
  · rintro ⟨r1, r2⟩ s' ⟨hr, rfl, _⟩
    simp only at hr
    subst hr
    exact wpAny_pure h
/-! ### what stands in the table -/
abbrev Row (κ : Type) := Addr × List κ
def ents (knd : PySem.KeyKind P w κ) (M : List (Row κ)) : List (Int × Value) := M.map fun p => (tupleKeyHash knd p.2, Value.ref p.1)
def hashes (knd : PySem.KeyKind P w κ) (M : List (Row κ)) : List Int := M.map fun p => tupleKeyHash knd p.2
structure Tups (knd : PySem.KeyKind P w κ) (h : Heap) (a : Addr) (M : List (Row κ)) (es : Array (Int × Value)) (ep : Nat) (t : SetTable) : Prop where
  obj : ∃ o, h.get? a = some o ∧ o.ExactSet ∧ o.data = .set es ep t
  rows : es.toList = ents knd M
  tab : TabOk t (hashes knd M)
  once : (M.map (·.2)).Nodup
  tup : ∀ p ∈ M, IsTupleKey knd h p.2 p.1
  led : w.params.followText "set-order" = true ∨ t.led = true
  room : M.length * 5 < t.mask * 3
  few : M.length < 64
variable {a : Addr} {M : List (Row κ)} {es : Array (Int × Value)} {ep : Nat} {t : SetTable}
/-- a table without dummies, as many places as entries -/
theorem fits_of {es : Array (Int × Value)} {t : SetTable} (h0 : t.dummies = #[]) (h1 : t.place.size = es.size) (h2 : es.size ≤ t.mask) : t.fits es.size = true := by
  unfold SetTable.fits SetTable.fill; rw [h0, Bool.and_eq_true, beq_iff_eq, decide_eq_true_eq]
  exact ⟨h1, by show t.place.size + 0 ≤ _; omega⟩
theorem len_of (h : es.toList = ents knd M) : es.size = M.length := by
  have z := congrArg List.length h
  rwa [Array.length_toList, show (ents knd M).length = M.length from List.length_map _] at z
theorem Tups.size (R : Tups knd s.heap a M es ep t) : es.size = M.length := len_of R.rows
theorem Tups.fits (R : Tups knd s.heap a M es ep t) : t.fits es.size = true := by
  have z1 : t.place.size = M.length := R.tab.sz.trans (List.length_map _)
  have z2 := R.size
  have z3 := R.room
  exact fits_of R.tab.dm (by omega) (by omega)
theorem ent_at (h : es.toList = ents knd M) {i : Nat} {p : Row κ} (hp : M[i]? = some p) : es[i]? = some (tupleKeyHash knd p.2, Value.ref p.1) := by
  rw [← Array.getElem?_toList, h]
  unfold ents
  rw [List.getElem?_map, hp]; rfl
theorem Tups.stay (R : Tups knd s.heap a M es ep t) : ¬ t.gaveWay = true := by
  unfold SetTable.gaveWay
  rw [mask_odd R.tab.mok]
  decide
/-- the place of a hash's way, c steps on -/
abbrev spot (t : SetTable) (h : Int) (c : Nat) : SetTable.Probe := nth t.mask (runAt t.mask (SetTable.bits h % (t.mask + 1)) (SetTable.bits h)) c
theorem spot_more (t : SetTable) (h : Int) (c q : Nat) : nth t.mask (spot t h c) q = spot t h (c + q) := (nth_add t.mask c _ q).symm
theorem no_dummy (m : Nat) : ∀ (n : Nat) (p : SetTable.Probe), p.dummy = none → (nth m p n).dummy = none
  | 0, _, h => h
  | n + 1, p, h => no_dummy m n (adv m p) (by unfold adv; split <;> exact h)
/-- the search, from the c-th step on: it ends at the key, or at the free place Z -/
theorem seek (fl : Flat knd) (R : Tups knd s.heap a M es ep t) {x : Addr} {k : List κ} (hx : IsTupleKey knd s.heap k x) (hu : A.units < cLine) {Z : Nat} (z1 : Z < 10 * SetTable.turns t.mask)
    (z2 : way t.mask (tupleKeyHash knd k) Z ∉ t.place.toList) (z3 : ∀ c, c < Z → way t.mask (tupleKeyHash knd k) c ∈ t.place.toList) {Q : SetFound → Shared → Prop}
    (yes : k ∈ M.map (·.2) → Q (.there none) s) (no : k ∉ M.map (·.2) → Q (.free (way t.mask (tupleKeyHash knd k) Z) false) s) :
    ∀ (f c : Nat) (at_ : Option SetTable.Probe), at_.getD (t.probeStart (tupleKeyHash knd k)) = spot t (tupleKeyHash knd k) c → c ≤ Z → Z - c < f →
      (∀ (i : Nat) p, M[i]? = some p → p.2 = k → ∃ c', c ≤ c' ∧ c' < Z ∧ t.place.toList[i]? = some (way t.mask (tupleKeyHash knd k) c')) →
      wpAny (model P w) A (setSearchFrom a (.ref x) (tupleKeyHash knd k) true f at_) Q E s := by
  intro f
  induction f with
  | zero => intro c at_ _ _ hf _; exact absurd hf (Nat.not_lt_zero _)
  | succ f ih =>
  intro c at_ hst hc hf ahead
  obtain ⟨o, ho, hex, hd⟩ := R.obj
  rw [setSearchFrom_succ]
  refine seqAny (wpAny_setState_of ho hd R.fits ?_)
  dsimp only
  refine wp_if_neg R.stay ?_
  try refine seqAny (wpAny_pure ?_)
  have way_at : ∀ q, (nth t.mask (spot t (tupleKeyHash knd k) c) q).j = way t.mask (tupleKeyHash knd k) (c + q) := fun q => congrArg SetTable.Probe.j (spot_more t _ c q)
  have to_end : c + (Z - c) = Z := by omega
  have told := go_spec t R.tab.ris R.tab.dm (fun i => (es[i]?.map (·.1)).getD 0) (tupleKeyHash knd k) (10 * SetTable.turns t.mask) (Z - c) _ (no_dummy t.mask c _ rfl) (by omega)
    (fun q hq => by rw [way_at]; exact z3 (c + q) (by omega)) (by rw [way_at, to_end]; exact z2)
  have hash_at : ∀ (i : Nat) p, M[i]? = some p → (fun i => (es[i]?.map (·.1)).getD 0) i = tupleKeyHash knd p.2 := fun i p hp => by
    show (es[i]?.map (·.1)).getD 0 = _
    rw [ent_at R.rows hp]; rfl
  rcases told with ⟨q, i, hq, hi, hh, before, hpr⟩ | ⟨before, hpr⟩
  · have met : t.probe (fun i => (es[i]?.map (·.1)).getD 0) (tupleKeyHash knd k) (at_.getD (t.probeStart (tupleKeyHash knd k))) = some (.candidate (way t.mask (tupleKeyHash knd k) (c + q)) i (spot t (tupleKeyHash knd k) (c + (q + 1)))) := by
      rw [hst, ← way_at, ← spot_more]
      exact hpr
    rw [met]
    dsimp only
    rw [way_at] at hi
    have lt : i < M.length := by
      have z := (List.getElem?_eq_some_iff.mp hi).1
      rw [Array.length_toList, R.tab.sz, show (hashes knd M).length = M.length from List.length_map _] at z
      exact z
    obtain ⟨p, hp⟩ : ∃ p, M[i]? = some p := ⟨_, List.getElem?_eq_getElem lt⟩
    have mem : p ∈ M := List.mem_of_getElem? hp
    have go_on : wpAny (model P w) A (searchRest a (.ref x) (tupleKeyHash knd k) true f es t (way t.mask (tupleKeyHash knd k) (c + q)) i (spot t (tupleKeyHash knd k) (c + (q + 1)))) Q E s := by
      unfold searchRest
      rw [ent_at R.rows hp]
      dsimp only
      refine seqAny (wpAny_holding (wpAny_eqBool_tuple hu (R.tup p mem) hx (wpAny_bind (wpAny_setState_of ho hd R.fits ?_))))
      dsimp only
      by_cases same : p.2 = k
      · refine wp_if_pos (by simp [same]) (wpAny_pure (yes (List.mem_map.mpr ⟨p, mem, same⟩)))
      · refine wp_if_neg (by simp [same]) ?_
        try refine seqAny (wpAny_pure ?_)
        rw [sameMem]
        dsimp only
        have live : t.slot (way t.mask (tupleKeyHash knd k) (c + q)) = .live i := slot_live R.tab.ris hi
        simp only [if_true, live, ent_at R.rows hp]
        refine seqAny (wpAny_isSame_ref_self (wpAny_bind (wpAny_pure ?_)))
        simp only [if_true]
        refine wp_if_neg (by simp [same]) ?_
        refine ih (c + (q + 1)) _ rfl (by omega) (by omega) fun i0 p0 h0 k0 => ?_
        obtain ⟨c', a1, a2, a3⟩ := ahead i0 p0 h0 k0
        refine ⟨c', ?_, a2, a3⟩
        rcases Nat.lt_trichotomy c' (c + q) with lo | eq | hi'
        · refine (before (c' - c) i0 (by omega) (by rw [way_at, show c + (c' - c) = c' by omega]; exact a3) ?_).elim
          exact (hash_at i0 p0 h0).trans (congrArg (tupleKeyHash knd) k0)
        · rw [eq] at a3
          have s0 := slot_live R.tab.ris a3
          rw [live] at s0
          injection s0 with s0
          rw [← s0, hp] at h0
          exact (same ((congrArg Prod.snd (Option.some.inj h0)).trans k0)).elim
        · omega
    by_cases led : t.led = true
    · refine wp_if_neg (by simp [led]) ?_
      try refine seqAny (wpAny_pure ?_)
      exact go_on
    · refine wp_if_pos (by simp [led]) (wpAny_bind (unseen fl hx (fun y hy => ?_) ?_))
      · obtain ⟨e, he, ee⟩ := List.mem_map.mp hy
        have he1 : e ∈ es ∧ e.1 = tupleKeyHash knd k := by simpa using he
        have he2 : e ∈ es.toList := by simpa using he1.1
        rw [R.rows] at he2
        obtain ⟨p2, hp2, e2⟩ := List.mem_map.mp he2
        exact ⟨p2.2, p2.1, by rw [← ee, ← e2], R.tup p2 hp2⟩
      · refine wp_if_neg (by decide) ?_
        try refine seqAny (wpAny_pure ?_)
        exact go_on
  · have met : t.probe (fun i => (es[i]?.map (·.1)).getD 0) (tupleKeyHash knd k) (at_.getD (t.probeStart (tupleKeyHash knd k))) = some (.empty (way t.mask (tupleKeyHash knd k) Z) none) := by
      have e2 : way t.mask (tupleKeyHash knd k) Z = (nth t.mask (spot t (tupleKeyHash knd k) c) (Z - c)).j := by rw [way_at, to_end]
      rw [hst, e2]
      exact hpr
    rw [met]
    dsimp only
    refine wpAny_pure (no fun hm => ?_)
    obtain ⟨p0, h0, k0⟩ := List.mem_map.mp hm
    obtain ⟨i0, hi0, e0⟩ := List.getElem_of_mem h0
    have h00 : M[i0]? = some p0 := by rw [List.getElem?_eq_getElem hi0, e0]
    obtain ⟨c', a1, a2, a3⟩ := ahead i0 p0 h00 k0
    refine before (c' - c) i0 (by omega) (by rw [way_at, show c + (c' - c) = c' by omega]; exact a3) ?_
    exact (hash_at i0 p0 h00).trans (congrArg (tupleKeyHash knd) k0)
theorem search (fl : Flat knd) (R : Tups knd s.heap a M es ep t) {x : Addr} {k : List κ} (hx : IsTupleKey knd s.heap k x) (hu : A.units < cLine) {Q : SetFound → Shared → Prop} (yes : k ∈ M.map (·.2) → Q (.there none) s)
    (no : ∀ Z, k ∉ M.map (·.2) → way t.mask (tupleKeyHash knd k) Z ∉ t.place.toList → (∀ c, c < Z → way t.mask (tupleKeyHash knd k) c ∈ t.place.toList) → Q (.free (way t.mask (tupleKeyHash knd k) Z) false) s) :
    wpAny (model P w) A (setSearch a (.ref x) (tupleKeyHash knd k) true) Q E s := by
  have lm : (hashes knd M).length = M.length := List.length_map _
  obtain ⟨Z, z1, z2, z3⟩ := R.tab.first (by have := R.room; omega) (tupleKeyHash knd k)
  have small : Z < 100000 := by
    have : 10 * SetTable.turns t.mask ≤ 1420 := by
      unfold SetTable.turns
      rcases R.tab.mok with e | e | e <;> omega
    omega
  unfold setSearch
  refine seek fl R hx hu z1 z2 z3 yes (fun hn => no Z hn z2 z3) 100000 0 none rfl (Nat.zero_le _) (by omega) fun i p hp hk => ?_
  have hi : (hashes knd M)[i]? = some (tupleKeyHash knd k) := by
    unfold hashes
    rw [List.getElem?_map, hp, ← hk]; rfl
  have lt : i < t.place.toList.length := by
    rw [Array.length_toList, R.tab.sz, lm]
    exact (List.getElem?_eq_some_iff.mp hp).1
  have hj := List.getElem?_eq_getElem lt
  obtain ⟨c, hc, e⟩ := R.tab.before z2 hi hj
  exact ⟨c, Nat.zero_le _, hc, by rw [hj, e]⟩
/-! ### put in -/
theorem tup_still {h h' : Heap} {k : List κ} {b : Addr} {o : Obj} (hb : IsTupleKey knd h k b) (ho : h.get? a = some o) (hd : o.data = .set es ep t) (sb : Heap.SameBut a h h') : IsTupleKey knd h' k b := by
  obtain ⟨o', its, n, g, hc, hd', hi⟩ := hb
  have ne : b ≠ a := fun e => by
    rw [e, ho] at g
    rw [Option.some.inj g, hd'] at hd
    exact nomatch hd
  exact ⟨o', its, n, (sb.2 b ne).trans g, hc, hd', hi⟩
theorem ins_perm {α : Type} (l : List α) (p : Nat) (x : α) : (l.take p ++ x :: l.drop p).Perm (x :: l) := by
  have z : (l.take p ++ x :: l.drop p).Perm (x :: (l.take p ++ l.drop p)) := List.perm_middle
  rwa [List.take_append_drop] at z
theorem pick {α β : Type} (f : Nat → Option α) (l : List α) (hf : ∀ i, f i = l[i]?) {o : List Nat} (hp : o.Perm (List.range l.length)) : (o.filterMap f).Perm l := by
  have z : ∀ n, n ≤ l.length → (List.range n).filterMap f = l.take n := by
    intro n
    induction n with
    | zero => intro _; rfl
    | succ n ih =>
      intro hn
      have lt : n < l.length := hn
      rw [List.range_succ, List.filterMap_append, ih (Nat.le_of_lt lt), List.take_succ, List.getElem?_eq_getElem lt, List.filterMap_cons_some ((hf n).trans (List.getElem?_eq_getElem lt))]; rfl
  have y := hp.filterMap f
  rw [z _ (Nat.le_refl _), List.take_length] at y
  exact y
theorem reorder (hr : es.toList = ents knd M) {ord : Array Nat} (hp : ord.toList.Perm (List.range M.length)) :
    ∃ M2 : List (Row κ), (ord.filterMap (es[·]?)).toList = ents knd M2 ∧ M2.Perm M ∧ hashes knd M2 = ord.toList.map fun i => (es.map (·.1)).getD i 0 := by
  refine ⟨ord.toList.filterMap fun i => M[i]?, ?_, pick (β := Unit) _ M (fun _ => rfl) hp, ?_⟩
  · rw [Array.toList_filterMap]
    have : ∀ l : List Nat, l.filterMap (fun i => es[i]?) = ents knd (l.filterMap fun i => M[i]?) := by
      intro l
      induction l with
      | nil => rfl
      | cons i l ih =>
        cases g : M[i]? with
        | none =>
          have g2 : es[i]? = none := by rw [← Array.getElem?_toList, hr]; unfold ents; rw [List.getElem?_map, g]; rfl
          rw [List.filterMap_cons_none g, List.filterMap_cons_none g2, ih]
        | some p => rw [List.filterMap_cons_some g, List.filterMap_cons_some (ent_at hr g), ih]; rfl
    exact this _
  · have sz := len_of hr
    have : ∀ l : List Nat, (∀ i ∈ l, i < M.length) → hashes knd (l.filterMap fun i => M[i]?) = l.map fun i => (es.map (·.1)).getD i 0 := by
      intro l
      induction l with
      | nil => intro _; rfl
      | cons i l ih =>
        intro hl
        have g : M[i]? = some (M[i]'(hl i List.mem_cons_self)) := List.getElem?_eq_getElem _
        generalize (M[i]'(hl i List.mem_cons_self)) = p at g
        rw [List.filterMap_cons_some g, List.map_cons, ← ih fun j hj => hl j (List.mem_cons_of_mem _ hj)]
        have e5 : (es.map (·.1))[i]? = some (tupleKeyHash knd p.2) := by rw [Array.getElem?_map, ent_at hr g]; rfl
        have e4 : (es.map (·.1)).getD i 0 = tupleKeyHash knd p.2 := by simp [Array.getD_eq_getD_getElem?, e5]
        rw [e4]; rfl
    exact this _ fun i hi => List.mem_range.mp (hp.mem_iff.mp hi)
/-- the table laid anew, larger -/
theorem relay (fl : Flat knd) {o : Obj} (ho : s.heap.get? a = some o) (hex : o.ExactSet) (hd : o.data = .set es ep t) (hr : es.toList = ents knd M) (hsz : t.place.size = es.size) (hdm : t.dummies = #[]) (hfl : es.size ≤ t.mask)
    (once : (M.map (·.2)).Nodup) (tup : ∀ p ∈ M, IsTupleKey knd s.heap p.2 p.1) (ld : w.params.followText "set-order" = true ∨ t.led = true) (few : M.length < 64) {many N : Nat}
    (hw : SetTable.sizeAbove many - 1 = N) (hN : MaskOk N) (hw2 : SetTable.sizeAbove many ≤ 128) (hn : M.length * 5 < N * 3) {Q : Unit → Shared → Prop}
    (hQ : ∀ h' M' es' ep' t', Heap.SameBut a s.heap h' → Tups knd h' a M' es' ep' t' → M'.Perm M → Q () { s with heap := h' }) : wpAny (model P w) A (setRelay a many) Q E s := by
  have sz := len_of hr
  have fits : t.fits es.size = true := by
    exact fits_of hdm hsz hfl
  obtain ⟨t', ord, e, hp, T, em, el, epl, ed⟩ := relaid_ok t (hs := es.map (·.1)) (wanted := many) hw hN (by rw [Array.size_map, sz]; omega)
  rw [Array.size_map, sz] at hp
  obtain ⟨M2, r1, r2, r3⟩ := reorder hr hp
  rw [← r3] at T
  have z2 : (ord.filterMap (es[·]?)).size = es.size := by rw [len_of r1, r2.length_eq, sz]
  rw [setRelay_eq]
  refine seqAny (wpAny_setState_of ho hd fits ?_)
  dsimp only
  refine wp_if_neg (by rw [sizeLine_eq]; omega) ?_
  try refine seqAny (wpAny_pure ?_)
  rw [e]
  dsimp only
  refine seqAny (wp_if_neg (by rw [z2]; simp) ?_)
  try refine seqAny (wpAny_pure ?_)
  refine wpAny_pure ?_
  dsimp only
  refine wpAny_storeSet_of ho hd ?_ (by rw [z2, sz, sizeLine_eq]; omega)
  have sb : Heap.SameBut a s.heap (s.heap.update a (Obj.putSet (ord.filterMap (es[·]?)) t')) := Heap.SameBut.update ..
  refine hQ _ M2 (ord.filterMap (es[·]?)) (ep + 1) t' sb ⟨⟨_, store_at ho hd, ⟨hex.1, hex.2.1, hex.2.2⟩, rfl⟩, r1, T, ?_, fun p hpm => tup_still (tup p (r2.mem_iff.mp hpm)) ho hd sb, by rw [el]; exact ld, ?_, by rw [r2.length_eq]; exact few⟩ r2
  · exact (r2.map (·.2)).nodup_iff.mpr once
  · rw [r2.length_eq, em]; exact hn
theorem put (fl : Flat knd) (R : Tups knd s.heap a M es ep t) {x : Addr} {k : List κ} (hx : IsTupleKey knd s.heap k x) (hu : A.units < cLine) (lt : M.length + 1 < 64) {Q : Bool → Shared → Prop}
    (hQ : ∀ b h' M' es' ep' t', Heap.SameBut a s.heap h' → Tups knd h' a M' es' ep' t' → (k ∈ M.map (·.2) → M' = M) → (k ∉ M.map (·.2) → M'.Perm ((x, k) :: M)) → Q b { s with heap := h' }) :
    wpAny (model P w) A (setAddHashed a (.ref x) (tupleKeyHash knd k)) Q E s := by
  obtain ⟨o, ho, hex, hd⟩ := R.obj
  have sz := R.size
  have room := R.room
  unfold setAddHashed
  refine wpAny_holding ?_
  rw [show (100000 : Nat) = 99999 + 1 from rfl, setAddHashedIn_succ]
  refine seqAny (wpAny_setState_of ho hd R.fits ?_)
  dsimp only
  refine wp_if_neg (by simp [byScan, Value.scannable]) ?_
  try refine seqAny (wpAny_pure ?_)
  refine seqAny (search fl R hx hu (fun hm => ?_) fun Z hm hZ hb => ?_)
  · dsimp only
    exact wpAny_pure (hQ false s.heap M es ep t (Heap.SameBut.refl a s.heap) R (fun _ => rfl) fun z => absurd hm z)
  · dsimp only
    refine seqAny (wpAny_setState_of ho hd R.fits ?_)
    dsimp only
    obtain ⟨q1, q2, q3, q4, q5, q6, q7, q8, q9⟩ := R.tab.put hZ hb
    generalize hpt : t.put (way t.mask (tupleKeyHash knd k) Z) = pt at q1 q3 q4 q5 q6 q7 q8 q9 ⊢
    obtain ⟨t0, p⟩ := pt
    dsimp only at q1 q3 q4 q5 q6 q7 q8 q9 ⊢
    subst q1
    have rest : ∀ (b : Bool) (t1 : SetTable), t1.place = t0.place → t1.dummies = t0.dummies → t1.mask = t0.mask → t1.led = t0.led → wpAny (model P w) A (do
        storeSet a (SetTable.insertAt es (SetTable.below t.place (way t.mask (tupleKeyHash knd k) Z)) (tupleKeyHash knd k, Value.ref x)) t1
        if !false && t1.tooFull then setRelay a (SetTable.grown (es.size + 1))
        return true) Q E s := by
     intro b t1 w1 w2 w3 w4
     replace q3 : TabOk t1 (List.take (SetTable.below t.place (way t.mask (tupleKeyHash knd k) Z)) (hashes knd M) ++ tupleKeyHash knd k :: List.drop (SetTable.below t.place (way t.mask (tupleKeyHash knd k) Z)) (hashes knd M)) := ⟨by rw [w1]; exact q3.ris, by rw [w2]; exact q3.dm, by rw [w1]; exact q3.sz, by rw [w3]; exact q3.mok, by rw [w1, w3]; exact q3.bd, by rw [w1, w3]; exact q3.reach⟩
     replace q4 := w3.trans q4
     replace q5 := w4.trans q5
     replace q9 : t1.fill = (hashes knd M).length + 1 := by
       have z := q9
       unfold SetTable.fill at z ⊢
       rw [w1, w2]; exact z
     clear w1 w2 w3 w4 hpt
     have put1 : ∀ q, (SetTable.insertAt es q (tupleKeyHash knd k, Value.ref x)).toList = ents knd (M.take q ++ (x, k) :: M.drop q) := fun q => by
       rw [SetTable.toList_insertAt, R.rows]
       unfold ents
       rw [List.map_append, List.map_cons, List.map_take, List.map_drop]
     have hin := put1 (SetTable.below t.place (way t.mask (tupleKeyHash knd k) Z))
     generalize hpp : SetTable.below t.place (way t.mask (tupleKeyHash knd k) Z) = p at q2 q3 hin ⊢
     have pm := ins_perm M p (x, k)
     have len1 : (M.take p ++ (x, k) :: M.drop p).length = M.length + 1 := pm.length_eq
     have hash1 : hashes knd (M.take p ++ (x, k) :: M.drop p) = (hashes knd M).take p ++ tupleKeyHash knd k :: (hashes knd M).drop p := by
       unfold hashes
       rw [List.map_append, List.map_cons, List.map_take, List.map_drop]
     rw [← hash1] at q3
     have once1 : ((M.take p ++ (x, k) :: M.drop p).map (·.2)).Nodup := (pm.map (·.2)).nodup_iff.mpr (by rw [List.map_cons]; exact List.nodup_cons.mpr ⟨hm, R.once⟩)
     have size1 := (len_of hin).trans len1
     generalize SetTable.insertAt es p (tupleKeyHash knd k, Value.ref x) = es1 at hin size1 ⊢
     generalize M.take p ++ (x, k) :: M.drop p = M1 at pm len1 q3 once1 hin
     refine seqAny (wpAny_storeSet_of ho hd ?_ (by rw [size1, sizeLine_eq]; omega))
     have sb : Heap.SameBut a s.heap (s.heap.update a (Obj.putSet es1 t1)) := Heap.SameBut.update ..
     have ho1 := store_at (es' := es1) (t' := t1) ho hd
     generalize s.heap.update a (Obj.putSet es1 t1) = h1 at sb ho1 ⊢
     have tup1 : ∀ p ∈ M1, IsTupleKey knd h1 p.2 p.1 := fun p hp => by
       rcases List.mem_cons.mp (pm.mem_iff.mp hp) with e | hp
       · rw [e]; exact tup_still hx ho hd sb
       · exact tup_still (R.tup p hp) ho hd sb
     have led1 : w.params.followText "set-order" = true ∨ t1.led = true := by rw [q5]; exact R.led
     have lh : (hashes knd M).length = M.length := List.length_map _
     have lh1 : (hashes knd M1).length = M.length + 1 := (List.length_map _).trans len1
     by_cases full : t1.tooFull = true
     · first
         | (refine wpAny_bind ?_; refine wp_if_pos (by simp [full]) ?_)
         | (refine wp_if_pos (by simp [full]) ?_; refine wpAny_bind ?_)
       have much : (M.length + 1) * 5 ≥ t1.mask * 3 := by
         have z := full
         unfold SetTable.tooFull at z
         rw [decide_eq_true_eq, q9, lh] at z
         exact z
       rw [sz]
       have size2 : t1.place.size = es1.size := by rw [q3.sz, lh1, size1]
       have two : (t.mask = 7 ∧ M.length = 4) ∨ (t.mask = 31 ∧ M.length = 18) := by
         rw [q4] at much
         rcases R.tab.mok with e | e | e <;> rw [e] at much room
         · exact .inl ⟨e, by omega⟩
         · exact .inr ⟨e, by omega⟩
         · omega
       have go : ∀ N, SetTable.sizeAbove (SetTable.grown (M.length + 1)) - 1 = N → MaskOk N → SetTable.sizeAbove (SetTable.grown (M.length + 1)) ≤ 128 → (M.length + 1) * 5 < N * 3 →
           wpAny (model P w) A (setRelay a (SetTable.grown (M.length + 1))) (fun _ s' => wpAny (model P w) A (pure true) Q E s') E { s with heap := h1 } := fun N g1 g2 g3 g4 => by
         refine relay fl (s := { s with heap := h1 }) ho1 ⟨hex.1, hex.2.1, hex.2.2⟩ rfl hin size2 q3.dm (by rw [size1, q4]; rcases two with ⟨e, e2⟩ | ⟨e, e2⟩ <;> omega) once1 tup1 led1 (by rw [len1]; exact lt) g1 g2 g3 (by rw [len1]; exact g4) ?_
         intro h2 M2 es2 ep2 t2 sb2 R2 pm2
         exact wpAny_pure (hQ true h2 M2 es2 ep2 t2 (sb.trans sb2) R2 (fun z => absurd z hm) fun _ => pm2.trans pm)
       rcases two with ⟨_, e2⟩ | ⟨_, e2⟩
       · exact go 31 (by rw [e2, size_20]) (.inr (.inl rfl)) (by rw [e2, size_20]; decide) (by omega)
       · exact go 127 (by rw [e2, size_76]) (.inr (.inr rfl)) (by rw [e2, size_76]; decide) (by omega)
     · first
         | refine wp_if_neg (by simp [full]) ?_
         | (refine wpAny_bind ?_; refine wp_if_neg (by simp [full]) ?_; refine wpAny_pure ?_)
       refine wpAny_pure (hQ true h1 M1 es1 (ep + 1) t1 sb ⟨⟨_, ho1, ⟨hex.1, hex.2.1, hex.2.2⟩, rfl⟩, hin, q3, once1, tup1, led1, ?_, by rw [len1]; exact lt⟩ (fun z => absurd z hm) fun _ => pm)
       have z := full
       unfold SetTable.tooFull at z
       rw [decide_eq_true_eq, q9, lh] at z
       rw [len1]
       omega

    by_cases pl : t0.plain = true
    · first
        | (refine wpAny_bind ?_; refine wp_if_pos pl ?_; refine by_value fl hx fun b => ?_)
        | refine wp_if_pos pl (wpAny_bind (by_value fl hx fun b => ?_))
      cases b with
      | true => exact rest true t0 rfl rfl rfl rfl
      | false => exact rest false _ rfl rfl rfl rfl
    · first
        | (refine wpAny_bind ?_; refine wp_if_neg pl ?_; refine wpAny_pure ?_)
        | refine wp_if_neg pl (wpAny_bind (wpAny_pure ?_))
      exact rest true t0 rfl rfl rfl rfl
end
/-! ### as a tracked thing -/
/-- the set's own object: the addresses of its tuples, and what they hold -/
structure Part (P : Program) (w : World) (h : Heap) (a : Addr) (M : List (Row Key)) (es : Array (Int × Value)) (ep : Nat) (t : SetTable) : Prop where
  obj : ∃ o, h.get? a = some o ∧ o.ExactSet ∧ o.data = .set es ep t
  rows : es.toList = ents (mixKind P w) M
  tab : TabOk t (hashes (mixKind P w) M)
  once : (M.map (·.2)).Nodup
  led : w.params.followText "set-order" = true ∨ t.led = true
  room : M.length * 5 < t.mask * 3
  few : M.length < 64
def Is (P : Program) (w : World) (a : Addr) (M : List (Row Key)) (h : Heap) : Prop := ∃ es ep t, Part P w h a M es ep t
def SetF (P : Program) (w : World) (a : Addr) (M : List (Row Key)) : HO := .ext fun h => Is P w a M h
theorem Is.keep {P : Program} {w : World} {a : Addr} {M : List (Row Key)} {h h' : Heap} (R : Is P w a M h) (k : ∀ o, h.get? a = some o → h'.get? a = some o) : Is P w a M h' :=
  let ⟨es, ep, t, q⟩ := R; let ⟨o, ho, r⟩ := q.obj; ⟨es, ep, t, ⟨o, k o ho, r⟩, q.rows, q.tab, q.once, q.led, q.room, q.few⟩
theorem Is.there {P : Program} {w : World} {a : Addr} {M : List (Row Key)} {h : Heap} (R : Is P w a M h) : ∃ o, h.get? a = some o ∧ o.cls = .type "set" := let ⟨_, _, _, q⟩ := R; let ⟨o, ho, hx, _⟩ := q.obj; ⟨o, ho, hx.1⟩
theorem part_ok {P : Program} {w : World} {a : Addr} {M : List (Row Key)} {H : Hp} {h : Heap} (R : Is P w a M h) : ObjOk P w H h a (SetF P w a M) := ⟨R, let ⟨o, ho, _⟩ := R.there; ⟨o, ho⟩, fun _ _ p k => p.keep k⟩
theorem fresh_tups {P : Program} {w : World} (h : Heap) : Is P w h.objs.size [] (h.push (KnS.set0 w)) := by
  refine ⟨#[], 0, _, ⟨_, Heap.get?_push_size _ rfl, ⟨rfl, rfl, rfl⟩, rfl⟩, rfl, ⟨List.Pairwise.nil, rfl, rfl, .inl rfl, (fun x hx => nomatch hx), fun i z j hi => (by simp [hashes] at hi)⟩, List.nodup_nil, ?_, (show 0 * 5 < 7 * 3 by decide), (show 0 < 64 by decide)⟩
  cases q : w.params.followText "set-order" with
  | true => exact .inl rfl
  | false => exact .inr rfl
/-- .. and its tuples -/
def TupsAt (P : Program) (w : World) (H : Hp) (a : Addr) (M : List (Row Key)) : Prop := H a = some (SetF P w a M) ∧ ∀ p ∈ M, H p.1 = some (.tup (p.2.map kV))
theorem setF_ne {P : Program} {w : World} {a : Addr} {M : List (Row Key)} {xs : List V} : SetF P w a M ≠ .tup xs := fun z => by unfold SetF at z; cases z
section
variable {X : Cx} {pins : List (Addr × Obj)} {σ : L2.St} {H : Hp} {s : Shared} {a : Addr} {M : List (Row Key)}
theorem tup_is {P : Program} {w : World} {H : Hp} {h : Heap} {b : Addr} {k : List Key} (ok : HOk P w H h) (e : H b = some (.tup (k.map kV))) : IsTupleKey (mixKind P w) h k b := by
  obtain ⟨_, its, rv, o, h1, h2, n, h3⟩ := (show ObjOk P w H h b (.tup (k.map kV)) from ok b _ e)
  exact ⟨o, _, n, h1, h2, h3, by simpa using items_are rv⟩
theorem tups_of (I : Inv X pins σ H s) (D : TupsAt X.prog X.w H a M) : ∃ es ep t, Tups (mixKind X.prog X.w) s.heap a M es ep t := by
  obtain ⟨⟨es, ep, t, q⟩, _⟩ := (show ObjOk X.prog X.w H s.heap a (SetF X.prog X.w a M) from I.hok a _ D.1)
  exact ⟨es, ep, t, q.obj, q.rows, q.tab, q.once, fun p hp => tup_is I.hok (D.2 p hp), q.led, q.room, q.few⟩
theorem n_addT {A : Around} {E : Value → Shared → Prop} {Q : Value → Shared → Prop} {b : Addr} {k : List Key} {u : Value} (hu : A.units + 65 < cLine) (I : Inv X pins σ H s) (D : TupsAt X.prog X.w H a M) (eb : H b = some (.tup (k.map kV))) (r : RelV (.ref b) u) (lt : M.length + 1 < 64)
    (hQ : ∀ M' s', Inv X pins σ (upd H a (SetF X.prog X.w a M')) s' → (k ∈ M.map (·.2) → M' = M) → (k ∉ M.map (·.2) → M'.Perm ((b, k) :: M)) → TupsAt X.prog X.w (upd H a (SetF X.prog X.w a M')) a M' → Q .none s') :
    wpAny (model X.prog X.w) A (call (.builtin "set.add") [.ref a, u]) Q E s := by
  obtain rfl : u = Value.ref b := r
  obtain ⟨es, ep, t, R⟩ := tups_of I D
  have hx := tup_is I.hok eb
  have there : ∃ o, s.heap.get? a = some o ∧ o.cls = .type "set" := let ⟨o, ho, hex, _⟩ := R.obj; ⟨o, ho, hex.1⟩
  refine wpAny_call_entry F.slot_set_add (show s.TypeIs (.ref a) "set" from there) F.entry_set_add ?_ (F.args_set_add_2 _ _)
  unfold Builtin.«set.add» Builtin.Frozenset.oneOther
  simp only [List.isEmpty_nil, bind_assoc]
  unfold Builtin.Frozenset.addrOf setAdd
  refine seqAny (wpAny_pure (wpAny_bind (wpAny_pure (wpAny_bind (wpAny_holding (wpAny_bind (wpAny_pyHash_tuple (show A.in1.units < cLine by have : A.in1.units ≤ A.units + 1 := Nat.le_refl _; omega) hx ?_)))))))
  refine put (s := { s with toks := s.toks + (k.length + 1) }) flat_mix R hx (show A.in1.units < cLine by have : A.in1.units ≤ A.units + 1 := Nat.le_refl _; omega) lt fun _ h' M' es' ep' t' sb R' c1 c2 => ?_
  have sub : ∀ p ∈ M', p ∈ (b, k) :: M := fun p hp => by
    rcases Classical.em (k ∈ M.map (·.2)) with c | c
    · rw [c1 c] at hp; exact List.mem_cons_of_mem _ hp
    · exact (c2 c).mem_iff.mp hp
  have ob : ObjOk X.prog X.w (upd H a (SetF X.prog X.w a M')) h' a (SetF X.prog X.w a M') := part_ok ⟨es', ep', t', R'.obj, R'.rows, R'.tab, R'.once, R'.led, R'.room, R'.few⟩
  refine (show wpAny _ _ (ret Value.none) _ _ _ from wpAny_pure ⟨_, rfl, hQ M' _ (I.write (e := a) (t' := s.toks + (k.length + 1)) (by rw [D.1]; trivial) (.inl rfl) (fun b o hb ho => (sb.2 b hb).trans ho) (let ⟨o, ho, _⟩ := R'.obj; ⟨o, ho⟩) ob) c1 c2 ⟨upd_same, fun p hp => ?_⟩⟩)
  have e : H p.1 = some (.tup (p.2.map kV)) := by
    rcases List.mem_cons.mp (sub p hp) with z | z
    · rw [z]; exact eb
    · exact D.2 p z
  exact (upd_ne fun z => by rw [z, D.1] at e; exact setF_ne (Option.some.inj e)).trans e
theorem cr_lenT : CallR X (.builtin "len") (fun xs H Q => ∃ (a : Addr) (M : List (Row Key)), xs = [.ref a] ∧ H a = some (SetF X.prog X.w a M) ∧ Q (.int M.length) H) := by
  intro pins s σ H vs us Q I r h
  obtain ⟨a, M, rfl, ha, q⟩ := h
  rw [Vals.ref1 r]
  obtain ⟨⟨es, ep, t, ⟨o, ho, hex, hd⟩, hr, ht, _, _, hm, hf⟩, _⟩ := (show ObjOk X.prog X.w H s.heap a (SetF X.prog X.w a M) from I.hok a _ ha)
  have n := len_of hr
  have fits : t.fits es.size = true := by
    have z1 : t.place.size = M.length := ht.sz.trans (List.length_map _)
    have z2 : t.place.size = es.size := z1.trans n.symm
    exact fits_of ht.dm z2 (by omega)
  exact call_len_set ho hex hd fits (by omega) ⟨.int M.length, H, I.tok _, ⟨_, by rw [n]⟩, q⟩
end
/-! ### a set comprehension whose members are tuples -/
def tScT (P : Program) (w : World) (wi : TI) (g : TG) (tt : TT) (te : TE) (vs : List Nat) : TE := fun σ H Q => wi σ H fun J H1 => ∀ D, H1 D = none →
  ∃ W : Nat → Nat → Hp → Prop, (∃ m, W 0 m (upd H1 D (SetF P w D []))) ∧ ∀ i m H, W i m H → (J.stop i H ∧ Q (.ref D) H) ∨
    (J.go i H ∧ ∃ Nx : Hp → Prop, (∀ H', Nx H' → ∃ m', m' < m ∧ W (i + 1) m' H') ∧
      ∀ x H', J.yld i H x H' → g x (wipe σ vs) H' fun σ2 H2 => wipe σ2 vs = wipe σ vs ∧ tt σ2 H2 fun b H3 =>
        if b = true then te σ2 H3 fun y H4 => ∃ (b : Addr) (k : List Key) (M : List (Row Key)), y = .ref b ∧ TupsAt P w H4 D M ∧ H4 b = some (.tup (k.map kV)) ∧ M.length + 1 < 64 ∧
          ∀ M', (k ∈ M.map (·.2) → M' = M) → (k ∉ M.map (·.2) → M'.Perm ((b, k) :: M)) → TupsAt P w (upd H4 D (SetF P w D M')) D M' → Nx (upd H4 D (SetF P w D M')) else Nx H3)
section
variable {X : Cx}
theorem scT {elt tg iter : Expr} {ifs : List Expr} {scope : Scope} {own : List (Str × Nat)} {pos : Pos} {wi : TI} {g : TG} {tt : TT} {te : TE}
    (hu : X.A.units + 65 < cLine) (hc : X.calm = true) (hN : X.N.Nodup) (hi : PI X tg iter wi) (ok : BlkOk X.N X.env.scope scope own)
    (hg : ∀ (s : Shared) (H : Hp) (C : Addr) (cl : List (Str × Addr)) (fp : List Addr), PG (X.blk s H scope (compEnvC scope cl C X.env) fp) tg g)
    (ht : ∀ (s : Shared) (H : Hp) (C : Addr) (cl : List (Str × Addr)) (fp : List Addr), PTs (X.blk s H scope (compEnvC scope cl C X.env) fp) ifs tt)
    (he : ∀ (s : Shared) (H : Hp) (C : Addr) (cl : List (Str × Addr)) (fp : List Addr), PE (X.blk s H scope (compEnvC scope cl C X.env) fp) elt te)
    (hs : ∀ x, foldedSetIterable iter X.env x = pure x := by intro _; rfl) :
    PE X (.SetComp elt [⟨tg, iter, ifs, 0⟩] scope pos) (tScT X.prog X.w wi g tt te (own.map (·.2))) := by
  refine ⟨fun pins s σ H Q I h => ?_⟩
  rw [PpSet.eval_SetComp]
  have captured : ∀ y ∈ scope.names, y.2 = .free → ∃ c, X.env.cells.lookup y.1 = some c := fun y hy e =>
    (ok.free y hy e).elim (fun k => I.ok.has _ (.inl k)) fun k => I.ok.has _ (.inr k)
  refine wpAny_comprehension_free (use := none) rfl hs (closure_ok captured) ok.kind (fun y hy e => by rw [ok.uniq y hy, e]) ?_
  refine thn (hi.run pins s σ H _ I h) fun xv s1 hx => thn hx fun itv s2 ⟨it, fp, tn, J, H2, eit, I2, T, st2, f2, q⟩ => ?_
  subst eit
  refine PpSet.newSet_ok (newEnv_comp ?_)
  generalize hD : s2.heap.objs.size = D
  have freeD : H2 D = none := I2.hok.fresh (Nat.le_of_eq hD)
  obtain ⟨W, ⟨m0, w0⟩, turn⟩ := q D freeD
  -- the new set stands
  generalize h3 : s2.heap.push (KnS.set0 X.w) = hp3
  have keep3 : ∀ b o, s2.heap.get? b = some o → hp3.get? b = some o := fun b o e => h3 ▸ Heap.get?_push_of_some _ e
  have size3 : hp3.objs.size = s2.heap.objs.size + 1 := by rw [← h3, Heap.size_push]
  have I3 : Inv X pins σ (upd H2 D (SetF X.prog X.w D [])) { s2 with heap := hp3 } := by
    refine I2.laid (t' := s2.toks) keep3 (Nat.le_of_eq hD) (part_ok ?_)
    rw [← h3, ← hD]
    exact fresh_tups _
  have inFp : ∀ b ∈ fp, b < s2.heap.objs.size := fun b hb => let ⟨_, e, _⟩ := T.obj _ _ st2 b hb; Heap.lt_size e
  have f3 : ∀ b ∈ fp, FpOk X pins (upd H2 D (SetF X.prog X.w D [])) b ∧ b < hp3.objs.size := fun b hb =>
    ⟨⟨(upd_ne (by rw [← hD]; exact Nat.ne_of_lt (inFp b hb))).trans (f2 b hb).1, (f2 b hb).2⟩, by rw [size3]; exact Nat.lt_succ_of_lt (inFp b hb)⟩
  have st3 : tn 0 hp3 := T.keep _ _ _ st2 fun b _ => keep3 b
  generalize hH3 : upd H2 D (SetF X.prog X.w D []) = H3 at I3 f3 w0
  generalize hs3 : ({ s2 with heap := hp3 } : Shared) = s3 at I3
  have e3 : s3.heap = hp3 := by rw [← hs3]
  have I4 := block_start I3 ok hN (fun b hb => ⟨(f3 b hb).1, by rw [e3]; exact (f3 b hb).2⟩)
  have clear0 : ∀ b ∈ fp, H3 b = none := fun b hb => (f3 b hb).1.1
  show codeAny _ _ (.compStart (.SetComp elt [⟨tg, iter, ifs, 0⟩] scope pos) 0 (.ref it) (.ref D) (compEnvC scope (cellsFrom (s3.heap.objs.size + 1) scope.names (cloFrom X.env.cells scope.names [])) s3.heap.objs.size X.env))
    (compPost (model X.prog X.w) X.A X.xe none (EP X pins σ Q) (.ref D) s3.heap.objs.size) { s3 with heap := pushCells (s3.heap.push { cls := .type "dict", data := .dict #[] }) scope.names }
  have pg := hg s3 H3 s3.heap.objs.size (cellsFrom (s3.heap.objs.size + 1) scope.names (cloFrom X.env.cells scope.names [])) fp
  have pt := ht s3 H3 s3.heap.objs.size (cellsFrom (s3.heap.objs.size + 1) scope.names (cloFrom X.env.cells scope.names [])) fp
  have pe := he s3 H3 s3.heap.objs.size (cellsFrom (s3.heap.objs.size + 1) scope.names (cloFrom X.env.cells scope.names [])) fp
  have home : (compEnvC scope (cellsFrom (s3.heap.objs.size + 1) scope.names (cloFrom X.env.cells scope.names [])) s3.heap.objs.size X.env).locals = s3.heap.objs.size := rfl
  generalize compEnvC scope (cellsFrom (s3.heap.objs.size + 1) scope.names (cloFrom X.env.cells scope.names [])) s3.heap.objs.size X.env = ce at I4 pg pt pe home ⊢
  have st4 : tn 0 ({ s3 with heap := pushCells (s3.heap.push { cls := .type "dict", data := .dict #[] }) scope.names } : Shared).heap := by
    refine T.keep _ _ _ st3 fun b _ o e => pushCells_keeps _ _ _ _ (Heap.get?_push_of_some _ ?_)
    rw [e3]
    exact e
  generalize ({ s3 with heap := pushCells (s3.heap.push { cls := .type "dict", data := .dict #[] }) scope.names } : Shared) = s4 at I4 ⊢ st4
  have own0 : ∀ {σ' : L2.St} {H' : Hp} {s' : Shared}, Inv (X.blk s3 H3 scope ce fp) [] σ' H' s' → (∀ b ∈ fp, H' b = none) → ∀ b ∈ fp, FpOk (X.blk s3 H3 scope ce fp) [] H' b := fun I' cl b hb =>
    ⟨cl b hb, (I'.ok.exf b hb).1, I'.ok.exfs b hb, .inl hb, (fun x c e => (I'.ok.exf b hb).2 x c e), fun p hp => by cases List.mem_append.mp hp <;> rename_i z <;> exact absurd z List.not_mem_nil⟩
  have loop : codeAny (model X.prog X.w) X.A (.compLoop (.SetComp elt [⟨tg, iter, ifs, 0⟩] scope pos) 0 (.ref it) (.ref D) ce) (compPost (model X.prog X.w) X.A X.xe none (EP X pins σ Q) (.ref D) s3.heap.objs.size) s4 := by
    refine PpSet.compLoopS_any (fun n s' => ∃ i H', (Inv (X.blk s3 H3 scope ce fp) [] (wipe σ (own.map (·.2))) H' s' ∧ tn i s'.heap) ∧ (∀ b ∈ fp, H' b = none) ∧ W i n H') ?_ m0 ⟨0, H3, ⟨I4, st4⟩, clear0, w0⟩
    rintro n s5 ⟨i, H5, ⟨I5, st5⟩, cl5, w5⟩
    rcases turn i n H5 w5 with ⟨stop, fine⟩ | ⟨go, Nx, hNx, step⟩
    · refine thnF (T.done (X.blk s3 H3 scope ce fp) rfl rfl rfl hc i [] s5 _ H5 (fun _ _ => False) I5 (own0 I5 cl5) st5 stop) fun r s6 ⟨er, I6⟩ => ?_
      subst er
      have I7 : Inv X pins σ H5 s6 := I3.call' (ch := fp) I6.os I6.base I6.hok I6.bare fun b hb =>
        let f := (f3 b hb).1.2; ⟨f.2.2.1, f.1, f.2.2.2.1, f.2.2.2.2⟩
      have free5 : H5 s3.heap.objs.size = none := home ▸ I6.free
      obtain ⟨m, hn, _⟩ := I6.loc
      obtain ⟨_, k1, k2, k3, k4, k5⟩ := I3.fpOk (Nat.le_refl _) free5
      exact ⟨m, home ▸ hn, fun h'' sb => ⟨.ref D, H5, I7.turned (t' := s6.toks) (fun b o hb e => (sb.2 b hb).trans e) free5 k1 k3 k4 k5, rfl, fine⟩⟩
    · refine thnF (T.item (X.blk s3 H3 scope ce fp) rfl rfl rfl hc i [] s5 _ H5 (fun _ _ => False) I5 (own0 I5 cl5) st5 go) fun r s6 ⟨u, er, h6⟩ => ?_
      subst er
      refine thnF h6 fun _ s7 ⟨x, H7, I7, r7, y7, st7, cl7⟩ => ?_
      refine thnF (pg.run _ s7 _ H7 x u _ (I7.pinned (own0 I7 cl7) (T.obj _ _ st7)) r7 (step x H7 y7)) fun _ s8 ⟨σ8, H8, I8, same8, q8⟩ => thnF (pt.run _ s8 σ8 H8 _ I8 q8) fun b s9 ⟨H9, I9, q9⟩ => ?_
      have closed : ∀ {s' : Shared} {H' : Hp}, Inv (X.blk s3 H3 scope ce fp) ([] ++ pinsAt fp s7.heap) σ8 H' s' → Nx H' → ∃ m, m < n ∧ ∃ i H', (Inv (X.blk s3 H3 scope ce fp) [] (wipe σ (own.map (·.2))) H' s' ∧ tn i s'.heap) ∧ (∀ b ∈ fp, H' b = none) ∧ W i m H' := fun {s' H'} I' nx => by
        obtain ⟨m', less, w'⟩ := hNx H' nx
        have pinned : ∀ b ∈ fp, ∀ o, s7.heap.get? b = some o → s'.heap.get? b = some o ∧ H' b = none := fun b hb o e =>
          have z := I'.pin (b, o) (List.mem_append_right _ (List.mem_append_right _ (mem_pinsAt hb e)))
          ⟨z.1, z.2.1⟩
        have len8 : (wipe σ (own.map (·.2))).length = σ8.length := (congrArg List.length same8).symm.trans (wipe_length _ _)
        refine ⟨m', less, i + 1, H', ⟨(I'.unpinned (pins := [])).weak len8 fun j v e => ?_, T.keep _ _ _ st7 fun b hb o e => (pinned b hb o e).1⟩, fun b hb => ?_, w'⟩
        · exact (wipe_some (same8 ▸ e)).1
        · obtain ⟨o, e, _⟩ := T.obj _ _ st7 b hb
          exact (pinned b hb o e).2
      cases b with
      | false => exact closed I9 q9
      | true =>
        refine thnF (pe.run _ s9 σ8 H9 _ I9 q9) fun z s10 ⟨yv, H10, I10, r10, b, k, M, ey, D10, eb, room, nx⟩ => ?_
        subst ey
        exact n_addT (X := X.blk s3 H3 scope ce fp) hu I10 D10 eb r10 room fun M1 s11 I11 c1 c2 d1 => closed I11 (nx M1 c1 c2 d1)
  exact PpSet.codeAny_compStart_set loop (T.self X.A 0 _ _ _ st4 loop)
end
end KnZ

set_option Elab.async false
set_option linter.all false
set_option maxRecDepth 100000
set_option maxHeartbeats 2000000
/-! Dicts whose keys are nested tuples (of ints, texts, None and such tuples). -/
namespace KnN
open PySem PySem.Spec PyProof.Rows L2
abbrev NKey := NestedKey
mutual
/-- the value is the key, as the heap stands -/
inductive NIs (H : Hp) : NKey → V → Prop
  | none : NIs H .none .non
  | int (i : Int) : NIs H (.num i) (.int i)
  | text (z : Str) : NIs H (.text z) (.str z)
  | tup {a : Addr} {vs : List V} {ks : List NKey} : H a = some (.tup vs) → NAll H ks vs → NIs H (.tup ks) (.ref a)
inductive NAll (H : Hp) : List NKey → List V → Prop
  | nil : NAll H [] []
  | cons {k : NKey} {v : V} {ks : List NKey} {vs : List V} : NIs H k v → NAll H ks vs → NAll H (k :: ks) (v :: vs)
end
mutual
theorem NIs.ext {H H' : Hp} (s : ∀ a vs, H a = some (.tup vs) → H' a = some (.tup vs)) : ∀ (k : NKey) (v : V), NIs H k v → NIs H' k v
  | .none, _, h => by cases h; exact .none
  | .num i, _, h => by cases h; exact .int i
  | .text z, _, h => by cases h; exact .text z
  | .tup ks, _, h => by
    cases h with
    | tup e a => exact .tup (s _ _ e) (NAll.ext s ks _ a)
theorem NAll.ext {H H' : Hp} (s : ∀ a vs, H a = some (.tup vs) → H' a = some (.tup vs)) : ∀ (ks : List NKey) (vs : List V), NAll H ks vs → NAll H' ks vs
  | [], _, h => by cases h; exact .nil
  | k :: ks, _, h => by
    cases h with
    | cons a b => exact .cons (NIs.ext s k _ a) (NAll.ext s ks _ b)
end
mutual
theorem nis_at {P : Program} {w : World} {H : Hp} {h : Heap} (ok : HOk P w H h) : ∀ (k : NKey) (v : V) (u : Value), NIs H k v → RelV v u → NestedIs h k u
  | .none, _, u, x, r => by cases x; rw [show u = Value.none from r]; exact .none
  | .num i, _, u, x, r => by
    cases x
    obtain ⟨t, rfl⟩ := (show ∃ t, u = Value.int i t from r)
    exact .int i t
  | .text z, _, u, x, r => by
    cases x
    obtain ⟨t, rfl⟩ := (show ∃ t, u = Value.str z t from r)
    exact .text z t
  | .tup ks, _, u, x, r => by
    cases x with
    | @tup a vs _ e al =>
      obtain rfl : u = Value.ref a := r
      obtain ⟨_, its, rv, o, h1, h2, n, h3⟩ := (show ObjOk P w H h a (.tup vs) from ok a _ e)
      exact .tup h1 h2 h3 (by simpa using nall_at ok ks vs its al rv)
theorem nall_at {P : Program} {w : World} {H : Hp} {h : Heap} (ok : HOk P w H h) : ∀ (ks : List NKey) (vs : List V) (us : List Value), NAll H ks vs → Vals vs us → NestedAll h ks us
  | [], _, us, x, r => by cases x; cases r; exact .nil
  | k :: ks, _, us, x, r => by
    cases x with
    | cons a b =>
      cases r with
      | cons q t => exact .cons (nis_at ok k _ _ a q) (nall_at ok ks _ _ b t)
end
/-- the entries: key, where it stands, value -/
abbrev Ent := NKey × Addr × V
def entRel (p : Ent) (x : NKey × Addr × Value) : Prop := p.1 = x.1 ∧ p.2.1 = x.2.1 ∧ RelV p.2.2 x.2.2
def DN (P : Program) (w : World) (d : Addr) (es : List Ent) : HO := .ext fun h => ∃ o ents ep xs, h.get? d = some o ∧ o.ExactDict ∧ o.data = .dict ents ep ∧ ents.toList = xs.map (entryOfKey (nestedKind P w)) ∧ (xs.map (·.1)).Nodup ∧ Paired entRel es xs
/-- a dict with these keys and values stands at d -/
def DNAt (P : Program) (w : World) (H : Hp) (d : Addr) (kvs : List (NKey × V)) : Prop := ∃ es : List Ent, H d = some (DN P w d es) ∧ es.map (fun e => (e.1, e.2.2)) = kvs ∧ (d == sysModules) = false ∧ kvs.length ≤ sizeLine ∧ ∀ e ∈ es, NIs H e.1 (.ref e.2.1) ∧ e.1.depth ≤ 8
theorem DN_ne {P : Program} {w : World} {d : Addr} {es : List Ent} {xs : List V} : DN P w d es ≠ .tup xs := fun z => by unfold DN at z; cases z
theorem DNAt.mono {P : Program} {w : World} {H H' : Hp} {d : Addr} {kvs : List (NKey × V)} (h : DNAt P w H d kvs) (s : ∀ b o, H b = some o → H' b = some o) : DNAt P w H' d kvs := by
  obtain ⟨es, e, ek, hs, hl, hk⟩ := h
  exact ⟨es, s _ _ e, ek, hs, hl, fun x hx => ⟨NIs.ext (fun a vs q => s _ _ q) _ _ (hk x hx).1, (hk x hx).2⟩⟩
/-- another cell is changed, no tuple -/
theorem DNAt.set {P : Program} {w : World} {H : Hp} {d b : Addr} {kvs : List (NKey × V)} {o o' : HO} (h : DNAt P w H d kvs) (n : b ≠ d) (e : H b = some o) (no : ∀ xs, o ≠ .tup xs) : DNAt P w (upd H b o') d kvs := by
  obtain ⟨es, e1, ek, hs, hl, hk⟩ := h
  exact ⟨es, (upd_ne n.symm).trans e1, ek, hs, hl, fun x hx => ⟨NIs.ext (fun a vs q => (upd_ne fun z => by rw [z, e] at q; exact no _ (Option.some.inj q)).trans q) _ _ (hk x hx).1, (hk x hx).2⟩⟩
theorem DNAt.some {P : Program} {w : World} {H : Hp} {d : Addr} {kvs : List (NKey × V)} (h : DNAt P w H d kvs) : ∃ es, H d = some (DN P w d es) := let ⟨es, e, _⟩ := h; ⟨es, e⟩
theorem DNAt.ne {P : Program} {w : World} {H : Hp} {d b : Addr} {kvs : List (NKey × V)} (h : DNAt P w H d kvs) (n : H b = none) : b ≠ d := fun z => by
  obtain ⟨es, e⟩ := h.some
  rw [z, e] at n
  cases n
theorem ent_val : ∀ {es : List Ent} {xs : List (NKey × Addr × Value)}, Paired entRel es xs → ∀ k, RelO (valV (es.map fun e => (e.1, e.2.2)) k) ((atKey xs k).map (·.2))
  | _, _, .nil, k => True.intro
  | _, _, @Paired.cons _ _ _ p x ps xs h t, k => by
    obtain ⟨h1, _, h3⟩ := h
    have ih := ent_val t k
    rw [List.map_cons]
    by_cases e : p.1 = k
    · have e' : x.1 = k := h1.symm.trans e
      rw [valV_pos (p := (p.1, p.2.2)) e]
      have b : atKey (x :: xs) k = some x.2 := by simp [atKey, List.find?_cons, e']
      rw [b]; exact h3
    · have e' : ¬ x.1 = k := fun z => e (h1.trans z)
      rw [valV_neg (p := (p.1, p.2.2)) e]
      have b : atKey (x :: xs) k = atKey xs k := by simp [atKey, List.find?_cons, e']
      rw [b]; exact ih
theorem ent_len {es : List Ent} {xs : List (NKey × Addr × Value)} (h : Paired entRel es xs) : es.length = xs.length := Paired.length h
section
variable {X : Cx} {pins : List (Addr × Obj)} {σ : L2.St} {H : Hp} {s : Shared} {d : Addr} {kvs : List (NKey × V)} {A : Around} {E : Value → Shared → Prop}
/-- the dict itself -/
theorem dn_of {P : Program} {w : World} {h : Heap} (ok : HOk P w H h) (D : DNAt P w H d kvs) : ∃ es xs, H d = some (DN P w d es) ∧ es.map (fun e => (e.1, e.2.2)) = kvs ∧ (∀ e ∈ es, NIs H e.1 (.ref e.2.1) ∧ e.1.depth ≤ 8) ∧ Paired entRel es xs ∧ h.DictOfH (nestedKind P w) d xs := by
  obtain ⟨es, e, ek, hs, hl, hk⟩ := D
  obtain ⟨⟨o, ents, ep, xs, h1, h2, h3, h4, h5, h6⟩, _⟩ := (show ObjOk P w H h d (DN P w d es) from ok d _ e)
  refine ⟨es, xs, e, ek, hk, h6, o, ents, ep, h1, h2, h3, h4, fun x hx => ?_, h5⟩
  have all : ∀ {l : List Ent} {m : List (NKey × Addr × Value)}, Paired entRel l m → (∀ e ∈ l, NIs H e.1 (.ref e.2.1) ∧ e.1.depth ≤ 8) → ∀ x ∈ m, (nestedKind P w).is h x.1 x.2.1 := by
    intro l m q
    induction q with
    | nil => intro _ x hx; exact nomatch hx
    | @cons p q ps qs hq t ih =>
      intro hk x hx
      rcases List.mem_cons.mp hx with e | hx
      · subst e
        obtain ⟨a1, a2⟩ := hk p List.mem_cons_self
        refine ⟨?_, by rw [← hq.1]; exact a2⟩
        rw [← hq.1, ← hq.2.1]
        exact nis_at ok _ _ _ a1 rfl
      · exact ih (fun e he => hk e (List.mem_cons_of_mem _ he)) x hx
  exact all h6 hk x hx
theorem key_is {P : Program} {w : World} {h : Heap} {k : NKey} {b : Addr} (ok : HOk P w H h) (x : NIs H k (.ref b)) (dp : k.depth ≤ 8) : (nestedKind P w).is h k b := ⟨nis_at ok _ _ _ x rfl, dp⟩
theorem n_getItem {k : NKey} {b : Addr} {v : V} {Q : Value → Shared → Prop} (hu : A.units + 65 < cLine) (I : Inv X pins σ H s) (D : DNAt X.prog X.w H d kvs) (x : NIs H k (.ref b)) (dp : k.depth ≤ 8) (l : valV kvs k = some v) (h : ∀ w' s', Inv X pins σ H s' → RelV v w' → Q w' s') :
    wpAny (model X.prog X.w) A (getItem (.ref d) (.ref b)) Q E s := by
  obtain ⟨es, xs, e, ek, hk, hp, dd⟩ := dn_of I.hok D
  have r := ent_val hp k
  rw [ek, l] at r
  obtain ⟨w', hw, rw'⟩ := RelO.some_of r
  obtain ⟨p, hp1, hp2⟩ := Option.map_eq_some_iff.mp hw
  refine wpAny_getItem_heap (knd := nestedKind X.prog X.w) (show A.in1.units + 8 < cLine by have : A.in1.units ≤ A.units + 1 := Nat.le_refl _; omega) (key_is I.hok x dp) dd hp1 ?_
  rw [hp2]
  exact h w' _ (I.tok _) rw'
theorem n_in {k : NKey} {b : Addr} {Q : Value → Shared → Prop} (hu : A.units + 65 < cLine) (I : Inv X pins σ H s) (D : DNAt X.prog X.w H d kvs) (x : NIs H k (.ref b)) (dp : k.depth ≤ 8) (h : ∀ s', Inv X pins σ H s' → Q (.bool (valV kvs k).isSome) s') :
    wpAny (model X.prog X.w) A (compareOp .In (.ref b) (.ref d)) Q E s := by
  obtain ⟨es, xs, e, ek, hk, hp, dd⟩ := dn_of I.hok D
  have r := ent_val hp k
  rw [ek] at r
  have q := r.isSome_eq
  rw [Option.isSome_map] at q
  obtain ⟨_, _, _, hs, _⟩ := D
  refine wpAny_in_heap (knd := nestedKind X.prog X.w) (show A.in1.units + 8 < cLine by have : A.in1.units ≤ A.units + 1 := Nat.le_refl _; omega) (key_is I.hok x dp) hs dd ?_
  rw [← q]
  exact h _ (I.tok _)
theorem n_notIn {k : NKey} {b : Addr} {Q : Value → Shared → Prop} (hu : A.units + 65 < cLine) (I : Inv X pins σ H s) (D : DNAt X.prog X.w H d kvs) (x : NIs H k (.ref b)) (dp : k.depth ≤ 8) (h : ∀ s', Inv X pins σ H s' → Q (.bool (!(valV kvs k).isSome)) s') :
    wpAny (model X.prog X.w) A (compareOp .NotIn (.ref b) (.ref d)) Q E s := by
  obtain ⟨es, xs, e, ek, hk, hp, dd⟩ := dn_of I.hok D
  have r := ent_val hp k
  rw [ek] at r
  have q := r.isSome_eq
  rw [Option.isSome_map] at q
  obtain ⟨_, _, _, hs, _⟩ := D
  refine wpAny_notIn_heap (knd := nestedKind X.prog X.w) (show A.in1.units + 8 < cLine by have : A.in1.units ≤ A.units + 1 := Nat.le_refl _; omega) (key_is I.hok x dp) hs dd ?_
  rw [← q]
  exact h _ (I.tok _)
/-- an entry stored -/
def putE (es : List Ent) (k : NKey) (b : Addr) (v : V) : List Ent := if (valV (es.map fun e => (e.1, e.2.2)) k).isSome = true then es.map (fun e => if e.1 = k then (e.1, e.2.1, v) else e) else es ++ [(k, b, v)]
theorem putE_kvs (es : List Ent) (k : NKey) (b : Addr) (v : V) : (putE es k b v).map (fun e => (e.1, e.2.2)) = putK (es.map fun e => (e.1, e.2.2)) k v := by
  unfold putE putK
  rw [valV_any]
  by_cases c : (valV (es.map fun e => (e.1, e.2.2)) k).isSome = true
  · rw [if_pos c, if_pos c, List.map_map, List.map_map]
    refine List.map_congr_left fun e _ => ?_
    show (((if e.1 = k then (e.1, e.2.1, v) else e) : Ent).1, ((if e.1 = k then (e.1, e.2.1, v) else e) : Ent).2.2) = if e.1 = k then (e.1, v) else (e.1, e.2.2)
    by_cases z : e.1 = k
    · rw [if_pos z, if_pos z]
    · rw [if_neg z, if_neg z]
  · rw [if_neg c, if_neg c, List.map_append]; rfl
theorem putE_rel {es : List Ent} {xs : List (NKey × Addr × Value)} (h : Paired entRel es xs) (k : NKey) (b : Addr) {v : V} {u : Value} (r : RelV v u) : Paired entRel (putE es k b v) (storedH xs k b u) := by
  have q := (ent_val h k).isSome_eq
  rw [Option.isSome_map] at q
  unfold putE storedH
  rw [q]
  by_cases c : (atKey xs k).isSome = true
  · rw [if_pos c, if_pos c]
    clear q c
    induction h with
    | nil => exact .nil
    | @cons p x ps xs hq t ih =>
      refine .cons ?_ ih
      obtain ⟨h1, h2, h3⟩ := hq
      unfold putAt
      show entRel (if p.1 = k then (p.1, p.2.1, v) else p) (if x.1 = k then (x.1, x.2.1, u) else x)
      by_cases z : p.1 = k
      · rw [if_pos z, if_pos (h1.symm.trans z)]; exact ⟨h1, h2, r⟩
      · rw [if_neg z, if_neg fun y => z (h1.trans y)]; exact ⟨h1, h2, h3⟩
  · rw [if_neg c, if_neg c]
    exact Paired.snoc h ⟨rfl, rfl, r⟩
theorem putE_mem {es : List Ent} {k : NKey} {b : Addr} {v : V} {e : Ent} (h : e ∈ putE es k b v) : (∃ e' ∈ es, e.1 = e'.1 ∧ e.2.1 = e'.2.1) ∨ (e.1 = k ∧ e.2.1 = b) := by
  unfold putE at h
  split at h
  · obtain ⟨x, hx, rfl⟩ := List.mem_map.mp h
    refine .inl ⟨x, hx, ?_⟩
    split <;> exact ⟨rfl, rfl⟩
  · rcases List.mem_append.mp h with h | h
    · exact .inl ⟨e, h, rfl, rfl⟩
    · rw [List.mem_singleton.mp h]; exact .inr ⟨rfl, rfl⟩
theorem dn_ok {P : Program} {w : World} {H' : Hp} {h' : Heap} {es : List Ent} {xs : List (NKey × Addr × Value)} (r : Paired entRel es xs) (dd : h'.DictOfH (nestedKind P w) d xs) : ObjOk P w H' h' d (DN P w d es) := by
  obtain ⟨o, ents, ep, h1, h2, h3, h4, _, h6⟩ := dd
  refine ⟨⟨o, ents, ep, xs, h1, h2, h3, h4, h6, r⟩, ⟨o, h1⟩, fun g1 g2 ⟨o', ents', ep', xs', a1, a2, a3, a4, a5, a6⟩ st => ⟨o', ents', ep', xs', st _ a1, a2, a3, a4, a5, a6⟩⟩
theorem n_setItem {k : NKey} {b : Addr} {v : V} {u : Value} {Q : Unit → Shared → Prop} (hu : A.units + 65 < cLine) (I : Inv X pins σ H s) (D : DNAt X.prog X.w H d kvs) (x : NIs H k (.ref b)) (dp : k.depth ≤ 8) (lt : kvs.length < sizeLine) (rv : RelV v u)
    (h : ∀ H' s', Inv X pins σ H' s' → (∀ c, c ≠ d → H' c = H c) → DNAt X.prog X.w H' d (putK kvs k v) → Q () s') : wpAny (model X.prog X.w) A (setItem (.ref d) (.ref b) u) Q E s := by
  obtain ⟨es, xs, e, ek, hk, hp, dd⟩ := dn_of I.hok D
  obtain ⟨_, _, _, hs, _⟩ := D
  have hl : es.length = kvs.length := by rw [← ek, List.length_map]
  have hz : xs.length ≤ sizeLine := by rw [← ent_len hp, hl]; omega
  refine wpAny_setItem_heap (knd := nestedKind X.prog X.w) (hsz := hz) (show A.in1.units + 8 < cLine by have : A.in1.units ≤ A.units + 1 := Nat.le_refl _; omega) (key_is I.hok x dp) dd fun h' dd' sb => ?_
  have he : ∃ q, h'.get? d = some q := let ⟨q, _, _, hq, _⟩ := dd'; ⟨q, hq⟩
  have nt : ∀ (c : Addr) (vs : List V), H c = some (.tup vs) → (upd H d (DN X.prog X.w d (putE es k b v))) c = some (.tup vs) := fun c vs q => (upd_ne fun z => by rw [z, e] at q; exact DN_ne (Option.some.inj q)).trans q
  refine h (upd H d (DN X.prog X.w d (putE es k b v))) _ (d_write I (by rw [e]; exact True.intro) sb he (dn_ok (putE_rel hp k b rv) dd')) (fun c hc => upd_ne hc) ⟨putE es k b v, upd_same, by rw [putE_kvs, ek], hs, ?_, fun y hy => ?_⟩
  · have := length_putK kvs k v
    omega
  · rcases putE_mem hy with ⟨e', he', h1, h2⟩ | ⟨h1, h2⟩
    · rw [h1, h2]; exact ⟨NIs.ext nt _ _ (hk e' he').1, (hk e' he').2⟩
    · rw [h1, h2]; exact ⟨NIs.ext nt _ _ x, dp⟩
end
/-! ### expressions, statements -/
def tNNew (P : Program) (w : World) : TE := fun _ H Q => ∀ d H', H d = none → (∀ c, c ≠ d → H' c = H c) → DNAt P w H' d [] → Q (.ref d) H'
def tNGet (P : Program) (w : World) (td ty : TE) : TE := fun σ H Q => td σ H fun x H1 => ty σ H1 fun y H2 => ∃ a kvs k b v, x = .ref a ∧ y = .ref b ∧ DNAt P w H2 a kvs ∧ NIs H2 k (.ref b) ∧ k.depth ≤ 8 ∧ valV kvs k = some v ∧ Q v H2
def tNIn (P : Program) (w : World) (ty td : TE) : TE := fun σ H Q => ty σ H fun y H1 => td σ H1 fun x H2 => ∃ a kvs k b, x = .ref a ∧ y = .ref b ∧ DNAt P w H2 a kvs ∧ NIs H2 k (.ref b) ∧ k.depth ≤ 8 ∧ Q (.bl (valV kvs k).isSome) H2
def tNNotIn (P : Program) (w : World) (ty td : TE) : TE := fun σ H Q => ty σ H fun y H1 => td σ H1 fun x H2 => ∃ a kvs k b, x = .ref a ∧ y = .ref b ∧ DNAt P w H2 a kvs ∧ NIs H2 k (.ref b) ∧ k.depth ≤ 8 ∧ Q (.bl (!(valV kvs k).isSome)) H2
def sNPut (P : Program) (w : World) (td ty tv : TE) : TS := fun D σ H => tv σ H fun v H1 => td σ H1 fun x H2 => ty σ H2 fun y H3 => ∃ a kvs k b, x = .ref a ∧ y = .ref b ∧ DNAt P w H3 a kvs ∧ NIs H3 k (.ref b) ∧ k.depth ≤ 8 ∧ kvs.length < sizeLine ∧ ∀ H4, (∀ c, c ≠ a → H4 c = H3 c) → DNAt P w H4 a (putK kvs k v) → D.nx σ H4
section
variable {X : Cx} {o i e value : Expr} {pos pos' tpos : Pos} {td ty tv : TE}
theorem nd_type {pins : List (Addr × Obj)} {σ : L2.St} {H : Hp} {s : Shared} {d : Addr} {kvs : List (NKey × V)} (I : Inv X pins σ H s) (D : DNAt X.prog X.w H d kvs) : s.TypeIs (.ref d) "dict" := by
  obtain ⟨_, _, _, _, _, _, dd⟩ := dn_of I.hok D
  exact dd.typeIs
theorem pe_nnew : PE X (.Dict [] [] pos) (tNNew X.prog X.w) := ⟨fun pins s σ H Q I h => by
  refine wpAny_Dict_empty ⟨.ref s.heap.objs.size, upd H s.heap.objs.size (DN X.prog X.w s.heap.objs.size []), I.laid (a := s.heap.objs.size) (o := DN X.prog X.w s.heap.objs.size []) (t' := s.toks) (fun _ _ q => Heap.get?_push_of_some _ q) (Nat.le_refl _) (dn_ok (xs := []) .nil (Heap.DictOfH.new s.heap)), rfl, ?_⟩
  exact h _ _ (I.hok.fresh (Nat.le_refl _)) (fun c hc => upd_ne hc) ⟨[], upd_same, rfl, beq_eq_false_iff_ne.mpr (Ne.symm (Nat.ne_of_lt I.big)), Nat.zero_le _, fun e he => nomatch he⟩⟩
theorem pe_nget (hu : X.A.units + 65 < cLine) (ho : PE X o td) (hi : PE X i ty) (hs : NoSl i) : PE X (.Subscript o i pos) (tNGet X.prog X.w td ty) := by
  refine ⟨fun pins s σ H Q I h => ?_⟩
  refine subD_of PySem.F.slot_dict_getitem.lookup hs (thn (ho.run pins s σ H _ I h) fun u s1 ⟨x, H1, I1, rx, q1⟩ => thn (hi.run pins s1 σ H1 _ I1 q1) fun iv s2 ⟨y, H2, I2, ry, a, kvs, k, b, v, ex, ey, D, n, dp, l, q2⟩ => ?_)
  subst ex ey
  obtain rfl : u = Value.ref a := rx
  obtain rfl : iv = Value.ref b := ry
  exact ⟨nd_type I2 D, n_getItem hu I2 D n dp l fun w' s3 I3 rw' => ⟨v, H2, I3, rw', q2⟩⟩
theorem pc_nin (hu : X.A.units + 65 < cLine) (hi : PE X i ty) (ho : PE X o td) : PC X .In i o (tNIn X.prog X.w ty td) := by
  refine ⟨fun pins s σ H Q I h => ?_⟩
  refine thn (hi.run pins s σ H _ I h) fun iv s1 ⟨y, H1, I1, ry, q1⟩ => thn (ho.run pins s1 σ H1 _ I1 q1) fun u s2 ⟨x, H2, I2, rx, a, kvs, k, b, ex, ey, D, n, dp, q2⟩ => ?_
  subst ex ey
  obtain rfl : u = Value.ref a := rx
  obtain rfl : iv = Value.ref b := ry
  exact n_in hu I2 D n dp fun s3 I3 => ⟨.bl (valV kvs k).isSome, H2, I3, rfl, q2⟩
theorem pc_nnotin (hu : X.A.units + 65 < cLine) (hi : PE X i ty) (ho : PE X o td) : PC X .NotIn i o (tNNotIn X.prog X.w ty td) := by
  refine ⟨fun pins s σ H Q I h => ?_⟩
  refine thn (hi.run pins s σ H _ I h) fun iv s1 ⟨y, H1, I1, ry, q1⟩ => thn (ho.run pins s1 σ H1 _ I1 q1) fun u s2 ⟨x, H2, I2, rx, a, kvs, k, b, ex, ey, D, n, dp, q2⟩ => ?_
  subst ex ey
  obtain rfl : u = Value.ref a := rx
  obtain rfl : iv = Value.ref b := ry
  exact n_notIn hu I2 D n dp fun s3 I3 => ⟨.bl (!(valV kvs k).isSome), H2, I3, rfl, q2⟩
theorem ps_nput (hu : X.A.units + 65 < cLine) (ho : PE X o td) (hi : PE X i ty) (hv : PE X value tv) (hs : swapsWith value (some (.Subscript o i pos')) pos.line X.env = pure false) :
    PS X (.Assign [.Subscript o i pos'] value pos) (sNPut X.prog X.w td ty tv) := by
  refine ⟨fun pins s σ H D I h => ?_⟩
  refine wpAny_Assign_Subscript (thn (hv.run pins s σ H _ I h) fun r s1 ⟨v, H1, I1, rv, q1⟩ => thn (ho.run pins s1 σ H1 _ I1 q1) fun u s2 ⟨x, H2, I2, rx, q2⟩ => thn (hi.run pins s2 σ H2 _ I2 q2) fun iv s3 ⟨y, H3, I3, ry, a, kvs, k, b, ex, ey, dn, n, dp, lt, q3⟩ => ?_) hs
  subst ex ey
  obtain rfl : u = Value.ref a := rx
  obtain rfl : iv = Value.ref b := ry
  exact n_setItem hu I3 dn n dp lt rv fun H4 s4 I4 k1 k2 => ⟨σ, H4, I4, q3 H4 k1 k2⟩
end
/-! ### a dict comprehension -/
theorem n_dictSet {X : Cx} {pins : List (Addr × Obj)} {σ : L2.St} {H : Hp} {s : Shared} {d : Addr} {kvs : List (NKey × V)} {E : Value → Shared → Prop} {k : NKey} {b : Addr} {v : V} {r u : Value} {Q : Unit → Shared → Prop} (hu : X.A.units + 65 < cLine) (I : Inv X pins σ H s) (D : DNAt X.prog X.w H d kvs) (x : NIs H k (.ref b)) (dp : k.depth ≤ 8) (lt : kvs.length < sizeLine) (ry : RelV (.ref b) r) (rv : RelV v u)
    (h : ∀ H' s', Inv X pins σ H' s' → (∀ c, c ≠ d → H' c = H c) → DNAt X.prog X.w H' d (putK kvs k v) → Q () s') : wpAny (model X.prog X.w) X.A (dictSet d r u) Q E s := by
  obtain rfl : r = Value.ref b := ry
  obtain ⟨es, xs, e, ek, hk, hp, dd⟩ := dn_of I.hok D
  obtain ⟨_, _, _, hs, _⟩ := D
  have hl : es.length = kvs.length := by rw [← ek, List.length_map]
  have hz : xs.length ≤ sizeLine := by rw [← ent_len hp, hl]; omega
  refine wpAny_dictSet_heap (knd := nestedKind X.prog X.w) (hsz := hz) (show X.A.units + 8 < cLine by omega) (key_is I.hok x dp) dd fun h' dd' sb => ?_
  have he : ∃ q, h'.get? d = some q := let ⟨q, _, _, hq, _⟩ := dd'; ⟨q, hq⟩
  have nt : ∀ (c : Addr) (vs : List V), H c = some (.tup vs) → (upd H d (DN X.prog X.w d (putE es k b v))) c = some (.tup vs) := fun c vs q => (upd_ne fun z => by rw [z, e] at q; exact DN_ne (Option.some.inj q)).trans q
  refine h (upd H d (DN X.prog X.w d (putE es k b v))) _ (d_write I (by rw [e]; exact True.intro) sb he (dn_ok (putE_rel hp k b rv) dd')) (fun c hc => upd_ne hc) ⟨putE es k b v, upd_same, by rw [putE_kvs, ek], hs, ?_, fun y hy => ?_⟩
  · have := length_putK kvs k v
    omega
  · rcases putE_mem hy with ⟨e', he', h1, h2⟩ | ⟨h1, h2⟩
    · rw [h1, h2]; exact ⟨NIs.ext nt _ _ (hk e' he').1, (hk e' he').2⟩
    · rw [h1, h2]; exact ⟨NIs.ext nt _ _ x, dp⟩
def tDcN (P : Program) (w : World) (wi : TI) (g : TG) (tt : TT) (tk tv : TE) (vs : List Nat) : TE := fun σ H Q => wi σ H fun J H1 => ∀ D H2, H1 D = none → (∀ c, c ≠ D → H2 c = H1 c) → DNAt P w H2 D [] → ∃ W : Nat → Nat → Hp → Prop, (∃ m, W 0 m H2) ∧ ∀ i m H, W i m H →
  (J.stop i H ∧ Q (.ref D) H) ∨ (J.go i H ∧ ∃ Nx : Hp → Prop, (∀ H', Nx H' → ∃ m', m' < m ∧ W (i + 1) m' H') ∧ ∀ x H', J.yld i H x H' → g x (wipe σ vs) H' fun σ2 H2 => wipe σ2 vs = wipe σ vs ∧ tt σ2 H2 fun b H3 =>
    if b = true then tk σ2 H3 fun y H4 => tv σ2 H4 fun z H5 => ∃ kvs k kb, y = .ref kb ∧ DNAt P w H5 D kvs ∧ NIs H5 k (.ref kb) ∧ k.depth ≤ 8 ∧ kvs.length < sizeLine ∧ ∀ H6, (∀ c, c ≠ D → H6 c = H5 c) → DNAt P w H6 D (putK kvs k z) → Nx H6 else Nx H3)
section
variable {X : Cx}
/-- as a value -/
theorem pe_dcn {kx vx tg iter : Expr} {ifs : List Expr} {scope : Scope} {own : List (Str × Nat)} {pos : Pos} {wi : TI} {g : TG} {tt : TT} {tk tv : TE} (hu : X.A.units + 65 < cLine) (hc : X.calm = true) (hN : X.N.Nodup) (hi : PI X tg iter wi) (ok : BlkOk X.N X.env.scope scope own)
    (hg : ∀ (s : Shared) (H : Hp) (C : Addr) (cl : List (Str × Addr)) (fp : List Addr), PG (X.blk s H scope (compEnvC scope cl C X.env) fp) tg g)
    (ht : ∀ (s : Shared) (H : Hp) (C : Addr) (cl : List (Str × Addr)) (fp : List Addr), PTs (X.blk s H scope (compEnvC scope cl C X.env) fp) ifs tt)
    (hk : ∀ (s : Shared) (H : Hp) (C : Addr) (cl : List (Str × Addr)) (fp : List Addr), PE (X.blk s H scope (compEnvC scope cl C X.env) fp) kx tk) (he : ∀ (s : Shared) (H : Hp) (C : Addr) (cl : List (Str × Addr)) (fp : List Addr), PE (X.blk s H scope (compEnvC scope cl C X.env) fp) vx tv) (hs : ∀ x, foldedSetIterable iter X.env x = pure x := by intro _; rfl) :
    PE X (.DictComp kx vx [⟨tg, iter, ifs, 0⟩] scope pos) (tDcN X.prog X.w wi g tt tk tv (own.map (·.2))) := by
  refine ⟨fun pins s σ H Q I h => ?_⟩
  rw [arm_eval_DictComp]
  have captured : ∀ y ∈ scope.names, y.2 = .free → ∃ c, X.env.cells.lookup y.1 = some c := fun y hy e =>
    (ok.free y hy e).elim (fun k => I.ok.has _ (.inl k)) fun k => I.ok.has _ (.inr k)
  refine wpAny_comprehension_free (use := none) rfl hs (closure_ok captured) ok.kind (fun y hy e => by rw [ok.uniq y hy, e]) ?_
  refine thn (hi.run pins s σ H _ I h) fun xv s1 hx => thn hx fun itv s2 ⟨it, fp, tn, J, H2, eit, I2, T, st2, f2, q⟩ => ?_
  subst eit
  refine wpAny_newObj_type (newEnv_comp ?_)
  generalize hD : s2.heap.objs.size = D
  have freeD : H2 D = none := I2.hok.fresh (Nat.le_of_eq hD)
  have dict0 : DNAt X.prog X.w (upd H2 D (DN X.prog X.w D [])) D [] := ⟨[], upd_same, rfl, beq_eq_false_iff_ne.mpr (by rw [← hD]; exact Ne.symm (Nat.ne_of_lt I2.big)), Nat.zero_le _, fun e he => nomatch he⟩
  obtain ⟨W, ⟨m0, w0⟩, turn⟩ := q D _ freeD (fun c hc => upd_ne hc) dict0
  -- the new set stands
  generalize h3 : s2.heap.push ({ cls := .type "dict", data := .dict #[] } : Obj) = hp3
  have keep3 : ∀ b o, s2.heap.get? b = some o → hp3.get? b = some o := fun b o e => h3 ▸ Heap.get?_push_of_some _ e
  have size3 : hp3.objs.size = s2.heap.objs.size + 1 := by rw [← h3, Heap.size_push]
  have I3 : Inv X pins σ (upd H2 D (DN X.prog X.w D [])) { s2 with heap := hp3 } := by
    refine I2.laid (t' := s2.toks) keep3 (Nat.le_of_eq hD) ?_
    rw [← h3, ← hD]
    exact dn_ok (xs := []) .nil (Heap.DictOfH.new s2.heap)
  have inFp : ∀ b ∈ fp, b < s2.heap.objs.size := fun b hb => let ⟨_, e, _⟩ := T.obj _ _ st2 b hb; Heap.lt_size e
  have f3 : ∀ b ∈ fp, FpOk X pins (upd H2 D (DN X.prog X.w D [])) b ∧ b < hp3.objs.size := fun b hb =>
    ⟨⟨(upd_ne (by rw [← hD]; exact Nat.ne_of_lt (inFp b hb))).trans (f2 b hb).1, (f2 b hb).2⟩, by rw [size3]; exact Nat.lt_succ_of_lt (inFp b hb)⟩
  have st3 : tn 0 hp3 := T.keep _ _ _ st2 fun b _ => keep3 b
  generalize hH3 : upd H2 D (DN X.prog X.w D []) = H3 at I3 f3 w0
  generalize hs3 : ({ s2 with heap := hp3 } : Shared) = s3 at I3
  have e3 : s3.heap = hp3 := by rw [← hs3]
  have I4 := block_start I3 ok hN (fun b hb => ⟨(f3 b hb).1, by rw [e3]; exact (f3 b hb).2⟩)
  have clear0 : ∀ b ∈ fp, H3 b = none := fun b hb => (f3 b hb).1.1
  show codeAny _ _ (.compStart (.DictComp kx vx [⟨tg, iter, ifs, 0⟩] scope pos) 0 (.ref it) (.ref D) (compEnvC scope (cellsFrom (s3.heap.objs.size + 1) scope.names (cloFrom X.env.cells scope.names [])) s3.heap.objs.size X.env))
    (compPost (model X.prog X.w) X.A X.xe none (EP X pins σ Q) (.ref D) s3.heap.objs.size) { s3 with heap := pushCells (s3.heap.push { cls := .type "dict", data := .dict #[] }) scope.names }
  have pg := hg s3 H3 s3.heap.objs.size (cellsFrom (s3.heap.objs.size + 1) scope.names (cloFrom X.env.cells scope.names [])) fp
  have pt := ht s3 H3 s3.heap.objs.size (cellsFrom (s3.heap.objs.size + 1) scope.names (cloFrom X.env.cells scope.names [])) fp
  have pk := hk s3 H3 s3.heap.objs.size (cellsFrom (s3.heap.objs.size + 1) scope.names (cloFrom X.env.cells scope.names [])) fp
  have pe := he s3 H3 s3.heap.objs.size (cellsFrom (s3.heap.objs.size + 1) scope.names (cloFrom X.env.cells scope.names [])) fp
  have home : (compEnvC scope (cellsFrom (s3.heap.objs.size + 1) scope.names (cloFrom X.env.cells scope.names [])) s3.heap.objs.size X.env).locals = s3.heap.objs.size := rfl
  generalize compEnvC scope (cellsFrom (s3.heap.objs.size + 1) scope.names (cloFrom X.env.cells scope.names [])) s3.heap.objs.size X.env = ce at I4 pg pt pk pe home ⊢
  have st4 : tn 0 ({ s3 with heap := pushCells (s3.heap.push { cls := .type "dict", data := .dict #[] }) scope.names } : Shared).heap := by
    refine T.keep _ _ _ st3 fun b _ o e => pushCells_keeps _ _ _ _ (Heap.get?_push_of_some _ ?_)
    rw [e3]
    exact e
  generalize ({ s3 with heap := pushCells (s3.heap.push { cls := .type "dict", data := .dict #[] }) scope.names } : Shared) = s4 at I4 ⊢ st4
  have own0 : ∀ {σ' : L2.St} {H' : Hp} {s' : Shared}, Inv (X.blk s3 H3 scope ce fp) [] σ' H' s' → (∀ b ∈ fp, H' b = none) → ∀ b ∈ fp, FpOk (X.blk s3 H3 scope ce fp) [] H' b := fun I' cl b hb =>
    ⟨cl b hb, (I'.ok.exf b hb).1, I'.ok.exfs b hb, .inl hb, (fun x c e => (I'.ok.exf b hb).2 x c e), fun p hp => by cases List.mem_append.mp hp <;> rename_i z <;> exact absurd z List.not_mem_nil⟩
  have loop : codeAny (model X.prog X.w) X.A (.compLoop (.DictComp kx vx [⟨tg, iter, ifs, 0⟩] scope pos) 0 (.ref it) (.ref D) ce) (compPost (model X.prog X.w) X.A X.xe none (EP X pins σ Q) (.ref D) s3.heap.objs.size) s4 := by
    refine compLoop_anyD (fun n s' => ∃ i H', (Inv (X.blk s3 H3 scope ce fp) [] (wipe σ (own.map (·.2))) H' s' ∧ tn i s'.heap) ∧ (∀ b ∈ fp, H' b = none) ∧ W i n H') ?_ m0 ⟨0, H3, ⟨I4, st4⟩, clear0, w0⟩
    rintro n s5 ⟨i, H5, ⟨I5, st5⟩, cl5, w5⟩
    rcases turn i n H5 w5 with ⟨stop, fine⟩ | ⟨go, Nx, hNx, step⟩
    · refine thnF (T.done (X.blk s3 H3 scope ce fp) rfl rfl rfl hc i [] s5 _ H5 (fun _ _ => False) I5 (own0 I5 cl5) st5 stop) fun r s6 ⟨er, I6⟩ => ?_
      subst er
      have I7 : Inv X pins σ H5 s6 := I3.call' (ch := fp) I6.os I6.base I6.hok I6.bare fun b hb =>
        let f := (f3 b hb).1.2; ⟨f.2.2.1, f.1, f.2.2.2.1, f.2.2.2.2⟩
      have free5 : H5 s3.heap.objs.size = none := home ▸ I6.free
      obtain ⟨m, hn, _⟩ := I6.loc
      obtain ⟨_, k1, k2, k3, k4, k5⟩ := I3.fpOk (Nat.le_refl _) free5
      exact ⟨m, home ▸ hn, fun h'' sb => ⟨.ref D, H5, I7.turned (t' := s6.toks) (fun b o hb e => (sb.2 b hb).trans e) free5 k1 k3 k4 k5, rfl, fine⟩⟩
    · refine thnF (T.item (X.blk s3 H3 scope ce fp) rfl rfl rfl hc i [] s5 _ H5 (fun _ _ => False) I5 (own0 I5 cl5) st5 go) fun r s6 ⟨u, er, h6⟩ => ?_
      subst er
      refine thnF h6 fun _ s7 ⟨x, H7, I7, r7, y7, st7, cl7⟩ => ?_
      refine thnF (pg.run _ s7 _ H7 x u _ (I7.pinned (own0 I7 cl7) (T.obj _ _ st7)) r7 (step x H7 y7)) fun _ s8 ⟨σ8, H8, I8, same8, q8⟩ => thnF (pt.run _ s8 σ8 H8 _ I8 q8) fun b s9 ⟨H9, I9, q9⟩ => ?_
      have closed : ∀ {s' : Shared} {H' : Hp}, Inv (X.blk s3 H3 scope ce fp) ([] ++ pinsAt fp s7.heap) σ8 H' s' → Nx H' → ∃ m, m < n ∧ ∃ i H', (Inv (X.blk s3 H3 scope ce fp) [] (wipe σ (own.map (·.2))) H' s' ∧ tn i s'.heap) ∧ (∀ b ∈ fp, H' b = none) ∧ W i m H' := fun {s' H'} I' nx => by
        obtain ⟨m', less, w'⟩ := hNx H' nx
        have pinned : ∀ b ∈ fp, ∀ o, s7.heap.get? b = some o → s'.heap.get? b = some o ∧ H' b = none := fun b hb o e =>
          have z := I'.pin (b, o) (List.mem_append_right _ (List.mem_append_right _ (mem_pinsAt hb e)))
          ⟨z.1, z.2.1⟩
        have len8 : (wipe σ (own.map (·.2))).length = σ8.length := (congrArg List.length same8).symm.trans (wipe_length _ _)
        refine ⟨m', less, i + 1, H', ⟨(I'.unpinned (pins := [])).weak len8 fun j v e => ?_, T.keep _ _ _ st7 fun b hb o e => (pinned b hb o e).1⟩, fun b hb => ?_, w'⟩
        · exact (wipe_some (same8 ▸ e)).1
        · obtain ⟨o, e, _⟩ := T.obj _ _ st7 b hb
          exact (pinned b hb o e).2
      cases b with
      | false => exact closed I9 q9
      | true =>
        refine thnF (pk.run _ s9 σ8 H9 _ I9 q9) fun kv s10 ⟨yk, H10, I10, rk, q10⟩ => thnF (pe.run _ s10 σ8 H10 _ I10 q10) fun vv s11 ⟨yv, H11, I11, rv, kvs, k, kb, ek, D11, nk, dp, room, nx⟩ => ?_
        subst ek
        exact n_dictSet (X := X.blk s3 H3 scope ce fp) hu I11 D11 nk dp room rk rv fun H12 s12 I12 same new => closed I12 (nx H12 same new)
  exact codeAny_compStart_dict loop (T.self X.A 0 _ _ _ st4 loop)
end
end KnN

set_option Elab.async false
set_option linter.all false
set_option maxRecDepth 100000
/-! a dict comprehension with nested keys that is given to a local name on the same line -/
namespace KnDn
open PySem PySem.Spec PyProof.Rows L2 KnN
variable {X : Cx}
theorem dcn_core {pins : List (Addr × Obj)} {s : Shared} {σ : L2.St} {H : Hp} {Q : VK} {kx vx tg iter : Expr} {ifs : List Expr} {scope : Scope} {own : List (Str × Nat)} {pos pos' : Pos} {wi : TI} {g : TG} {tt : TT} {tk tv : TE} {use : Option (Value → Sem Unit)} {Qf : Value → Shared → Prop} (hu : X.A.units + 65 < cLine)
    (hc : X.calm = true) (hN : X.N.Nodup) (I : Inv X pins σ H s) (hi : PI X tg iter wi) (ok : BlkOk X.N X.env.scope scope own)
    (hg : ∀ (s : Shared) (H : Hp) (C : Addr) (cl : List (Str × Addr)) (fp : List Addr), PG (X.blk s H scope (compEnvC scope cl C X.env) fp) tg g) (ht : ∀ (s : Shared) (H : Hp) (C : Addr) (cl : List (Str × Addr)) (fp : List Addr), PTs (X.blk s H scope (compEnvC scope cl C X.env) fp) ifs tt)
    (hk : ∀ (s : Shared) (H : Hp) (C : Addr) (cl : List (Str × Addr)) (fp : List Addr), PE (X.blk s H scope (compEnvC scope cl C X.env) fp) kx tk)
    (he : ∀ (s : Shared) (H : Hp) (C : Addr) (cl : List (Str × Addr)) (fp : List Addr), PE (X.blk s H scope (compEnvC scope cl C X.env) fp) vx tv) (hs : ∀ x, foldedSetIterable iter X.env x = pure x)
    (h : tDcN X.prog X.w wi g tt tk tv (own.map (·.2)) σ H Q)
    (hRR : ∀ D C s' m H', Inv X pins σ H' s' → Q (.ref D) H' → s'.heap.Ns C m → FpOk X pins H' C → compPost (model X.prog X.w) X.A X.xe use Qf (.ref D) C (.ok .next) s') :
    wpAny (model X.prog X.w) X.A (comprehension (.DictComp kx vx [⟨tg, iter, ifs, 0⟩] scope pos) scope X.env pos' newDict false (eval iter X.env) use) Qf X.xe s := by
  have captured : ∀ y ∈ scope.names, y.2 = .free → ∃ c, X.env.cells.lookup y.1 = some c := fun y hy e =>
    (ok.free y hy e).elim (fun k => I.ok.has _ (.inl k)) fun k => I.ok.has _ (.inr k)
  refine wpAny_comprehension_free (use := use) rfl hs (closure_ok captured) ok.kind (fun y hy e => by rw [ok.uniq y hy, e]) ?_
  refine thn (hi.run pins s σ H _ I h) fun xv s1 hx => thn hx fun itv s2 ⟨it, fp, tn, J, H2, eit, I2, T, st2, f2, q⟩ => ?_
  subst eit
  refine wpAny_newObj_type (newEnv_comp ?_)
  generalize hD : s2.heap.objs.size = D
  have freeD : H2 D = none := I2.hok.fresh (Nat.le_of_eq hD)
  have dict0 : DNAt X.prog X.w (upd H2 D (DN X.prog X.w D [])) D [] := ⟨[], upd_same, rfl, beq_eq_false_iff_ne.mpr (by rw [← hD]; exact Ne.symm (Nat.ne_of_lt I2.big)), Nat.zero_le _, fun e he => nomatch he⟩
  obtain ⟨W, ⟨m0, w0⟩, turn⟩ := q D _ freeD (fun c hc => upd_ne hc) dict0
  -- the new set stands
  generalize h3 : s2.heap.push ({ cls := .type "dict", data := .dict #[] } : Obj) = hp3
  have keep3 : ∀ b o, s2.heap.get? b = some o → hp3.get? b = some o := fun b o e => h3 ▸ Heap.get?_push_of_some _ e
  have size3 : hp3.objs.size = s2.heap.objs.size + 1 := by rw [← h3, Heap.size_push]
  have I3 : Inv X pins σ (upd H2 D (DN X.prog X.w D [])) { s2 with heap := hp3 } := by
    refine I2.laid (t' := s2.toks) keep3 (Nat.le_of_eq hD) ?_
    rw [← h3, ← hD]
    exact dn_ok (xs := []) .nil (Heap.DictOfH.new s2.heap)
  have inFp : ∀ b ∈ fp, b < s2.heap.objs.size := fun b hb => let ⟨_, e, _⟩ := T.obj _ _ st2 b hb; Heap.lt_size e
  have f3 : ∀ b ∈ fp, FpOk X pins (upd H2 D (DN X.prog X.w D [])) b ∧ b < hp3.objs.size := fun b hb =>
    ⟨⟨(upd_ne (by rw [← hD]; exact Nat.ne_of_lt (inFp b hb))).trans (f2 b hb).1, (f2 b hb).2⟩, by rw [size3]; exact Nat.lt_succ_of_lt (inFp b hb)⟩
  have st3 : tn 0 hp3 := T.keep _ _ _ st2 fun b _ => keep3 b
  generalize hH3 : upd H2 D (DN X.prog X.w D []) = H3 at I3 f3 w0
  generalize hs3 : ({ s2 with heap := hp3 } : Shared) = s3 at I3
  have e3 : s3.heap = hp3 := by rw [← hs3]
  have I4 := block_start I3 ok hN (fun b hb => ⟨(f3 b hb).1, by rw [e3]; exact (f3 b hb).2⟩)
  have clear0 : ∀ b ∈ fp, H3 b = none := fun b hb => (f3 b hb).1.1
  show codeAny _ _ (.compStart (.DictComp kx vx [⟨tg, iter, ifs, 0⟩] scope pos) 0 (.ref it) (.ref D) (compEnvC scope (cellsFrom (s3.heap.objs.size + 1) scope.names (cloFrom X.env.cells scope.names [])) s3.heap.objs.size X.env))
    (compPost (model X.prog X.w) X.A X.xe use Qf (.ref D) s3.heap.objs.size) { s3 with heap := pushCells (s3.heap.push { cls := .type "dict", data := .dict #[] }) scope.names }
  have pg := hg s3 H3 s3.heap.objs.size (cellsFrom (s3.heap.objs.size + 1) scope.names (cloFrom X.env.cells scope.names [])) fp
  have pt := ht s3 H3 s3.heap.objs.size (cellsFrom (s3.heap.objs.size + 1) scope.names (cloFrom X.env.cells scope.names [])) fp
  have pk := hk s3 H3 s3.heap.objs.size (cellsFrom (s3.heap.objs.size + 1) scope.names (cloFrom X.env.cells scope.names [])) fp
  have pe := he s3 H3 s3.heap.objs.size (cellsFrom (s3.heap.objs.size + 1) scope.names (cloFrom X.env.cells scope.names [])) fp
  have home : (compEnvC scope (cellsFrom (s3.heap.objs.size + 1) scope.names (cloFrom X.env.cells scope.names [])) s3.heap.objs.size X.env).locals = s3.heap.objs.size := rfl
  generalize compEnvC scope (cellsFrom (s3.heap.objs.size + 1) scope.names (cloFrom X.env.cells scope.names [])) s3.heap.objs.size X.env = ce at I4 pg pt pk pe home ⊢
  have st4 : tn 0 ({ s3 with heap := pushCells (s3.heap.push { cls := .type "dict", data := .dict #[] }) scope.names } : Shared).heap := by
    refine T.keep _ _ _ st3 fun b _ o e => pushCells_keeps _ _ _ _ (Heap.get?_push_of_some _ ?_)
    rw [e3]
    exact e
  generalize ({ s3 with heap := pushCells (s3.heap.push { cls := .type "dict", data := .dict #[] }) scope.names } : Shared) = s4 at I4 ⊢ st4
  have own0 : ∀ {σ' : L2.St} {H' : Hp} {s' : Shared}, Inv (X.blk s3 H3 scope ce fp) [] σ' H' s' → (∀ b ∈ fp, H' b = none) → ∀ b ∈ fp, FpOk (X.blk s3 H3 scope ce fp) [] H' b := fun I' cl b hb =>
    ⟨cl b hb, (I'.ok.exf b hb).1, I'.ok.exfs b hb, .inl hb, (fun x c e => (I'.ok.exf b hb).2 x c e), fun p hp => by cases List.mem_append.mp hp <;> rename_i z <;> exact absurd z List.not_mem_nil⟩
  have loop : codeAny (model X.prog X.w) X.A (.compLoop (.DictComp kx vx [⟨tg, iter, ifs, 0⟩] scope pos) 0 (.ref it) (.ref D) ce) (compPost (model X.prog X.w) X.A X.xe use Qf (.ref D) s3.heap.objs.size) s4 := by
    refine compLoop_anyD (fun n s' => ∃ i H', (Inv (X.blk s3 H3 scope ce fp) [] (wipe σ (own.map (·.2))) H' s' ∧ tn i s'.heap) ∧ (∀ b ∈ fp, H' b = none) ∧ W i n H') ?_ m0 ⟨0, H3, ⟨I4, st4⟩, clear0, w0⟩
    rintro n s5 ⟨i, H5, ⟨I5, st5⟩, cl5, w5⟩
    rcases turn i n H5 w5 with ⟨stop, fine⟩ | ⟨go, Nx, hNx, step⟩
    · refine thnF (T.done (X.blk s3 H3 scope ce fp) rfl rfl rfl hc i [] s5 _ H5 (fun _ _ => False) I5 (own0 I5 cl5) st5 stop) fun r s6 ⟨er, I6⟩ => ?_
      subst er
      have I7 : Inv X pins σ H5 s6 := I3.call' (ch := fp) I6.os I6.base I6.hok I6.bare fun b hb =>
        let f := (f3 b hb).1.2; ⟨f.2.2.1, f.1, f.2.2.2.1, f.2.2.2.2⟩
      have free5 : H5 s3.heap.objs.size = none := home ▸ I6.free
      obtain ⟨m, hn, _⟩ := I6.loc
      exact hRR D s3.heap.objs.size s6 m H5 I7 fine (home ▸ hn) (I3.fpOk (Nat.le_refl _) free5)
    · refine thnF (T.item (X.blk s3 H3 scope ce fp) rfl rfl rfl hc i [] s5 _ H5 (fun _ _ => False) I5 (own0 I5 cl5) st5 go) fun r s6 ⟨u, er, h6⟩ => ?_
      subst er
      refine thnF h6 fun _ s7 ⟨x, H7, I7, r7, y7, st7, cl7⟩ => ?_
      refine thnF (pg.run _ s7 _ H7 x u _ (I7.pinned (own0 I7 cl7) (T.obj _ _ st7)) r7 (step x H7 y7)) fun _ s8 ⟨σ8, H8, I8, same8, q8⟩ => thnF (pt.run _ s8 σ8 H8 _ I8 q8) fun b s9 ⟨H9, I9, q9⟩ => ?_
      have closed : ∀ {s' : Shared} {H' : Hp}, Inv (X.blk s3 H3 scope ce fp) ([] ++ pinsAt fp s7.heap) σ8 H' s' → Nx H' → ∃ m, m < n ∧ ∃ i H', (Inv (X.blk s3 H3 scope ce fp) [] (wipe σ (own.map (·.2))) H' s' ∧ tn i s'.heap) ∧ (∀ b ∈ fp, H' b = none) ∧ W i m H' := fun {s' H'} I' nx => by
        obtain ⟨m', less, w'⟩ := hNx H' nx
        have pinned : ∀ b ∈ fp, ∀ o, s7.heap.get? b = some o → s'.heap.get? b = some o ∧ H' b = none := fun b hb o e =>
          have z := I'.pin (b, o) (List.mem_append_right _ (List.mem_append_right _ (mem_pinsAt hb e)))
          ⟨z.1, z.2.1⟩
        have len8 : (wipe σ (own.map (·.2))).length = σ8.length := (congrArg List.length same8).symm.trans (wipe_length _ _)
        refine ⟨m', less, i + 1, H', ⟨(I'.unpinned (pins := [])).weak len8 fun j v e => ?_, T.keep _ _ _ st7 fun b hb o e => (pinned b hb o e).1⟩, fun b hb => ?_, w'⟩
        · exact (wipe_some (same8 ▸ e)).1
        · obtain ⟨o, e, _⟩ := T.obj _ _ st7 b hb
          exact (pinned b hb o e).2
      cases b with
      | false => exact closed I9 q9
      | true =>
        refine thnF (pk.run _ s9 σ8 H9 _ I9 q9) fun kv s10 ⟨yk, H10, I10, rk, q10⟩ => thnF (pe.run _ s10 σ8 H10 _ I10 q10) fun vv s11 ⟨yv, H11, I11, rv, kvs, k, kb, ek, D11, nk, dp, room, nx⟩ => ?_
        subst ek
        exact n_dictSet (X := X.blk s3 H3 scope ce fp) hu I11 D11 nk dp room rk rv fun H12 s12 I12 same new => closed I12 (nx H12 same new)
  exact codeAny_compStart_dict loop (T.self X.A 0 _ _ _ st4 loop)
theorem ps_setDcN {i : Nat} {y : Str} {py : Pos} {kx vx tg iter : Expr} {ifs : List Expr} {scope : Scope} {own : List (Str × Nat)} {pos spos : Pos} {wi : TI} {g : TG} {tt : TT} {tk tv : TE} (hu : X.A.units + 65 < cLine) (cm : X.calm = true) (dn : X.N.Nodup) (iy : X.N[i]? = some y) (ly : X.env.scope.names.lookup y = some .local)
    (sw : swapsWith (.DictComp kx vx [⟨tg, iter, ifs, 0⟩] scope pos) (some (.Name y py)) spos.line X.env = pure true) (pi : PI X tg iter wi) (bo : BlkOk X.N X.env.scope scope own)
    (pg : ∀ s H C cl fp, PG (X.blk s H scope (compEnvC scope cl C X.env) fp) tg g) (pt : ∀ s H C cl fp, PTs (X.blk s H scope (compEnvC scope cl C X.env) fp) ifs tt)
    (pk : ∀ s H C cl fp, PE (X.blk s H scope (compEnvC scope cl C X.env) fp) kx tk) (pv : ∀ s H C cl fp, PE (X.blk s H scope (compEnvC scope cl C X.env) fp) vx tv)
    (hs : ∀ x, foldedSetIterable iter X.env x = pure x := by intro _; rfl) :
    PS X (.Assign [.Name y py] (.DictComp kx vx [⟨tg, iter, ifs, 0⟩] scope pos) spos) (tAsg (KnN.tDcN X.prog X.w wi g tt tk tv (own.map (·.2))) (gName i)) := by
  refine ⟨fun pins s σ H D I h => ?_⟩
  rw [exec_Assign_Name_used _ _ _ _ sw]
  refine wpAny_bind (wpAny_standAt (wpAny_bind (?_)))
  show wpAny _ X.A (do let _ ← comprehension (.DictComp kx vx [⟨tg, iter, ifs, 0⟩] scope pos) scope X.env (firstIterPos [⟨tg, iter, ifs, 0⟩] pos) newDict false (eval iter X.env) (some (assign (.Name y py) X.env))) _ _ s
  have h : KnN.tDcN X.prog X.w wi g tt tk tv (own.map (·.2)) σ H (fun x H1 => gName i x σ H1 D.nx) := h
  refine wpAny_bind (thn (dcn_core (Qf := fun _ s' => SP X pins D .next s') hu cm dn I pi bo pg pt pk pv hs h fun L C s' m H' I' q hn f => ?_) fun _ s' hq => wpAny_pure (wpAny_pure hq))
  show wpAny _ X.A (assign (.Name y py) X.env (.ref L)) _ _ _
  refine wpAny_assign_Name (store_ok2 (v := V.ref L) I' dn iy (.inl ly) rfl (fun s2 I2 ⟨a, sb, ha⟩ => ?_) (.inr ly))
  obtain ⟨g0, g1, g2, g3, g4, g5⟩ := f
  have nCa : C ≠ a := by
    rcases ha with z | z
    · rw [z]; exact g1
    · exact fun e => (g4 y a z) e.symm
  refine ⟨m, hn.sameBut sb nCa, fun h3 sb3 => ?_⟩
  exact ⟨_, H', I2.turned (t' := s2.toks) (fun b o hb e => ((sb3.2 b hb).trans e)) g0 g1 g3 g4 g5, q⟩
end KnDn

set_option Elab.async false
set_option linter.all false
set_option maxRecDepth 100000
set_option maxHeartbeats 4000000
/-! Walks of any comprehension; sorted of rows (an int, a tuple of texts); sets of places as numbers. -/
namespace KnA
open PySem PySem.Spec PyProof.Rows L2
/-- n turns of a comprehension, over whatever it goes -/
theorem turns {J : It} {H0 : Hp} {Qd : Hp → Prop} {B : V → Hp → (Hp → Prop) → Prop} (n : Nat) (Pv : Nat → Hp → Prop) (h0 : Pv 0 H0) (hst : ∀ H, Pv n H → J.stop n H) (hgo : ∀ i H, i < n → Pv i H → J.go i H)
    (hs : ∀ i x H H', i < n → Pv i H → J.yld i H x H' → B x H' (Pv (i + 1))) (hd : ∀ H, Pv n H → Qd H) :
    ∃ W : Nat → Nat → Hp → Prop, (∃ m, W 0 m H0) ∧ ∀ i m H, W i m H → (J.stop i H ∧ Qd H) ∨ (J.go i H ∧ ∃ Nx : Hp → Prop, (∀ H', Nx H' → ∃ m', m' < m ∧ W (i + 1) m' H') ∧ ∀ x H', J.yld i H x H' → B x H' Nx) := by
  refine ⟨fun i m H => m = n - i ∧ i ≤ n ∧ Pv i H, ⟨n, by simp, Nat.zero_le _, h0⟩, ?_⟩
  rintro i m H ⟨rfl, hi, p⟩
  by_cases lt : i < n
  · exact .inr ⟨hgo i H lt p, Pv (i + 1), fun H' p' => ⟨n - (i + 1), by omega, rfl, lt, p'⟩, fun x H' y => hs i x H H' lt p y⟩
  · have e : i = n := by omega
    subst e
    exact .inl ⟨hst H p, hd H p⟩
/-! ### rows -/
/-- x is the row (i, zs) -/
def RowAt (H : Hp) (x : V) (i : Int) (zs : List Str) : Prop := ∃ t f, x = .ref t ∧ H t = some (.tup [.int i, .ref f]) ∧ H f = some (.tup (zs.map V.str))
theorem RowAt.ext {H H' : Hp} {x : V} {i : Int} {zs : List Str} (h : RowAt H x i zs) (s : ∀ a vs, H a = some (.tup vs) → H' a = some (.tup vs)) : RowAt H' x i zs := by
  obtain ⟨t, f, e, h1, h2⟩ := h
  exact ⟨t, f, e, s _ _ h1, s _ _ h2⟩
theorem str_inj : ∀ {xs ys : List Str}, xs.map V.str = ys.map V.str → xs = ys
  | [], [], _ => rfl
  | [], _ :: _, h => by cases h
  | _ :: _, [], h => by cases h
  | x :: xs, y :: ys, h => by
    rw [List.map_cons, List.map_cons] at h
    obtain ⟨a, b⟩ := List.cons.inj h
    rw [V.str.inj a, str_inj b]
theorem RowAt.inj {H : Hp} {x : V} {i j : Int} {zs ys : List Str} (h : RowAt H x i zs) (h' : RowAt H x j ys) : i = j ∧ zs = ys := by
  obtain ⟨t, f, e, h1, h2⟩ := h
  obtain ⟨t', f', e', h1', h2'⟩ := h'
  rw [e] at e'
  cases e'
  rw [h1] at h1'
  cases h1'
  rw [h2] at h2'
  exact ⟨rfl, str_inj (HO.tup.inj (Option.some.inj h2'))⟩
def rowD (p : Int × List Str) : PyData := .tuple [.int p.1, .tuple (p.2.map PyData.str)]
theorem alike_texts : ∀ xs ys : List Str, PySem.W.alikeAll (xs.map PyData.str) (ys.map PyData.str) = true
  | [], _ => by simp [PySem.W.alikeAll]
  | _ :: _, [] => by simp [PySem.W.alikeAll]
  | x :: xs, y :: ys => by
    rw [List.map_cons, List.map_cons, PySem.W.alikeAll, alike_texts xs ys]
    simp [PySem.W.alike]
theorem alike_rows (p q : Int × List Str) : PySem.W.alike (rowD p) (rowD q) = true := by
  unfold rowD
  simp [PySem.W.alike, PySem.W.alikeAll, alike_texts]
theorem depth_texts : ∀ xs : List Str, PyData.depthAll (xs.map PyData.str) = 0
  | [] => rfl
  | x :: xs => by rw [List.map_cons]; show max 0 (PyData.depthAll (xs.map PyData.str)) = 0; rw [depth_texts xs]; rfl
theorem reads_texts {h : Heap} : ∀ {xs : List Str} {us : List Value}, Vals (xs.map V.str) us → ReadsAll h us (xs.map PyData.str) []
  | [], _, r => by cases r; exact .nil
  | x :: xs, _, r => by
    rw [List.map_cons] at r
    cases r with
    | cons a b =>
      obtain ⟨t, rfl⟩ := (show ∃ t, _ = Value.str x t from a)
      exact .cons (as := []) (bs := []) (.str x t) (reads_texts b)
theorem reads_row {P : Program} {w : World} {H : Hp} {h : Heap} (ok : HOk P w H h) {x : V} {u : Value} {i : Int} {zs : List Str} (r : RelV x u) (e : RowAt H x i zs) : Reads h u (rowD (i, zs)) [] := by
  obtain ⟨t, f, rfl, h1, h2⟩ := e
  obtain rfl : u = Value.ref t := r
  obtain ⟨_, its, rv, o, g1, g2, n, g3⟩ := (show ObjOk P w H h t (.tup [.int i, .ref f]) from ok t _ h1)
  obtain ⟨_, its2, rv2, o2, k1, k2, n2, k3⟩ := (show ObjOk P w H h f (.tup (zs.map V.str)) from ok f _ h2)
  cases rv with
  | cons a b =>
    cases b with
    | cons c d =>
      cases d
      obtain ⟨tk, rfl⟩ := (show ∃ t, _ = Value.int i t from a)
      obtain rfl := (show _ = Value.ref f from c)
      exact .tuple g1 g2 g3 (.cons (as := []) (bs := []) (.int i tk) (.cons (as := []) (bs := []) (.tuple k1 k2 k3 (by simpa using reads_texts rv2)) .nil))
def rSortedR (K : PySem.W.Frag) : List V → Hp → VK → Prop := fun vs H Q => ∃ (a : Addr) (xs : List V), vs = [V.ref a] ∧ SqL K H a xs ∧ (∀ x ∈ xs, ∃ i zs, RowAt H x i zs) ∧ ∀ (ys : List V) (p : Addr), ys.Perm xs → H p = none → Q (.ref p) (upd H p (.lst ys))
theorem each_rows {P : Program} {w : World} {H : Hp} {h : Heap} (ok : HOk P w H h) : ∀ {xs : List V} {us : List Value}, Vals xs us → (∀ x ∈ xs, ∃ i zs, RowAt H x i zs) → ∃ bs : List (V × (Int × List Str)), bs.map (·.1) = xs ∧
    PySem.W.EachIs (fun v b => RelV b.1 v) us bs ∧ PySem.W.EachIs (fun v b => ∃ as, Reads h v (rowD b.2) as) us bs := by
  intro xs us r
  induction r with
  | nil => exact fun _ => ⟨[], rfl, .nil, .nil⟩
  | @cons x u xs us a _ ih =>
    intro hx
    obtain ⟨i, zs, e⟩ := hx x List.mem_cons_self
    obtain ⟨bs, h1, h2, h3⟩ := ih fun y hy => hx y (List.mem_cons_of_mem _ hy)
    exact ⟨(x, (i, zs)) :: bs, by rw [List.map_cons, h1], .cons a h2, .cons ⟨[], reads_row ok a e⟩ h3⟩
theorem each_vals : ∀ {us : List Value} {bs : List (V × (Int × List Str))}, PySem.W.EachIs (fun v b => RelV b.1 v) us bs → Vals (bs.map (·.1)) us
  | _, _, .nil => .nil
  | _, _, .cons a b => .cons a (each_vals b)
section
variable {X : Cx}
theorem cr_sortedR (hu : X.A.units + 65 < cLine) : CallR X (.builtin "sorted") (rSortedR X.K) := by
  intro pins s σ H vs us Q I r h
  obtain ⟨a, xs, rfl, hs, hx, q⟩ := h
  obtain ⟨its, rv, hl, hz⟩ := I.list hs
  rw [Vals.ref1 r]
  obtain ⟨bs, e1, e2, e3⟩ := each_rows I.hok rv hx
  have lb : bs.length = xs.length := by rw [← e1, List.length_map]
  refine PySem.W.sorted_data (enc := fun b : V × (Int × List Str) => rowD b.2) (R := fun v b => RelV b.1 v) hl.isList e2 e3 (PySem.W.AllAlike.of fun b b' => alike_rows _ _) (PySem.W.Sortable.tuples fun b => ⟨_, _, rfl⟩) (by rw [lb]; exact hz) (fun b _ => ?_) fun out ol oe => ?_
  · show X.A.units + 2 + (max 0 (max (PyData.depthAll (b.2.2.map PyData.str) + 1) 0) + 1) < cLine
    rw [depth_texts]
    show X.A.units + 2 + 2 < cLine
    omega
  · obtain ⟨ep, he'⟩ := PyProof.Rows.sortedAll_at s.heap its out.toArray
    have ov := each_vals oe
    have pm := (List.mergeSort_perm bs (PySem.W.dataLe false fun b : V × (Int × List Str) => rowD b.2)).map (·.1)
    rw [e1] at pm
    generalize (bs.mergeSort (PySem.W.dataLe false fun b : V × (Int × List Str) => rowD b.2)).map (·.1) = ys at ov pm
    exact ⟨.ref _, upd H (s.heap.objs.size + 1) (.lst ys), I.laid (t' := s.toks) (fun _ _ => PyProof.Rows.sortedAll_old) (Nat.le_succ _) ⟨by rw [pm.length_eq]; exact hz, out, ep, ov, he'⟩, rfl, q _ _ pm (I.hok.fresh (Nat.le_succ _))⟩
end
/-- list(a list or a tuple), told with the text's frame, for an element of a comprehension -/
def rListOf (K : PySem.W.Frag) : List V → Hp → VK → Prop := fun xs H Q => ∃ p ys, xs = [.ref p] ∧ (SqL K H p ys ∨ SqT K H p ys) ∧ ∀ l, H l = none → Q (.ref l) (upd H l (.lst ys))
theorem cr_listOf {X : Cx} : CallR X (.type "list") (rListOf X.K) := call_list_of
/-! ### sets of places as numbers -/
theorem b_not (a : Nat) : (Builtin.bitNot (Builtin.bitNot (a : Int))) = (a : Int) := by unfold Builtin.bitNot; omega
theorem b_or (a b : Nat) : Builtin.bitOr (a : Int) (b : Int) = ((a ||| b : Nat) : Int) := by
  unfold Builtin.bitOr
  have h1 : decide (0 ≤ Builtin.bitNot (a : Int)) = false := decide_eq_false (by unfold Builtin.bitNot; omega)
  have h2 : decide (0 ≤ Builtin.bitNot (b : Int)) = false := decide_eq_false (by unfold Builtin.bitNot; omega)
  unfold Builtin.bitAnd
  simp only [h1, h2, b_not, Int.toNat_natCast]
theorem b_and (a b : Nat) : Builtin.bitAnd (a : Int) (b : Int) = ((a &&& b : Nat) : Int) := PySem.W.os_band a b
theorem and_odd (a b : Nat) : (a &&& b) % 2 = (a % 2) * (b % 2) := by
  have h := Nat.testBit_and a b 0
  rw [Nat.testBit_zero, Nat.testBit_zero, Nat.testBit_zero] at h
  rcases Nat.mod_two_eq_zero_or_one a with c1 | c1 <;> rcases Nat.mod_two_eq_zero_or_one b with c2 | c2 <;> rcases Nat.mod_two_eq_zero_or_one (a &&& b) with c3 | c3 <;> rw [c1, c2, c3] at h ⊢ <;> first | rfl | exact absurd h (by decide)
theorem sub_test : ∀ (a b : Nat), a &&& b ≤ a ∧ ∀ i, (a - (a &&& b)).testBit i = (a.testBit i && !b.testBit i) := by
  intro a
  induction a using Nat.strongRecOn with
  | ind a ih =>
    intro b
    have le : a &&& b ≤ a := Nat.and_le_left
    refine ⟨le, ?_⟩
    by_cases a0 : a = 0
    · subst a0; intro i; simp
    · obtain ⟨l2, h2⟩ := ih (a / 2) (by omega) (b / 2)
      have dv : (a &&& b) / 2 = a / 2 &&& b / 2 := Nat.and_div_two
      have md := and_odd a b
      rw [← dv] at h2 l2
      generalize (a &&& b) = p at le md h2 l2
      intro i
      cases i with
      | zero =>
        rw [Nat.testBit_zero, Nat.testBit_zero, Nat.testBit_zero]
        rcases Nat.mod_two_eq_zero_or_one a with c1 | c1 <;> rcases Nat.mod_two_eq_zero_or_one b with c2 | c2 <;> rw [c1, c2] at md ⊢
        · have e : (a - p) % 2 = 0 := by omega
          rw [e]; rfl
        · have e : (a - p) % 2 = 0 := by omega
          rw [e]; rfl
        · have e : (a - p) % 2 = 1 := by omega
          rw [e]; rfl
        · have e : (a - p) % 2 = 0 := by omega
          rw [e]; rfl
      | succ i =>
        rw [Nat.testBit_succ, Nat.testBit_succ, Nat.testBit_succ, ← h2 i]
        have e : (a - p) / 2 = a / 2 - p / 2 := by
          rcases Nat.mod_two_eq_zero_or_one a with c1 | c1 <;> rcases Nat.mod_two_eq_zero_or_one b with c2 | c2 <;> rw [c1, c2] at md <;> omega
        rw [e]
theorem b_diff (a b : Nat) : Builtin.bitAnd (a : Int) (Builtin.bitNot (b : Int)) = ((a - (a &&& b) : Nat) : Int) := by
  have h1 : decide (0 ≤ (a : Int)) = true := decide_eq_true (by omega)
  have h2 : decide (0 ≤ Builtin.bitNot (b : Int)) = false := decide_eq_false (by unfold Builtin.bitNot; omega)
  unfold Builtin.bitAnd
  rw [h1, h2, b_not, Int.toNat_natCast, Int.toNat_natCast]
  have := (sub_test a b).1
  show (a : Int) - ((a &&& b : Nat) : Int) = _
  omega
end KnA

set_option Elab.async false
set_option linter.all false
set_option maxRecDepth 100000
set_option maxHeartbeats 4000000
/-! The order of rows (an int, a tuple of texts); sorted of rows, told with the order. -/
namespace KnA
open PySem PySem.Spec PyProof.Rows L2
abbrev Dat := Int × List Str
def rowLe (p q : Dat) : Bool := PySem.W.dataLe false rowD p q
theorem rowLe_eq (p q : Dat) : rowLe p q = !PyProof.Rows.lexLt itemOrd (PySem.W.keyToks (rowD q)) (PySem.W.keyToks (rowD p)) := rfl
theorem toks_texts : ∀ {xs ys : List Str}, PySem.W.keyToksAll (xs.map PyData.str) = PySem.W.keyToksAll (ys.map PyData.str) → xs = ys
  | [], [], _ => rfl
  | [], y :: ys, h => by
    rw [List.map_cons, PySem.W.toks_all_cons] at h
    exact nomatch (List.cons.inj h).1
  | x :: xs, [], h => by
    rw [List.map_cons, PySem.W.toks_all_cons] at h
    exact nomatch (List.cons.inj h).1
  | x :: xs, y :: ys, h => by
    rw [List.map_cons, List.map_cons, PySem.W.toks_all_cons, PySem.W.toks_all_cons] at h
    have h1 := (List.cons.inj h).2
    have h2 : (Sum.inr x.cps.toList : Int ⊕ List Nat) :: PySem.W.keyToksAll (xs.map PyData.str) = Sum.inr y.cps.toList :: PySem.W.keyToksAll (ys.map PyData.str) := h1
    obtain ⟨a, b⟩ := List.cons.inj h2
    rw [toks_texts b, PySem.W.str_of_cps (Sum.inr.inj a)]
theorem toks_row {p q : Dat} (h : PySem.W.keyToks (rowD p) = PySem.W.keyToks (rowD q)) : p = q := by
  obtain ⟨i, xs⟩ := p
  obtain ⟨j, ys⟩ := q
  have e : ∀ (i : Int) (xs : List Str), PySem.W.keyToks (rowD (i, xs)) = Sum.inl 1 :: Sum.inl i :: Sum.inl 1 :: (PySem.W.keyToksAll (xs.map PyData.str) ++ [Sum.inl 0]) := fun i xs => by
    show PySem.W.keyToksAll [.int i, .tuple (xs.map PyData.str)] = _
    rw [PySem.W.toks_all_cons, PySem.W.toks_all_cons]
    rfl
  rw [e, e] at h
  obtain ⟨_, h⟩ := List.cons.inj h
  obtain ⟨a, h⟩ := List.cons.inj h
  obtain ⟨_, h⟩ := List.cons.inj h
  rw [Sum.inl.inj a, toks_texts (List.append_cancel_right h)]
theorem rowLe_anti {p q : Dat} (a : rowLe p q = true) (b : rowLe q p = true) : p = q := by
  rw [rowLe_eq, Bool.not_eq_true'] at a b
  exact toks_row (lex_total (O := itemOrd) _ _ b a)
theorem rowLe_trans {p q r : Dat} (a : rowLe p q = true) (b : rowLe q r = true) : rowLe p r = true := (PySem.W.sortLe_total (listOrd itemOrd) false fun b : Dat => PySem.W.keyToks (rowD b)).trans p q r a b
theorem rowLe_total (p q : Dat) : rowLe p q = true ∨ rowLe q p = true := (PySem.W.sortLe_total (listOrd itemOrd) false fun b : Dat => PySem.W.keyToks (rowD b)).total p q
theorem rows_one : ∀ {xs ys : List Dat}, xs.Pairwise (fun p q => rowLe p q = true) → ys.Pairwise (fun p q => rowLe p q = true) → xs.Perm ys → xs = ys
  | [], ys, _, _, h => by rw [List.nil_perm.mp h]
  | x :: xs, [], _, _, h => by have := h.length_eq; cases this
  | x :: xs, y :: ys, hx, hy, h => by
    obtain ⟨x1, x2⟩ := List.pairwise_cons.mp hx
    obtain ⟨y1, y2⟩ := List.pairwise_cons.mp hy
    have refl : ∀ p : Dat, rowLe p p = true := fun p => (rowLe_total p p).elim id id
    have e : x = y := by
      have a : rowLe x y = true := by
        rcases List.mem_cons.mp (h.mem_iff.mpr (List.mem_cons_self (a := y) (l := ys))) with z | z
        · rw [z]; exact refl x
        · exact x1 y z
      have b : rowLe y x = true := by
        rcases List.mem_cons.mp (h.mem_iff.mp (List.mem_cons_self (a := x) (l := xs))) with z | z
        · rw [z]; exact refl y
        · exact y1 x z
      exact rowLe_anti a b
    subst e
    rw [rows_one x2 y2 (List.Perm.cons_inv h)]
/-- sorted(xs), rows: with the order -/
def rSortedRO (K : PySem.W.Frag) : List V → Hp → VK → Prop := fun vs H Q => ∃ (a : Addr) (bs : List (V × Dat)), vs = [V.ref a] ∧ SqL K H a (bs.map (·.1)) ∧ (∀ b ∈ bs, RowAt H b.1 b.2.1 b.2.2) ∧
  ∀ (bs' : List (V × Dat)) (p : Addr), bs'.Perm bs → (bs'.map (·.2)).Pairwise (fun p q => rowLe p q = true) → H p = none → Q (.ref p) (upd H p (.lst (bs'.map (·.1))))
theorem each_rowsB {P : Program} {w : World} {H : Hp} {h : Heap} (ok : HOk P w H h) : ∀ {bs : List (V × Dat)} {us : List Value}, Vals (bs.map (·.1)) us → (∀ b ∈ bs, RowAt H b.1 b.2.1 b.2.2) →
    PySem.W.EachIs (fun v b => RelV b.1 v) us bs ∧ PySem.W.EachIs (fun v b => Reads h v (rowD b.2) []) us bs
  | [], _, r, _ => by cases r; exact ⟨.nil, .nil⟩
  | b :: bs, _, r, hb => by
    rw [List.map_cons] at r
    cases r with
    | cons a t =>
      obtain ⟨h1, h2⟩ := each_rowsB ok t fun x hx => hb x (List.mem_cons_of_mem _ hx)
      exact ⟨.cons a h1, .cons (reads_row ok a (hb b List.mem_cons_self)) h2⟩
theorem sort_pair (bs : List (V × Dat)) : ((bs.mergeSort (PySem.W.dataLe false fun b : V × Dat => rowD b.2)).map (·.2)).Pairwise fun p q => rowLe p q = true := by
  have := PySem.W.sort_pairwise (PySem.W.sortLe_total (listOrd itemOrd) false fun b : V × Dat => PySem.W.keyToks (rowD b.2)) bs
  exact List.pairwise_map.mpr (this.imp fun h => h)
section
variable {X : Cx}
theorem cr_sortedRO (hu : X.A.units + 65 < cLine) : CallR X (.builtin "sorted") (rSortedRO X.K) := by
  intro pins s σ H vs us Q I r h
  obtain ⟨a, bs, rfl, hs, hb, q⟩ := h
  obtain ⟨its, rv, hl, hz⟩ := I.list hs
  rw [Vals.ref1 r]
  obtain ⟨e2, e3⟩ := each_rowsB I.hok rv hb
  rw [List.length_map] at hz
  refine PySem.W.sorted_data (enc := fun b : V × Dat => rowD b.2) (R := fun v b => RelV b.1 v) hl.isList e2 (e3.mono fun _ _ r => ⟨[], r⟩) (PySem.W.AllAlike.of fun b b' => alike_rows _ _) (PySem.W.Sortable.tuples fun b => ⟨_, _, rfl⟩) hz (fun b _ => ?_) fun out ol oe => ?_
  · show X.A.units + 2 + (max 0 (max (PyData.depthAll (b.2.2.map PyData.str) + 1) 0) + 1) < cLine
    rw [depth_texts]
    show X.A.units + 2 + 2 < cLine
    omega
  · obtain ⟨ep, he'⟩ := PyProof.Rows.sortedAll_at s.heap its out.toArray
    have ov := each_vals oe
    have pm := List.mergeSort_perm bs (PySem.W.dataLe false fun b : V × Dat => rowD b.2)
    have so := sort_pair bs
    generalize bs.mergeSort (PySem.W.dataLe false fun b : V × Dat => rowD b.2) = bs' at ov pm so
    exact ⟨.ref _, upd H (s.heap.objs.size + 1) (.lst (bs'.map (·.1))), I.laid (t' := s.toks) (fun _ _ => PyProof.Rows.sortedAll_old) (Nat.le_succ _) ⟨by rw [List.length_map, pm.length_eq]; exact hz, out, ep, ov, he'⟩, rfl, q _ _ pm so (I.hok.fresh (Nat.le_succ _))⟩
end
end KnA

set_option Elab.async false
set_option linter.all false
set_option maxRecDepth 100000
set_option maxHeartbeats 4000000
/-! Sets whose members are keys of any kind that has a place in memory: one more put in. -/
namespace KnH
open PySem PySem.Spec PyProof.Rows L2
open PySem renaming wpAny_bind → seqAny
section
variable {κ : Type} [DecidableEq κ] {P : Program} {w : World}
variable {knd : HeapKind P w κ} {A : Around} {E : Value → Shared → Prop} {s : Shared}
/-- a loop that asks each item of a tuple and leaves all as it is -/
theorem asks_all {α : Type} {B : Value → Sem (ForInStep (Option α × Unit))} {vs : List Value} {ok : Value → Prop} (hv : ∀ v ∈ vs, ok v)
    (hb : ∀ v, ok v → ∀ (s : Shared) (Q : ForInStep (Option α × Unit) → Shared → Prop), Q (.yield (none, ())) s → wpAny (model P w) A (B v) Q E s) {Q : Option α × Unit → Shared → Prop} (h : Q (none, ()) s) :
    wpAny (model P w) A (forIn vs ((none : Option α), ()) fun v _ => B v) Q E s := by
  refine wpAny_forIn_list _ (fun rest r s' => r = (none, ()) ∧ s' = s ∧ ∀ v ∈ rest, ok v) _ ?_ ?_ _ _ ⟨rfl, rfl, hv⟩
  · rintro v rest r s' ⟨hr, rfl, all⟩
    exact hb v (all v List.mem_cons_self) _ _ ⟨rfl, rfl, fun u hu => all u (List.mem_cons_of_mem _ hu)⟩
  · rintro r s' ⟨hr, rfl, _⟩
    rw [hr]; exact h
/-- what the search asks of a kind of keys -/
structure HFlat (knd : HeapKind P w κ) : Prop where
  stays : knd.Stays
  cls : ∀ {A : Around} {E : Value → Shared → Prop} {s : Shared} {k : κ} {b : Addr} {Q : Bool → Shared → Prop}, knd.is s.heap k b → Q false s → wpAny (model P w) A (ofAClassStatement 8 (.ref b)) Q E s
  val : ∀ {A : Around} {E : Value → Shared → Prop} {s : Shared} {k : κ} {b : Addr} {Q : Bool → Shared → Prop}, knd.is s.heap k b → (∀ b, Q b s) → wpAny (model P w) A (hashByValue 8 (.ref b)) Q E s
theorem unseen (fl : HFlat knd) {k : κ} {b : Addr} {Q : Bool → Shared → Prop} (hk : knd.is s.heap k b) {ys : List Value} (hy : ∀ y ∈ ys, ∃ k' c, y = Value.ref c ∧ knd.is s.heap k' c) (h : Q false s) :
    wpAny (model P w) A (searchCouldBeSeen (.ref b) ys) Q E s := by
  unfold searchCouldBeSeen
  refine seqAny ?_
  refine wpAny_forIn_list _ (fun rest r s' => r.1 = none ∧ s' = s ∧ ∀ y ∈ rest, ∃ k' c, y = Value.ref c ∧ knd.is s.heap k' c) _ ?_ ?_ _ _ ⟨rfl, rfl, hy⟩
  · rintro v rest r s' ⟨hr, rfl, all⟩
    obtain ⟨k', c, rfl, hc⟩ := all v List.mem_cons_self
    have left : ∀ y ∈ rest, ∃ k' c, y = Value.ref c ∧ knd.is s'.heap k' c := fun u hu => all u (List.mem_cons_of_mem _ hu)
    dsimp only
    by_cases hv : (b == c || (carriedByValue (.ref b) && carriedByValue (.ref c))) = true
    · exact wp_if_pos hv (wpAny_pure ⟨rfl, rfl, left⟩)
    · refine wp_if_neg hv (wpAny_bind (knd.quiet hk ?_))
      simp only [Bool.not_true, if_false, Bool.false_eq_true]
      refine seqAny (knd.quiet hc ?_)
      simp only [Bool.not_true, if_false, Bool.false_eq_true]
      refine seqAny (fl.cls hk ?_)
      simp only [if_false, Bool.false_eq_true]
      refine seqAny (fl.cls hc ?_)
      simp only [if_false, Bool.false_eq_true]
      exact wpAny_pure ⟨rfl, rfl, left⟩
  · rintro ⟨r1, r2⟩ s' ⟨hr, rfl, _⟩
    simp only at hr
    subst hr
    exact wpAny_pure h
/-! ### what stands in the table -/
abbrev Row (κ : Type) := Addr × κ
def ents (knd : HeapKind P w κ) (M : List (Row κ)) : List (Int × Value) := M.map fun p => (knd.hash p.2, Value.ref p.1)
def hashes (knd : HeapKind P w κ) (M : List (Row κ)) : List Int := M.map fun p => knd.hash p.2
structure Tups (knd : HeapKind P w κ) (h : Heap) (a : Addr) (M : List (Row κ)) (es : Array (Int × Value)) (ep : Nat) (t : SetTable) : Prop where
  obj : ∃ o, h.get? a = some o ∧ o.ExactSet ∧ o.data = .set es ep t
  rows : es.toList = ents knd M
  tab : TabOk t (hashes knd M)
  once : (M.map (·.2)).Nodup
  tup : ∀ p ∈ M, knd.is h p.2 p.1
  led : w.params.followText "set-order" = true ∨ t.led = true
  room : M.length * 5 < t.mask * 3
  few : M.length < 64
variable {a : Addr} {M : List (Row κ)} {es : Array (Int × Value)} {ep : Nat} {t : SetTable}
/-- a table without dummies, as many places as entries -/
theorem fits_of {es : Array (Int × Value)} {t : SetTable} (h0 : t.dummies = #[]) (h1 : t.place.size = es.size) (h2 : es.size ≤ t.mask) : t.fits es.size = true := by
  unfold SetTable.fits SetTable.fill; rw [h0, Bool.and_eq_true, beq_iff_eq, decide_eq_true_eq]
  exact ⟨h1, by show t.place.size + 0 ≤ _; omega⟩
theorem len_of (h : es.toList = ents knd M) : es.size = M.length := by
  have z := congrArg List.length h
  rwa [Array.length_toList, show (ents knd M).length = M.length from List.length_map _] at z
theorem Tups.size (R : Tups knd s.heap a M es ep t) : es.size = M.length := len_of R.rows
theorem Tups.fits (R : Tups knd s.heap a M es ep t) : t.fits es.size = true := by
  have z1 : t.place.size = M.length := R.tab.sz.trans (List.length_map _)
  have z2 := R.size
  have z3 := R.room
  exact fits_of R.tab.dm (by omega) (by omega)
theorem ent_at (h : es.toList = ents knd M) {i : Nat} {p : Row κ} (hp : M[i]? = some p) : es[i]? = some (knd.hash p.2, Value.ref p.1) := by
  rw [← Array.getElem?_toList, h]
  unfold ents
  rw [List.getElem?_map, hp]; rfl
theorem Tups.stay (R : Tups knd s.heap a M es ep t) : ¬ t.gaveWay = true := by
  unfold SetTable.gaveWay
  rw [mask_odd R.tab.mok]
  decide
/-- the place of a hash's way, c steps on -/
abbrev spot (t : SetTable) (h : Int) (c : Nat) : SetTable.Probe := nth t.mask (runAt t.mask (SetTable.bits h % (t.mask + 1)) (SetTable.bits h)) c
theorem spot_more (t : SetTable) (h : Int) (c q : Nat) : nth t.mask (spot t h c) q = spot t h (c + q) := (nth_add t.mask c _ q).symm
theorem no_dummy (m : Nat) : ∀ (n : Nat) (p : SetTable.Probe), p.dummy = none → (nth m p n).dummy = none
  | 0, _, h => h
  | n + 1, p, h => no_dummy m n (adv m p) (by unfold adv; split <;> exact h)
/-- the search, from the c-th step on: it ends at the key, or at the free place Z -/
theorem seek (fl : HFlat knd) (R : Tups knd s.heap a M es ep t) {x : Addr} {k : κ} (hx : knd.is s.heap k x) (hu : knd.room A) {Z : Nat} (z1 : Z < 10 * SetTable.turns t.mask)
    (z2 : way t.mask (knd.hash k) Z ∉ t.place.toList) (z3 : ∀ c, c < Z → way t.mask (knd.hash k) c ∈ t.place.toList) {Q : SetFound → Shared → Prop}
    (yes : k ∈ M.map (·.2) → Q (.there none) s) (no : k ∉ M.map (·.2) → Q (.free (way t.mask (knd.hash k) Z) false) s) :
    ∀ (f c : Nat) (at_ : Option SetTable.Probe), at_.getD (t.probeStart (knd.hash k)) = spot t (knd.hash k) c → c ≤ Z → Z - c < f →
      (∀ (i : Nat) p, M[i]? = some p → p.2 = k → ∃ c', c ≤ c' ∧ c' < Z ∧ t.place.toList[i]? = some (way t.mask (knd.hash k) c')) →
      wpAny (model P w) A (setSearchFrom a (.ref x) (knd.hash k) true f at_) Q E s := by
  intro f
  induction f with
  | zero => intro c at_ _ _ hf _; exact absurd hf (Nat.not_lt_zero _)
  | succ f ih =>
  intro c at_ hst hc hf ahead
  obtain ⟨o, ho, hex, hd⟩ := R.obj
  rw [setSearchFrom_succ]
  refine seqAny (wpAny_setState_of ho hd R.fits ?_)
  dsimp only
  refine wp_if_neg R.stay ?_
  try refine seqAny (wpAny_pure ?_)
  have way_at : ∀ q, (nth t.mask (spot t (knd.hash k) c) q).j = way t.mask (knd.hash k) (c + q) := fun q => congrArg SetTable.Probe.j (spot_more t _ c q)
  have to_end : c + (Z - c) = Z := by omega
  have told := go_spec t R.tab.ris R.tab.dm (fun i => (es[i]?.map (·.1)).getD 0) (knd.hash k) (10 * SetTable.turns t.mask) (Z - c) _ (no_dummy t.mask c _ rfl) (by omega)
    (fun q hq => by rw [way_at]; exact z3 (c + q) (by omega)) (by rw [way_at, to_end]; exact z2)
  have hash_at : ∀ (i : Nat) p, M[i]? = some p → (fun i => (es[i]?.map (·.1)).getD 0) i = knd.hash p.2 := fun i p hp => by
    show (es[i]?.map (·.1)).getD 0 = _
    rw [ent_at R.rows hp]; rfl
  rcases told with ⟨q, i, hq, hi, hh, before, hpr⟩ | ⟨before, hpr⟩
  · have met : t.probe (fun i => (es[i]?.map (·.1)).getD 0) (knd.hash k) (at_.getD (t.probeStart (knd.hash k))) = some (.candidate (way t.mask (knd.hash k) (c + q)) i (spot t (knd.hash k) (c + (q + 1)))) := by
      rw [hst, ← way_at, ← spot_more]
      exact hpr
    rw [met]
    dsimp only
    rw [way_at] at hi
    have lt : i < M.length := by
      have z := (List.getElem?_eq_some_iff.mp hi).1
      rw [Array.length_toList, R.tab.sz, show (hashes knd M).length = M.length from List.length_map _] at z
      exact z
    obtain ⟨p, hp⟩ : ∃ p, M[i]? = some p := ⟨_, List.getElem?_eq_getElem lt⟩
    have mem : p ∈ M := List.mem_of_getElem? hp
    have go_on : wpAny (model P w) A (searchRest a (.ref x) (knd.hash k) true f es t (way t.mask (knd.hash k) (c + q)) i (spot t (knd.hash k) (c + (q + 1)))) Q E s := by
      unfold searchRest
      rw [ent_at R.rows hp]
      dsimp only
      refine seqAny (wpAny_holding (knd.eqBool hu (R.tup p mem) hx (wpAny_bind (wpAny_setState_of ho hd R.fits ?_))))
      dsimp only
      by_cases same : p.2 = k
      · refine wp_if_pos (by simp [same]) (wpAny_pure (yes (List.mem_map.mpr ⟨p, mem, same⟩)))
      · refine wp_if_neg (by simp [same]) ?_
        try refine seqAny (wpAny_pure ?_)
        rw [sameMem]
        dsimp only
        have live : t.slot (way t.mask (knd.hash k) (c + q)) = .live i := slot_live R.tab.ris hi
        simp only [if_true, live, ent_at R.rows hp]
        refine seqAny (wpAny_isSame_ref_self (wpAny_bind (wpAny_pure ?_)))
        simp only [if_true]
        refine wp_if_neg (by simp [same]) ?_
        refine ih (c + (q + 1)) _ rfl (by omega) (by omega) fun i0 p0 h0 k0 => ?_
        obtain ⟨c', a1, a2, a3⟩ := ahead i0 p0 h0 k0
        refine ⟨c', ?_, a2, a3⟩
        rcases Nat.lt_trichotomy c' (c + q) with lo | eq | hi'
        · refine (before (c' - c) i0 (by omega) (by rw [way_at, show c + (c' - c) = c' by omega]; exact a3) ?_).elim
          exact (hash_at i0 p0 h0).trans (congrArg (knd.hash) k0)
        · rw [eq] at a3
          have s0 := slot_live R.tab.ris a3
          rw [live] at s0
          injection s0 with s0
          rw [← s0, hp] at h0
          exact (same ((congrArg Prod.snd (Option.some.inj h0)).trans k0)).elim
        · omega
    by_cases led : t.led = true
    · refine wp_if_neg (by simp [led]) ?_
      try refine seqAny (wpAny_pure ?_)
      exact go_on
    · refine wp_if_pos (by simp [led]) (wpAny_bind (unseen fl hx (fun y hy => ?_) ?_))
      · obtain ⟨e, he, ee⟩ := List.mem_map.mp hy
        have he1 : e ∈ es ∧ e.1 = knd.hash k := by simpa using he
        have he2 : e ∈ es.toList := by simpa using he1.1
        rw [R.rows] at he2
        obtain ⟨p2, hp2, e2⟩ := List.mem_map.mp he2
        exact ⟨p2.2, p2.1, by rw [← ee, ← e2], R.tup p2 hp2⟩
      · refine wp_if_neg (by decide) ?_
        try refine seqAny (wpAny_pure ?_)
        exact go_on
  · have met : t.probe (fun i => (es[i]?.map (·.1)).getD 0) (knd.hash k) (at_.getD (t.probeStart (knd.hash k))) = some (.empty (way t.mask (knd.hash k) Z) none) := by
      have e2 : way t.mask (knd.hash k) Z = (nth t.mask (spot t (knd.hash k) c) (Z - c)).j := by rw [way_at, to_end]
      rw [hst, e2]
      exact hpr
    rw [met]
    dsimp only
    refine wpAny_pure (no fun hm => ?_)
    obtain ⟨p0, h0, k0⟩ := List.mem_map.mp hm
    obtain ⟨i0, hi0, e0⟩ := List.getElem_of_mem h0
    have h00 : M[i0]? = some p0 := by rw [List.getElem?_eq_getElem hi0, e0]
    obtain ⟨c', a1, a2, a3⟩ := ahead i0 p0 h00 k0
    refine before (c' - c) i0 (by omega) (by rw [way_at, show c + (c' - c) = c' by omega]; exact a3) ?_
    exact (hash_at i0 p0 h00).trans (congrArg (knd.hash) k0)
theorem search (fl : HFlat knd) (R : Tups knd s.heap a M es ep t) {x : Addr} {k : κ} (hx : knd.is s.heap k x) (hu : knd.room A) {Q : SetFound → Shared → Prop} (yes : k ∈ M.map (·.2) → Q (.there none) s)
    (no : ∀ Z, k ∉ M.map (·.2) → way t.mask (knd.hash k) Z ∉ t.place.toList → (∀ c, c < Z → way t.mask (knd.hash k) c ∈ t.place.toList) → Q (.free (way t.mask (knd.hash k) Z) false) s) :
    wpAny (model P w) A (setSearch a (.ref x) (knd.hash k) true) Q E s := by
  have lm : (hashes knd M).length = M.length := List.length_map _
  obtain ⟨Z, z1, z2, z3⟩ := R.tab.first (by have := R.room; omega) (knd.hash k)
  have small : Z < 100000 := by
    have : 10 * SetTable.turns t.mask ≤ 1420 := by
      unfold SetTable.turns
      rcases R.tab.mok with e | e | e <;> omega
    omega
  unfold setSearch
  refine seek fl R hx hu z1 z2 z3 yes (fun hn => no Z hn z2 z3) 100000 0 none rfl (Nat.zero_le _) (by omega) fun i p hp hk => ?_
  have hi : (hashes knd M)[i]? = some (knd.hash k) := by
    unfold hashes
    rw [List.getElem?_map, hp, ← hk]; rfl
  have lt : i < t.place.toList.length := by
    rw [Array.length_toList, R.tab.sz, lm]
    exact (List.getElem?_eq_some_iff.mp hp).1
  have hj := List.getElem?_eq_getElem lt
  obtain ⟨c, hc, e⟩ := R.tab.before z2 hi hj
  exact ⟨c, Nat.zero_le _, hc, by rw [hj, e]⟩
/-! ### put in -/
theorem tup_still (fl : HFlat knd) {h h' : Heap} {k : κ} {b : Addr} {o : Obj} (hb : knd.is h k b) (ho : h.get? a = some o) (hd : o.data = .set es ep t) (sb : Heap.SameBut a h h') : knd.is h' k b :=
  fl.stays.stays (fun c oc vs n g hs => (sb.2 c fun e => by
    rw [e, ho] at g
    rw [Option.some.inj g, hs] at hd
    exact nomatch hd).trans g) hb
theorem ins_perm {α : Type} (l : List α) (p : Nat) (x : α) : (l.take p ++ x :: l.drop p).Perm (x :: l) := by
  have z : (l.take p ++ x :: l.drop p).Perm (x :: (l.take p ++ l.drop p)) := List.perm_middle
  rwa [List.take_append_drop] at z
theorem pick {α β : Type} (f : Nat → Option α) (l : List α) (hf : ∀ i, f i = l[i]?) {o : List Nat} (hp : o.Perm (List.range l.length)) : (o.filterMap f).Perm l := by
  have z : ∀ n, n ≤ l.length → (List.range n).filterMap f = l.take n := by
    intro n
    induction n with
    | zero => intro _; rfl
    | succ n ih =>
      intro hn
      have lt : n < l.length := hn
      rw [List.range_succ, List.filterMap_append, ih (Nat.le_of_lt lt), List.take_succ, List.getElem?_eq_getElem lt, List.filterMap_cons_some ((hf n).trans (List.getElem?_eq_getElem lt))]; rfl
  have y := hp.filterMap f
  rw [z _ (Nat.le_refl _), List.take_length] at y
  exact y
theorem reorder (hr : es.toList = ents knd M) {ord : Array Nat} (hp : ord.toList.Perm (List.range M.length)) :
    ∃ M2 : List (Row κ), (ord.filterMap (es[·]?)).toList = ents knd M2 ∧ M2.Perm M ∧ hashes knd M2 = ord.toList.map fun i => (es.map (·.1)).getD i 0 := by
  refine ⟨ord.toList.filterMap fun i => M[i]?, ?_, pick (β := Unit) _ M (fun _ => rfl) hp, ?_⟩
  · rw [Array.toList_filterMap]
    have : ∀ l : List Nat, l.filterMap (fun i => es[i]?) = ents knd (l.filterMap fun i => M[i]?) := by
      intro l
      induction l with
      | nil => rfl
      | cons i l ih =>
        cases g : M[i]? with
        | none =>
          have g2 : es[i]? = none := by rw [← Array.getElem?_toList, hr]; unfold ents; rw [List.getElem?_map, g]; rfl
          rw [List.filterMap_cons_none g, List.filterMap_cons_none g2, ih]
        | some p => rw [List.filterMap_cons_some g, List.filterMap_cons_some (ent_at hr g), ih]; rfl
    exact this _
  · have sz := len_of hr
    have : ∀ l : List Nat, (∀ i ∈ l, i < M.length) → hashes knd (l.filterMap fun i => M[i]?) = l.map fun i => (es.map (·.1)).getD i 0 := by
      intro l
      induction l with
      | nil => intro _; rfl
      | cons i l ih =>
        intro hl
        have g : M[i]? = some (M[i]'(hl i List.mem_cons_self)) := List.getElem?_eq_getElem _
        generalize (M[i]'(hl i List.mem_cons_self)) = p at g
        rw [List.filterMap_cons_some g, List.map_cons, ← ih fun j hj => hl j (List.mem_cons_of_mem _ hj)]
        have e5 : (es.map (·.1))[i]? = some (knd.hash p.2) := by rw [Array.getElem?_map, ent_at hr g]; rfl
        have e4 : (es.map (·.1)).getD i 0 = knd.hash p.2 := by simp [Array.getD_eq_getD_getElem?, e5]
        rw [e4]; rfl
    exact this _ fun i hi => List.mem_range.mp (hp.mem_iff.mp hi)
/-- the table laid anew, larger -/
theorem relay (fl : HFlat knd) {o : Obj} (ho : s.heap.get? a = some o) (hex : o.ExactSet) (hd : o.data = .set es ep t) (hr : es.toList = ents knd M) (hsz : t.place.size = es.size) (hdm : t.dummies = #[]) (hfl : es.size ≤ t.mask)
    (once : (M.map (·.2)).Nodup) (tup : ∀ p ∈ M, knd.is s.heap p.2 p.1) (ld : w.params.followText "set-order" = true ∨ t.led = true) (few : M.length < 64) {many N : Nat}
    (hw : SetTable.sizeAbove many - 1 = N) (hN : MaskOk N) (hw2 : SetTable.sizeAbove many ≤ 128) (hn : M.length * 5 < N * 3) {Q : Unit → Shared → Prop}
    (hQ : ∀ h' M' es' ep' t', Heap.SameBut a s.heap h' → Tups knd h' a M' es' ep' t' → M'.Perm M → Q () { s with heap := h' }) : wpAny (model P w) A (setRelay a many) Q E s := by
  have sz := len_of hr
  have fits : t.fits es.size = true := by
    exact fits_of hdm hsz hfl
  obtain ⟨t', ord, e, hp, T, em, el, epl, ed⟩ := relaid_ok t (hs := es.map (·.1)) (wanted := many) hw hN (by rw [Array.size_map, sz]; omega)
  rw [Array.size_map, sz] at hp
  obtain ⟨M2, r1, r2, r3⟩ := reorder hr hp
  rw [← r3] at T
  have z2 : (ord.filterMap (es[·]?)).size = es.size := by rw [len_of r1, r2.length_eq, sz]
  rw [setRelay_eq]
  refine seqAny (wpAny_setState_of ho hd fits ?_)
  dsimp only
  refine wp_if_neg (by rw [sizeLine_eq]; omega) ?_
  try refine seqAny (wpAny_pure ?_)
  rw [e]
  dsimp only
  refine seqAny (wp_if_neg (by rw [z2]; simp) ?_)
  try refine seqAny (wpAny_pure ?_)
  refine wpAny_pure ?_
  dsimp only
  refine wpAny_storeSet_of ho hd ?_ (by rw [z2, sz, sizeLine_eq]; omega)
  have sb : Heap.SameBut a s.heap (s.heap.update a (Obj.putSet (ord.filterMap (es[·]?)) t')) := Heap.SameBut.update ..
  refine hQ _ M2 (ord.filterMap (es[·]?)) (ep + 1) t' sb ⟨⟨_, store_at ho hd, ⟨hex.1, hex.2.1, hex.2.2⟩, rfl⟩, r1, T, ?_, fun p hpm => tup_still fl (tup p (r2.mem_iff.mp hpm)) ho hd sb, by rw [el]; exact ld, ?_, by rw [r2.length_eq]; exact few⟩ r2
  · exact (r2.map (·.2)).nodup_iff.mpr once
  · rw [r2.length_eq, em]; exact hn
theorem put (fl : HFlat knd) (R : Tups knd s.heap a M es ep t) {x : Addr} {k : κ} (hx : knd.is s.heap k x) (hu : knd.room A) (lt : M.length + 1 < 64) {Q : Bool → Shared → Prop}
    (hQ : ∀ b h' M' es' ep' t', Heap.SameBut a s.heap h' → Tups knd h' a M' es' ep' t' → (k ∈ M.map (·.2) → M' = M) → (k ∉ M.map (·.2) → M'.Perm ((x, k) :: M)) → Q b { s with heap := h' }) :
    wpAny (model P w) A (setAddHashed a (.ref x) (knd.hash k)) Q E s := by
  obtain ⟨o, ho, hex, hd⟩ := R.obj
  have sz := R.size
  have room := R.room
  unfold setAddHashed
  refine wpAny_holding ?_
  rw [show (100000 : Nat) = 99999 + 1 from rfl, setAddHashedIn_succ]
  refine seqAny (wpAny_setState_of ho hd R.fits ?_)
  dsimp only
  refine wp_if_neg (by simp [byScan, Value.scannable]) ?_
  try refine seqAny (wpAny_pure ?_)
  refine seqAny (search fl R hx hu (fun hm => ?_) fun Z hm hZ hb => ?_)
  · dsimp only
    exact wpAny_pure (hQ false s.heap M es ep t (Heap.SameBut.refl a s.heap) R (fun _ => rfl) fun z => absurd hm z)
  · dsimp only
    refine seqAny (wpAny_setState_of ho hd R.fits ?_)
    dsimp only
    obtain ⟨q1, q2, q3, q4, q5, q6, q7, q8, q9⟩ := R.tab.put hZ hb
    generalize hpt : t.put (way t.mask (knd.hash k) Z) = pt at q1 q3 q4 q5 q6 q7 q8 q9 ⊢
    obtain ⟨t0, p⟩ := pt
    dsimp only at q1 q3 q4 q5 q6 q7 q8 q9 ⊢
    subst q1
    have rest : ∀ (b : Bool) (t1 : SetTable), t1.place = t0.place → t1.dummies = t0.dummies → t1.mask = t0.mask → t1.led = t0.led → wpAny (model P w) A (do
        storeSet a (SetTable.insertAt es (SetTable.below t.place (way t.mask (knd.hash k) Z)) (knd.hash k, Value.ref x)) t1
        if !false && t1.tooFull then setRelay a (SetTable.grown (es.size + 1))
        return true) Q E s := by
     intro b t1 w1 w2 w3 w4
     replace q3 : TabOk t1 (List.take (SetTable.below t.place (way t.mask (knd.hash k) Z)) (hashes knd M) ++ knd.hash k :: List.drop (SetTable.below t.place (way t.mask (knd.hash k) Z)) (hashes knd M)) := ⟨by rw [w1]; exact q3.ris, by rw [w2]; exact q3.dm, by rw [w1]; exact q3.sz, by rw [w3]; exact q3.mok, by rw [w1, w3]; exact q3.bd, by rw [w1, w3]; exact q3.reach⟩
     replace q4 := w3.trans q4
     replace q5 := w4.trans q5
     replace q9 : t1.fill = (hashes knd M).length + 1 := by
       have z := q9
       unfold SetTable.fill at z ⊢
       rw [w1, w2]; exact z
     clear w1 w2 w3 w4 hpt
     have put1 : ∀ q, (SetTable.insertAt es q (knd.hash k, Value.ref x)).toList = ents knd (M.take q ++ (x, k) :: M.drop q) := fun q => by
       rw [SetTable.toList_insertAt, R.rows]
       unfold ents
       rw [List.map_append, List.map_cons, List.map_take, List.map_drop]
     have hin := put1 (SetTable.below t.place (way t.mask (knd.hash k) Z))
     generalize hpp : SetTable.below t.place (way t.mask (knd.hash k) Z) = p at q2 q3 hin ⊢
     have pm := ins_perm M p (x, k)
     have len1 : (M.take p ++ (x, k) :: M.drop p).length = M.length + 1 := pm.length_eq
     have hash1 : hashes knd (M.take p ++ (x, k) :: M.drop p) = (hashes knd M).take p ++ knd.hash k :: (hashes knd M).drop p := by
       unfold hashes
       rw [List.map_append, List.map_cons, List.map_take, List.map_drop]
     rw [← hash1] at q3
     have once1 : ((M.take p ++ (x, k) :: M.drop p).map (·.2)).Nodup := (pm.map (·.2)).nodup_iff.mpr (by rw [List.map_cons]; exact List.nodup_cons.mpr ⟨hm, R.once⟩)
     have size1 := (len_of hin).trans len1
     generalize SetTable.insertAt es p (knd.hash k, Value.ref x) = es1 at hin size1 ⊢
     generalize M.take p ++ (x, k) :: M.drop p = M1 at pm len1 q3 once1 hin
     refine seqAny (wpAny_storeSet_of ho hd ?_ (by rw [size1, sizeLine_eq]; omega))
     have sb : Heap.SameBut a s.heap (s.heap.update a (Obj.putSet es1 t1)) := Heap.SameBut.update ..
     have ho1 := store_at (es' := es1) (t' := t1) ho hd
     generalize s.heap.update a (Obj.putSet es1 t1) = h1 at sb ho1 ⊢
     have tup1 : ∀ p ∈ M1, knd.is h1 p.2 p.1 := fun p hp => by
       rcases List.mem_cons.mp (pm.mem_iff.mp hp) with e | hp
       · rw [e]; exact tup_still fl hx ho hd sb
       · exact tup_still fl (R.tup p hp) ho hd sb
     have led1 : w.params.followText "set-order" = true ∨ t1.led = true := by rw [q5]; exact R.led
     have lh : (hashes knd M).length = M.length := List.length_map _
     have lh1 : (hashes knd M1).length = M.length + 1 := (List.length_map _).trans len1
     by_cases full : t1.tooFull = true
     · first
         | (refine wpAny_bind ?_; refine wp_if_pos (by simp [full]) ?_)
         | (refine wp_if_pos (by simp [full]) ?_; refine wpAny_bind ?_)
       have much : (M.length + 1) * 5 ≥ t1.mask * 3 := by
         have z := full
         unfold SetTable.tooFull at z
         rw [decide_eq_true_eq, q9, lh] at z
         exact z
       rw [sz]
       have size2 : t1.place.size = es1.size := by rw [q3.sz, lh1, size1]
       have two : (t.mask = 7 ∧ M.length = 4) ∨ (t.mask = 31 ∧ M.length = 18) := by
         rw [q4] at much
         rcases R.tab.mok with e | e | e <;> rw [e] at much room
         · exact .inl ⟨e, by omega⟩
         · exact .inr ⟨e, by omega⟩
         · omega
       have go : ∀ N, SetTable.sizeAbove (SetTable.grown (M.length + 1)) - 1 = N → MaskOk N → SetTable.sizeAbove (SetTable.grown (M.length + 1)) ≤ 128 → (M.length + 1) * 5 < N * 3 →
           wpAny (model P w) A (setRelay a (SetTable.grown (M.length + 1))) (fun _ s' => wpAny (model P w) A (pure true) Q E s') E { s with heap := h1 } := fun N g1 g2 g3 g4 => by
         refine relay fl (s := { s with heap := h1 }) ho1 ⟨hex.1, hex.2.1, hex.2.2⟩ rfl hin size2 q3.dm (by rw [size1, q4]; rcases two with ⟨e, e2⟩ | ⟨e, e2⟩ <;> omega) once1 tup1 led1 (by rw [len1]; exact lt) g1 g2 g3 (by rw [len1]; exact g4) ?_
         intro h2 M2 es2 ep2 t2 sb2 R2 pm2
         exact wpAny_pure (hQ true h2 M2 es2 ep2 t2 (sb.trans sb2) R2 (fun z => absurd z hm) fun _ => pm2.trans pm)
       rcases two with ⟨_, e2⟩ | ⟨_, e2⟩
       · exact go 31 (by rw [e2, size_20]) (.inr (.inl rfl)) (by rw [e2, size_20]; decide) (by omega)
       · exact go 127 (by rw [e2, size_76]) (.inr (.inr rfl)) (by rw [e2, size_76]; decide) (by omega)
     · first
         | refine wp_if_neg (by simp [full]) ?_
         | (refine wpAny_bind ?_; refine wp_if_neg (by simp [full]) ?_; refine wpAny_pure ?_)
       refine wpAny_pure (hQ true h1 M1 es1 (ep + 1) t1 sb ⟨⟨_, ho1, ⟨hex.1, hex.2.1, hex.2.2⟩, rfl⟩, hin, q3, once1, tup1, led1, ?_, by rw [len1]; exact lt⟩ (fun z => absurd z hm) fun _ => pm)
       have z := full
       unfold SetTable.tooFull at z
       rw [decide_eq_true_eq, q9, lh] at z
       rw [len1]
       omega

    by_cases pl : t0.plain = true
    · first
        | (refine wpAny_bind ?_; refine wp_if_pos pl ?_; refine fl.val hx fun b => ?_)
        | refine wp_if_pos pl (wpAny_bind (fl.val hx fun b => ?_))
      cases b with
      | true => exact rest true t0 rfl rfl rfl rfl
      | false => exact rest false _ rfl rfl rfl rfl
    · first
        | (refine wpAny_bind ?_; refine wp_if_neg pl ?_; refine wpAny_pure ?_)
        | refine wp_if_neg pl (wpAny_bind (wpAny_pure ?_))
      exact rest true t0 rfl rfl rfl rfl
end
/-! ### nested tuples -/
section
variable {P : Program} {w : World}
/-- no class of the text, n levels down -/
def ClsAt (P : Program) (w : World) (n : Nat) (s : Shared) (v : Value) : Prop := ∀ (A : Around) (E : Value → Shared → Prop) (Q : Bool → Shared → Prop), Q false s → wpAny (model P w) A (ofAClassStatement n v) Q E s
def ValAt (P : Program) (w : World) (n : Nat) (s : Shared) (v : Value) : Prop := ∀ (A : Around) (E : Value → Shared → Prop) (Q : Bool → Shared → Prop), (∀ b, Q b s) → wpAny (model P w) A (hashByValue n v) Q E s
theorem ClsAt.tuple {n : Nat} {s : Shared} {a : Addr} {o : Obj} {vs : Array Value} {m : Nat} (ho : s.heap.get? a = some o) (hc : o.cls = .type "tuple") (hd : o.data = .seq vs m) (hq : ∀ v ∈ vs.toList, ClsAt P w n s v) : ClsAt P w (n + 1) s (.ref a) := fun A E Q h => by
  have hT : s.TypeIs (.ref a) "tuple" := ⟨o, ho, hc⟩
  unfold ofAClassStatement
  refine seqAny (wpAny_typeOf hT ?_)
  dsimp only
  have same : (("tuple" : String) == "tuple") = true := by decide
  simp only [same, if_false, if_true, Bool.not_true, Bool.false_eq_true]
  try refine seqAny (wpAny_pure ?_)
  try simp only [Bool.not_true, if_false, Bool.false_eq_true]
  show wpAny _ _ (seqItems? (.ref a) >>= _) _ _ _; refine seqAny (wpAny_seqItems ho hd ?_)
  dsimp only
  refine seqAny ?_
  show wpAny _ _ (forIn vs _ _) _ _ s
  rw [← Array.forIn_toList]
  refine wpAny_forIn_list _ (fun rest r s' => r = (none, ()) ∧ s' = s ∧ ∀ v ∈ rest, ClsAt P w n s v) _ ?_ ?_ _ _ ⟨rfl, rfl, hq⟩
  · rintro v rest r s' ⟨hr, rfl, all⟩
    refine seqAny (all v List.mem_cons_self _ _ _ ?_)
    simp only [if_false, Bool.false_eq_true]
    exact wpAny_pure ⟨rfl, rfl, fun u hu => all u (List.mem_cons_of_mem _ hu)⟩
  · rintro r s' ⟨hr, rfl, _⟩
    subst hr
    exact wpAny_pure h
theorem ValAt.tuple {n : Nat} {s : Shared} {a : Addr} {o : Obj} {vs : Array Value} {m : Nat} (ho : s.heap.get? a = some o) (hc : o.cls = .type "tuple") (hd : o.data = .seq vs m) (hq : ∀ v ∈ vs.toList, ValAt P w n s v) : ValAt P w (n + 1) s (.ref a) := fun A E Q h => by
  have hT : s.TypeIs (.ref a) "tuple" := ⟨o, ho, hc⟩
  unfold hashByValue
  refine seqAny (wpAny_specialOf hT F.slot_tuple_hash.lookup ?_)
  show wpAny _ _ (seqItems? (.ref a) >>= _) _ _ _; refine seqAny (wpAny_seqItems ho hd ?_)
  refine seqAny ?_
  show wpAny _ _ (forIn vs _ _) _ _ s
  rw [← Array.forIn_toList]
  refine wpAny_forIn_list _ (fun rest r s' => s' = s ∧ ∀ v ∈ rest, ValAt P w n s v) _ ?_ ?_ _ _ ⟨rfl, hq⟩
  · rintro v rest r s' ⟨rfl, all⟩
    refine seqAny (all v List.mem_cons_self _ _ _ fun b => ?_)
    cases b with
    | true =>
      simp only [Bool.not_true, if_false, Bool.false_eq_true]
      exact wpAny_pure ⟨rfl, fun u hu => all u (List.mem_cons_of_mem _ hu)⟩
    | false =>
      simp only [Bool.not_false, if_true]
      exact wpAny_pure (wpAny_pure (h false))
  · rintro ⟨r1, r2⟩ s' ⟨rfl, _⟩
    cases r1 with
    | none => exact wpAny_pure (h true)
    | some b => exact wpAny_pure (h b)
mutual
theorem cls_key : ∀ (k : NestedKey) (v : Value) (n : Nat) (s : Shared), NestedIs s.heap k v → k.depth ≤ n → ClsAt P w n s v
  | .none, _, n, s, x, _ => by cases x; cases n <;> exact fun _ _ _ h => wpAny_pure h
  | .num i, _, n, s, x, _ => by cases x <;> cases n <;> exact fun _ _ _ h => wpAny_pure h
  | .text y, _, n, s, x, _ => by cases x; cases n <;> exact fun _ _ _ h => wpAny_pure h
  | .tup ks, _, n, s, x, hn => by
    cases x with
    | tup hg hc hd hk =>
      simp only [NestedKey.depth] at hn
      cases n with
      | zero => omega
      | succ n => exact .tuple hg hc hd (cls_keys ks _ n s hk (by omega))
theorem cls_keys : ∀ (ks : List NestedKey) (vs : List Value) (n : Nat) (s : Shared), NestedAll s.heap ks vs → NestedKey.depthAll ks ≤ n → ∀ v ∈ vs, ClsAt P w n s v
  | [], _, n, s, x, _, v, hv => by cases x; cases hv
  | k :: ks, _, n, s, x, hn, v, hv => by
    cases x with
    | cons x1 x2 =>
      simp only [NestedKey.depthAll] at hn
      rcases List.mem_cons.mp hv with e | hv
      · rw [e]; exact cls_key k _ n s x1 (by omega)
      · exact cls_keys ks _ n s x2 (by omega) v hv
end
mutual
theorem val_key : ∀ (k : NestedKey) (v : Value) (n : Nat) (s : Shared), NestedIs s.heap k v → k.depth ≤ n → ValAt P w n s v
  | .none, _, n, s, x, _ => by cases x; cases n <;> exact fun _ _ _ h => wpAny_pure (h _)
  | .num i, _, n, s, x, _ => by cases x <;> cases n <;> exact fun _ _ _ h => wpAny_pure (h _)
  | .text y, _, n, s, x, _ => by cases x; cases n <;> exact fun _ _ _ h => wpAny_pure (h _)
  | .tup ks, _, n, s, x, hn => by
    cases x with
    | tup hg hc hd hk =>
      simp only [NestedKey.depth] at hn
      cases n with
      | zero => omega
      | succ n => exact .tuple hg hc hd (val_keys ks _ n s hk (by omega))
theorem val_keys : ∀ (ks : List NestedKey) (vs : List Value) (n : Nat) (s : Shared), NestedAll s.heap ks vs → NestedKey.depthAll ks ≤ n → ∀ v ∈ vs, ValAt P w n s v
  | [], _, n, s, x, _, v, hv => by cases x; cases hv
  | k :: ks, _, n, s, x, hn, v, hv => by
    cases x with
    | cons x1 x2 =>
      simp only [NestedKey.depthAll] at hn
      rcases List.mem_cons.mp hv with e | hv
      · rw [e]; exact val_key k _ n s x1 (by omega)
      · exact val_keys ks _ n s x2 (by omega) v hv
end
theorem flat_nested : HFlat (nestedKind P w) where
  stays := nestedKind_stays
  cls := fun {A E s k b Q} hk h => cls_key k _ 8 s hk.1 hk.2 A E Q h
  val := fun {A E s k b Q} hk h => val_key k _ 8 s hk.1 hk.2 A E Q h
end
end KnH

set_option Elab.async false
set_option linter.all false
set_option maxRecDepth 100000
set_option maxHeartbeats 4000000
/-! set(xs), xs a list or a tuple of nested tuples; sorted of such a set. -/
namespace KnH
open PySem PySem.Spec PyProof.Rows L2
open PySem renaming wpAny_bind → seqAny
open KnN (NIs NAll nis_at)
abbrev NRow := Row NestedKey
/-! ### as a tracked thing -/
structure PartN (P : Program) (w : World) (h : Heap) (a : Addr) (M : List NRow) (es : Array (Int × Value)) (ep : Nat) (t : SetTable) : Prop where
  obj : ∃ o, h.get? a = some o ∧ o.ExactSet ∧ o.data = .set es ep t
  rows : es.toList = ents (nestedKind P w) M
  tab : TabOk t (hashes (nestedKind P w) M)
  once : (M.map (·.2)).Nodup
  led : w.params.followText "set-order" = true ∨ t.led = true
  room : M.length * 5 < t.mask * 3
  few : M.length < 64
def IsN (P : Program) (w : World) (a : Addr) (M : List NRow) (h : Heap) : Prop := ∃ es ep t, PartN P w h a M es ep t
def SetFN (P : Program) (w : World) (a : Addr) (M : List NRow) : HO := .ext fun h => IsN P w a M h
theorem IsN.keep {P : Program} {w : World} {a : Addr} {M : List NRow} {h h' : Heap} (R : IsN P w a M h) (k : ∀ o, h.get? a = some o → h'.get? a = some o) : IsN P w a M h' :=
  let ⟨es, ep, t, q⟩ := R; let ⟨o, ho, r⟩ := q.obj; ⟨es, ep, t, ⟨o, k o ho, r⟩, q.rows, q.tab, q.once, q.led, q.room, q.few⟩
theorem IsN.there {P : Program} {w : World} {a : Addr} {M : List NRow} {h : Heap} (R : IsN P w a M h) : ∃ o, h.get? a = some o ∧ o.cls = .type "set" := let ⟨_, _, _, q⟩ := R; let ⟨o, ho, hx, _⟩ := q.obj; ⟨o, ho, hx.1⟩
theorem partN_ok {P : Program} {w : World} {a : Addr} {M : List NRow} {H : Hp} {h : Heap} (R : IsN P w a M h) : ObjOk P w H h a (SetFN P w a M) := ⟨R, let ⟨o, ho, _⟩ := R.there; ⟨o, ho⟩, fun _ _ p k => p.keep k⟩
theorem freshN {P : Program} {w : World} (h : Heap) : IsN P w h.objs.size [] (h.push (KnS.set0 w)) := by
  refine ⟨#[], 0, _, ⟨_, Heap.get?_push_size _ rfl, ⟨rfl, rfl, rfl⟩, rfl⟩, rfl, ⟨List.Pairwise.nil, rfl, rfl, .inl rfl, (fun x hx => nomatch hx), fun i z j hi => (by simp [hashes] at hi)⟩, List.nodup_nil, ?_, (show 0 * 5 < 7 * 3 by decide), (show 0 < 64 by decide)⟩
  cases q : w.params.followText "set-order" with
  | true => exact .inl rfl
  | false => exact .inr rfl
def NsAt (P : Program) (w : World) (H : Hp) (a : Addr) (M : List NRow) : Prop := H a = some (SetFN P w a M) ∧ ∀ p ∈ M, NIs H p.2 (.ref p.1) ∧ p.2.depth ≤ 8
/-! ### the loop of set(v) -/
section
variable {P : Program} {w : World} {A : Around} {E : Value → Shared → Prop} {s : Shared}
/-- the set at S holds just the keys of the first i of ks, each by one of their tuples -/
structure Held (P : Program) (w : World) (h : Heap) (S : Addr) (ks : List NRow) (i : Nat) : Prop where
  ex : ∃ M, IsN P w S M h ∧ (∀ p ∈ M, p ∈ ks.take i) ∧ ∀ p ∈ ks.take i, p.2 ∈ M.map (·.2)
theorem fulls {S : Addr} {M : List NRow} (R : IsN P w S M s.heap) (hk : ∀ p ∈ M, (nestedKind P w).is s.heap p.2 p.1) : ∃ es ep t, Tups (nestedKind P w) s.heap S M es ep t := by
  obtain ⟨es, ep, t, q⟩ := R
  exact ⟨es, ep, t, q.obj, q.rows, q.tab, q.once, hk, q.led, q.room, q.few⟩
theorem Held.keep {h h' : Heap} {S : Addr} {ks : List NRow} {i : Nat} (x : Held P w h S ks i) (k : ∀ o, h.get? S = some o → h'.get? S = some o) : Held P w h' S ks i := let ⟨M, R, a, b⟩ := x.ex; ⟨M, R.keep k, a, b⟩
theorem loopN {I S : Addr} {fp wr : List Addr} {G : Array GenState → Array GenState → Prop} {ks : List NRow} {Pv : Nat → Value → Prop} {St : Nat → Shared → Prop} {R : Result → Shared → Prop}
    (hu : A.units + 20 < cLine) (W : WalksS P w A.in1 I fp wr G ks.length Pv St) (hSf : S ∉ fp) (hval : ∀ i v k, Pv i v → ks[i]? = some k → v = .ref k.1)
    (few : ∀ L : List NestedKey, L.Nodup → (∀ k ∈ L, k ∈ ks.map (·.2)) → L.length + 1 < 64) :
    ∀ (k i : Nat) (s : Shared), ks.length - i = k → i ≤ ks.length → St i s → Held P w s.heap S ks i → (∀ h' : Heap, (∀ b o, b ∉ S :: wr → s.heap.get? b = some o → h'.get? b = some o) → ∀ p ∈ ks, (nestedKind P w).is h' p.2 p.1) →
      (∀ s', Moved (S :: wr) G s s' → Held P w s'.heap S ks ks.length → R (.ok (.ret .none)) s') → codeAny (model P w) A (.builtin "set.update.loop" ⟨[.ref S, .ref I], []⟩) R s := by
  have hSw : S ∉ wr := fun h => hSf (W.sub _ h)
  have more : ∀ b ∈ wr, b ∈ S :: wr := fun b hb => List.mem_cons_of_mem _ hb
  intro k
  induction k with
  | zero =>
    intro i s hk hi hst hS hkp hR
    obtain rfl : i = ks.length := by omega
    refine codeAny_builtin PyProof.Rows.F.entry_set_update_loop ?_
    rw [Around.under_plainId PyProof.Rows.F.plain_set_update_loop _]
    show wpAny _ A.in1 (pyNext (.ref I) >>= _) _ _ s
    exact seqAny (W.done s _ _ hst fun s' hm => (show wpAny _ A.in1 (ret Value.none) _ _ s' from wpAny_pure (hR s' (hm.mono more) (hS.keep fun o ho => hm.heap S o hSw ho))))
  | succ k ih =>
    intro i s hk hi hst hS hkp hR
    have lt : i < ks.length := by omega
    have at_ : ks[i]? = some ks[i] := List.getElem?_eq_getElem lt
    refine codeAny_builtin PyProof.Rows.F.entry_set_update_loop ?_
    rw [Around.under_plainId PyProof.Rows.F.plain_set_update_loop _]
    show wpAny _ A.in1 (pyNext (.ref I) >>= _) _ _ s
    refine seqAny (W.item i s _ _ lt hst fun v s' hP hst' hm => ?_)
    obtain rfl := hval i v _ hP at_
    have hS' : Held P w s'.heap S ks i := hS.keep fun o ho => hm.heap S o hSw ho
    have kp' : ∀ h' : Heap, (∀ b o, b ∉ S :: wr → s'.heap.get? b = some o → h'.get? b = some o) → ∀ p ∈ ks, (nestedKind P w).is h' p.2 p.1 := fun h' q => hkp h' fun b o nb e => q b o nb (hm.heap b o (fun z => nb (more b z)) e)
    have hx := kp' s'.heap (fun _ _ _ e => e) _ (List.getElem_mem lt)
    obtain ⟨M, RM, in1, all1⟩ := hS'.ex
    obtain ⟨es, ep, t, RT⟩ := fulls RM fun p hp => kp' s'.heap (fun _ _ _ e => e) p (List.mem_of_mem_take (in1 p hp))
    have lM : M.length + 1 < 64 := by
      have := few (M.map (·.2)) RT.once fun x hx => by
        obtain ⟨p, hp, rfl⟩ := List.mem_map.mp hx
        exact List.mem_map.mpr ⟨p, List.mem_of_mem_take (in1 p hp), rfl⟩
      rwa [List.length_map] at this
    have hroom : (nestedKind P w).room A.in1 := by
      show A.in1.units + 8 < cLine
      rw [Around.in1_units]
      omega
    show wpAny _ A.in1 (holding [Value.ref ks[i].1] (setAdd S (Value.ref ks[i].1)) >>= _) _ _ s'
    refine seqAny (wpAny_holding ?_)
    unfold setAdd
    refine wpAny_holding (seqAny ((nestedKind P w).pyHash hroom hx ?_))
    refine put (s := { s' with toks := s'.toks + (nestedKind P w).draws ks[i].2 }) flat_nested RT hx hroom lM fun b h' M' es' ep' t' sb R' c1 c2 => ?_
    have tk : ks.take (i + 1) = ks.take i ++ [ks[i]] := by rw [List.take_add_one, at_]; rfl
    have hS2 : Held P w h' S ks (i + 1) := by
      refine ⟨M', ⟨es', ep', t', R'.obj, R'.rows, R'.tab, R'.once, R'.led, R'.room, R'.few⟩, fun p hp => ?_, fun p hp => ?_⟩
      · rw [tk]
        rcases Classical.em (ks[i].2 ∈ M.map (·.2)) with c | c
        · rw [c1 c] at hp; exact List.mem_append_left _ (in1 p hp)
        · rcases List.mem_cons.mp ((c2 c).mem_iff.mp hp) with z | z
          · exact List.mem_append_right _ (List.mem_singleton.mpr z)
          · exact List.mem_append_left _ (in1 p z)
      · rw [tk] at hp
        rcases Classical.em (ks[i].2 ∈ M.map (·.2)) with c | c
        · rw [c1 c]
          rcases List.mem_append.mp hp with z | z
          · exact all1 p z
          · rw [List.mem_singleton.mp z]; exact c
        · rw [((c2 c).map (·.2)).mem_iff, List.map_cons]
          rcases List.mem_append.mp hp with z | z
          · exact List.mem_cons_of_mem _ (all1 p z)
          · rw [List.mem_singleton.mp z]; exact List.mem_cons_self
    refine wpAny_pure ⟨plainId_quiet PyProof.Rows.F.plain_set_update_loop _, ih (i + 1) _ (by omega) lt (W.frame _ s' _ _ hst' (Nat.le_add_right _ _) fun b hb o e => ?_) hS2 (fun h2 q => kp' h2 fun b o nb e => q b o nb ((sb.2 b fun z => nb (z ▸ List.mem_cons_self)).trans e)) fun s'' hm'' hS'' => ?_⟩
    · exact (sb.2 b fun h => hSf (h ▸ hb)).trans e
    · refine hR s'' (Moved.trans W.gtrans ((hm.mono more).then_heap (Nat.le_add_right _ _) fun b o hb e => ?_) hm'') hS''
      exact (sb.2 b fun h => hb (h ▸ List.mem_cons_self)).trans e
set_option maxHeartbeats 3200000 in
theorem set_call_list {l : Addr} {items : List Value} {ks : List NRow} {Q : Value → Shared → Prop} (hh : A.handled = none) (hu : A.units + 25 < cLine) (hl : s.heap.IsList l items.toArray) (hi : items = ks.map fun p => Value.ref p.1) (few : ∀ L : List NestedKey, L.Nodup → (∀ k ∈ L, k ∈ ks.map (·.2)) → L.length + 1 < 64) (hkp : ∀ p ∈ ks, (nestedKind P w).is s.heap p.2 p.1)
    (h : ∀ (h' : Heap) (tk : Nat), Held P w h' s.heap.objs.size ks ks.length → (∀ b o, b < s.heap.objs.size → s.heap.get? b = some o → h'.get? b = some o) → Q (.ref s.heap.objs.size) { s with heap := h', toks := tk }) :
    wpAny (model P w) A (call (.type "set") [.ref l]) Q E s := by
  have ⟨c, tl, hmro⟩ := PySem.F.called_set.mro
  have made := PySem.F.called_set.made
  have sub := PySem.F.called_set.sub
  refine wpAny_call (codeAny_of_tree (show wpAny _ _ (callAny (.type "set") _) _ _ _ from wpAny_pure ⟨Code.quiet_builtin _ (by decide +kernel), codeAny_builtin PySem.F.entry_type_call ?_⟩))
  rw [Around.under_plain (weight_type_call_type "set" [.ref l] []) rfl]
  have u1 := PySem.F.called_set.notType
  have u2 := PySem.F.called_set.canCreate
  have u3 := PySem.F.typeCall_set_1 (.ref l)
  repeat (any_goals (first | assumption | wp_step))
  have R0 : IsN P w s.heap.objs.size [] (s.heap.push { cls := .type "set", dict := none, data := .set #[] 0 (.fresh 0 0 (!w.params.followText "set-order")) }) := freshN (P := P) (w := w) s.heap
  have made0 := KnS.new_set (P := P) (w := w) (A := A.in1) (s := s) (.ref l) (E := E) (Q₁ := fun obj s₁ => obj = .ref s.heap.objs.size ∧ s₁ = { s with heap := s.heap.push { cls := .type "set", dict := none, data := .set #[] 0 (.fresh 0 0 (!w.params.followText "set-order")) } }) ⟨rfl, rfl⟩
  generalize (!w.params.followText "set-order") = led at made0 R0
  refine codeAny_mono made0 fun r s₁ hr => ?_
  match r, hr with
  | .error e, hr => exact hr
  | .ok .next, hr => exact hr.elim
  | .ok .brk, hr => exact hr.elim
  | .ok .cont, hr => exact hr.elim
  | .ok (.ret obj), hr =>
    obtain ⟨rfl, rfl⟩ := hr
    have hS : (s.heap.push { cls := .type "set", dict := none, data := .set #[] 0 (.fresh 0 0 led) }).get? s.heap.objs.size = some { cls := .type "set", dict := none, data := .set #[] 0 (.fresh 0 0 led) } := Heap.get?_push_size _ rfl
    have hT : Shared.TypeIs { s with heap := s.heap.push { cls := .type "set", dict := none, data := .set #[] 0 (.fresh 0 0 led) } } (.ref s.heap.objs.size) "set" := ⟨_, hS, rfl⟩
    have i1 := PySem.F.called_set.init.lookup
    have i2 := PySem.F.called_set.init.bind (.ref s.heap.objs.size)
    repeat (any_goals (first | assumption | wp_step))
    refine codeAny_mono (codeAny_call_builtin (R := wants (fun r s₂ => r = .none ∧ ∃ h' tk, s₂ = { s with heap := h', toks := tk } ∧ Held P w h' s.heap.objs.size ks ks.length ∧ ∀ b o, b < s.heap.objs.size → s.heap.get? b = some o → h'.get? b = some o) E)
      PySem.F.called_set.init.plain PySem.F.entry_set_init (check_set_init_1 hT ?_)) fun r₂ s₂ hr₂ => ?_
    · have hlS : l < s.heap.objs.size := let ⟨o, e, _⟩ := hl; Heap.lt_size e
      have hl1 : (s.heap.push { cls := .type "set", dict := none, data := .set #[] 0 (.fresh 0 0 led) }).IsList l items.toArray := hl.at fun o e => Heap.get?_push_of_some _ e
      obtain ⟨⟨ocls, odict, odata, oslots⟩, hol, hcl, nl, hdl⟩ := hl1
      simp only at hcl hdl
      subst hcl hdl
      have n1 := PySem.F.sub_list_set
      have n2 := PySem.F.sub_list_frozenset
      have n3 : (Value.type "list" == Value.type "dict") = false := by decide
      unfold Builtin.«set.__init__» noKeywords Builtin.Frozenset.updateFrom
      generalize hPI : pyIter = PI
      wp_walk
      subst hPI
      have hl2 : (s.heap.push { cls := .type "set", dict := none, data := .set #[] 0 (.fresh 0 0 led) }).IsList l items.toArray := ⟨_, hol, rfl, nl, rfl⟩
      refine wpAny_pyIter_list hl2 ?_
      refine wpAny_bind (wpAny_runValue ?_)
      have zz : (s.heap.push { cls := .type "set", dict := none, data := .set #[] 0 (.fresh 0 0 led) }).objs.size = s.heap.objs.size + 1 := Heap.size_push ..
      have hneI : l ≠ (s.heap.push { cls := .type "set", dict := none, data := .set #[] 0 (.fresh 0 0 led) }).objs.size := by rw [zz]; exact Nat.ne_of_lt (Nat.lt_succ_of_lt hlS)
      have len : ks.length = items.toArray.size := by rw [hi, List.size_toArray, List.length_map]
      have W := (Walks.list (prog := P) (w := w) (A := A.in1.in1.in1) (by simpa using hh) (s.heap.push { cls := .type "set", dict := none, data := .set #[] 0 (.fresh 0 0 led) }).objs.size l hneI items.toArray).toS
      rw [← len] at W
      have u3' : A.in1.in1.units + 20 < cLine := by
        rw [Around.in1_units, Around.in1_units]
        omega
      refine loopN u3' W (fun z => ?_) (fun i v k hv hki => ?_) few (ks.length - 0) 0 _ rfl (Nat.zero_le _) ⟨⟨_, Heap.get?_push_size _ rfl, rfl, rfl⟩, hl2.at fun o e => Heap.get?_push_of_some _ e⟩ ?_ (fun h2 hq p hp => ?_) fun s' hm hS' => ?_
      · rcases List.mem_cons.mp z with z | z
        · rw [zz] at z
          exact Nat.ne_of_lt (Nat.lt_succ_self _) z
        · exact Nat.ne_of_lt hlS (List.mem_singleton.mp z).symm
      · rw [List.getElem?_toArray, hi, List.getElem?_map, hki] at hv
        exact (Option.some.inj hv).symm
      · exact ⟨[], R0.keep fun o e => Heap.get?_push_of_some _ e, (fun p hp => nomatch hp), fun p hp => nomatch hp⟩
      · refine flat_nested.stays.stays (fun b o vs n e d => hq b o (fun z => ?_) (Heap.get?_push_of_some _ (Heap.get?_push_of_some _ e))) (hkp p hp)
        have hb := Heap.lt_size e
        rcases List.mem_cons.mp z with z | z
        · exact Nat.ne_of_lt hb z
        · have e1 := List.mem_singleton.mp z
          rw [zz] at e1
          exact Nat.ne_of_lt (Nat.lt_succ_of_lt hb) e1
      · obtain ⟨h', g', d', tk', os'⟩ := s'
        obtain rfl : g' = s.gens := hm.gens
        obtain rfl : d' = s.drawn := hm.drawn
        obtain rfl : os' = s.os := hm.os
        refine wpAny_pure (show wpAny _ _ (ret Value.none) _ _ _ from wpAny_pure ⟨rfl, h', tk', rfl, hS', fun b o hb e => ?_⟩)
        refine hm.heap b o (fun z => ?_) (Heap.get?_push_of_some _ (Heap.get?_push_of_some _ e))
        rcases List.mem_cons.mp z with z | z
        · exact Nat.ne_of_lt hb z
        · have e1 := List.mem_singleton.mp z
          rw [zz] at e1
          exact Nat.ne_of_lt (Nat.lt_succ_of_lt hb) e1
    · match r₂, hr₂ with
      | .error e, hr₂ => exact hr₂
      | .ok .next, hr₂ => exact hr₂.elim
      | .ok .brk, hr₂ => exact hr₂.elim
      | .ok .cont, hr₂ => exact hr₂.elim
      | .ok (.ret r), hr₂ =>
        obtain ⟨rfl, h', tk, rfl, hS', hk'⟩ := hr₂
        repeat (any_goals (first | assumption | wp_step))
        exact h _ _ hS' hk'
end
end KnH

set_option Elab.async false
set_option linter.all false
set_option maxRecDepth 100000
set_option maxHeartbeats 4000000
/-! Rules: set(a list of nested tuples), sorted(a set of rows). -/
namespace KnH
open PySem PySem.Spec PyProof.Rows L2
open PySem renaming wpAny_bind → seqAny
open KnN (NIs NAll nis_at)
/-! ### the rules -/
section
variable {X : Cx} {pins : List (Addr × Obj)} {σ : L2.St} {H : Hp} {s : Shared} {a : Addr} {M : List NRow}
theorem key_is {P : Program} {w : World} {H : Hp} {h : Heap} {k : NestedKey} {b : Addr} (ok : HOk P w H h) (x : NIs H k (.ref b)) (dp : k.depth ≤ 8) : (nestedKind P w).is h k b := ⟨nis_at ok _ _ _ x rfl, dp⟩
theorem refsN : ∀ {ks : List NRow} {us : List Value}, Vals (ks.map fun p => V.ref p.1) us → us = ks.map fun p => Value.ref p.1
  | [], _, .nil => rfl
  | p :: ks, _, .cons r t => by
    cases r
    rw [refsN t] <;> rfl
/-- set(xs), xs a list of nested tuples -/
def rSetOfN (K : PySem.W.Frag) (P : Program) (w : World) : List V → Hp → VK → Prop := fun vs H Q => ∃ (a : Addr) (ks : List NRow), vs = [.ref a] ∧ SqL K H a (ks.map fun p => V.ref p.1) ∧ (∀ p ∈ ks, NIs H p.2 (.ref p.1) ∧ p.2.depth ≤ 8) ∧ (∀ L : List NestedKey, L.Nodup → (∀ k ∈ L, k ∈ ks.map (·.2)) → L.length + 1 < 64) ∧
  ∀ S M, H S = none → NsAt P w (upd H S (SetFN P w S M)) S M → (∀ p ∈ M, p ∈ ks) → (∀ p ∈ ks, p.2 ∈ M.map (·.2)) → (M.map (·.2)).Nodup → Q (.ref S) (upd H S (SetFN P w S M))
theorem nis_upd {P : Program} {w : World} {H : Hp} {S : Addr} {M : List NRow} (n : H S = none) {k : NestedKey} {v : V} (h : NIs H k v) : NIs (upd H S (SetFN P w S M)) k v := NIs.ext (fun b xs e => (upd_ne fun z => by rw [z, n] at e; cases e).trans e) _ _ h
theorem cr_setOfN (hc : X.calm = true) (hu : X.A.units + 65 < cLine) : CallR X (.type "set") (rSetOfN X.K X.prog X.w) := by
  intro pins s σ H vs us Q I r h
  obtain ⟨a, ks, rfl, hs, hk, few, q⟩ := h
  rw [Vals.ref1 r]
  obtain ⟨its, rv, pl, hz⟩ := I.list hs
  refine set_call_list (I.ok.hd hc) (by omega) pl.isList (refsN rv) few (fun p hp => key_is I.hok (hk p hp).1 (hk p hp).2) fun h' tk R k => ?_
  obtain ⟨M, RM, in1, all1⟩ := R.ex
  rw [List.take_length] at in1 all1
  have hn : H s.heap.objs.size = none := I.hok.fresh (Nat.le_refl _)
  have J : Inv X pins σ (upd H s.heap.objs.size (SetFN X.prog X.w s.heap.objs.size M)) { s with heap := h', toks := tk } :=
    I.laid (t' := tk) (fun b o e => k b o (Heap.lt_size e) e) (Nat.le_refl _) (partN_ok RM)
  have once : (M.map (·.2)).Nodup := let ⟨_, _, _, z⟩ := RM; z.once
  exact ⟨.ref _, _, J, rfl, q _ M hn ⟨upd_same, fun p hp => ⟨nis_upd hn (hk p (in1 p hp)).1, (hk p (in1 p hp)).2⟩⟩ in1 all1 once⟩
/-- sorted(found), found a set of rows -/
def rSortedSN (P : Program) (w : World) : List V → Hp → VK → Prop := fun vs H Q => ∃ (a : Addr) (bs : List (Addr × KnA.Dat)), vs = [.ref a] ∧ (∃ M, H a = some (SetFN P w a M) ∧ M.map (·.1) = bs.map (·.1)) ∧ (∀ b ∈ bs, KnA.RowAt H (.ref b.1) b.2.1 b.2.2) ∧
  ∀ (bs' : List (V × KnA.Dat)) (p : Addr), bs'.Perm (bs.map fun b => (V.ref b.1, b.2)) → (bs'.map (·.2)).Pairwise (fun p q => KnA.rowLe p q = true) → H p = none → Q (.ref p) (upd H p (.lst (bs'.map (·.1))))
theorem perm_up {α β : Type} {f : α → β} {a b : List β} (h : a.Perm b) : ∀ ps : List α, ps.map f = b → ∃ qs : List α, qs.Perm ps ∧ qs.map f = a := by
  induction h with
  | nil => intro ps e; exact ⟨[], by rw [List.map_eq_nil_iff.mp e], rfl⟩
  | cons x _ ih =>
    intro ps e
    match ps, e with
    | p :: r, e =>
      obtain ⟨e1, e2⟩ := List.cons.inj (show f p :: r.map f = _ from e)
      obtain ⟨qs, h1, h2⟩ := ih r e2
      exact ⟨p :: qs, h1.cons p, by rw [List.map_cons, e1, h2]⟩
  | swap x y l =>
    intro ps e
    match ps, e with
    | p1 :: p2 :: r, e =>
      obtain ⟨e1, e⟩ := List.cons.inj (show f p1 :: f p2 :: r.map f = _ from e)
      obtain ⟨e2, e3⟩ := List.cons.inj e
      exact ⟨p2 :: p1 :: r, List.Perm.swap p1 p2 r, by rw [List.map_cons, List.map_cons, e1, e2, e3]⟩
  | trans _ _ ih1 ih2 =>
    intro ps e
    obtain ⟨q2, h1, h2⟩ := ih2 ps e
    obtain ⟨q1, h3, h4⟩ := ih1 q2 h2
    exact ⟨q1, h3.trans h1, h4⟩
theorem vals_refs : ∀ (bs : List (Addr × KnA.Dat)), Vals ((bs.map fun b => (V.ref b.1, b.2)).map (·.1)) (bs.map fun b => Value.ref b.1)
  | [] => .nil
  | b :: bs => .cons rfl (vals_refs bs)
theorem cr_sortedSN (hc : X.calm = true) (hu : X.A.units + 65 < cLine) : CallR X (.builtin "sorted") (rSortedSN X.prog X.w) := by
  intro pins s σ H vs us Q I r h
  obtain ⟨a, bs, rfl, ⟨M, ha, eM⟩, hb, q⟩ := h
  rw [Vals.ref1 r]
  obtain ⟨es, ep, t, ⟨o, ho, hx, hd⟩, hr, ht, _, hl, hm, hf⟩ := (show IsN X.prog X.w a M s.heap from (I.hok a _ ha).1)
  have n := len_of hr
  have fits : t.fits es.size = true := by
    have z1 : t.place.size = M.length := ht.sz.trans (List.length_map _)
    have z2 : t.place.size = es.size := z1.trans n.symm
    exact fits_of ht.dm z2 (by omega)
  refine Calls.call_function_entry kind_sorted plain_sorted entry_sorted (args_sorted1 _) ?_
  unfold Builtin.«sorted»
  refine wpAny_bind (m := checkCount "sorted" 1 1 _) (wpAny_pure (wpAny_bind (collect_set (A := X.A.in1) (I.ok.hd hc) ⟨o, ho, hx.1, hd⟩ fits (by rw [n]; exact Nat.lt_of_lt_of_le hf (by decide)) ht.ris hl fun s1 vs k1 hz g1 o1 pv => ?_)))
  have pv' : vs.Perm (bs.map fun b => Value.ref b.1) := by
    rw [hr] at pv
    unfold ents at pv
    rw [List.map_map] at pv
    have e : M.map ((fun x : Int × Value => x.2) ∘ fun p : NRow => ((nestedKind X.prog X.w).hash p.2, Value.ref p.1)) = bs.map fun b => Value.ref b.1 := by
      have z := congrArg (List.map Value.ref) eM
      rw [List.map_map, List.map_map] at z
      exact z
    rwa [e] at pv
  obtain ⟨bq, pq, rfl⟩ := perm_up pv' bs rfl
  have hsz : (bq.map fun b => Value.ref b.1).length ≤ sizeLine := by
    have l1 := congrArg List.length eM
    rw [List.length_map, List.length_map] at l1
    rw [List.length_map, pq.length_eq, ← l1, sizeLine_eq]
    omega
  have rows1 : ∀ (h' : Heap), (∀ b o, s.heap.get? b = some o → h'.get? b = some o) → PySem.W.EachIs (fun v (b : V × KnA.Dat) => RelV b.1 v) (bq.map fun b => Value.ref b.1) (bq.map fun b => (V.ref b.1, b.2)) ∧ PySem.W.EachIs (fun v (b : V × KnA.Dat) => Reads h' v (KnA.rowD b.2) []) (bq.map fun b => Value.ref b.1) (bq.map fun b => (V.ref b.1, b.2)) := fun h' k => by
    obtain ⟨x, y⟩ := KnA.each_rowsB I.hok (vals_refs bq) fun b hb' => by
      obtain ⟨c, hc', rfl⟩ := List.mem_map.mp hb'
      exact hb c (pq.mem_iff.mp hc')
    exact ⟨x, y.mono fun _ _ r => PyProof.Rows.Reads.keeps (fun b o e => k b o e) r⟩
  refine seqAny (wpAny_newList ?_ hsz)
  have hoL : (s1.heap.push (seqObj "list" (bq.map fun b => Value.ref b.1).toArray 0)).get? s1.heap.objs.size = some (seqObj "list" (bq.map fun b => Value.ref b.1).toArray 0) := Heap.get?_push_size _ rfl
  obtain ⟨r1, r2⟩ := rows1 (s1.heap.push (seqObj "list" (bq.map fun b => Value.ref b.1).toArray 0)) fun b o e => Heap.get?_push_of_some _ (k1 b o e)
  refine seqAny (wpAny_holding (PySem.W.list_sort_data (s := { s1 with heap := s1.heap.push (seqObj "list" (bq.map fun b => Value.ref b.1).toArray 0) }) (enc := fun b : V × KnA.Dat => KnA.rowD b.2) (R := fun v b => RelV b.1 v) hoL r1 (r2.mono fun _ _ r => ⟨[], r, fun z => nomatch z⟩) (PySem.W.AllAlike.of fun b b' => KnA.alike_rows _ _) (PySem.W.Sortable.tuples fun b => ⟨_, _, rfl⟩) (by rw [List.length_map]; rw [List.length_map] at hsz; exact hsz) (fun b _ => ?_) fun out ol oe => ?_))
  · show X.A.in1.units + 1 + (max 0 (max (PyData.depthAll (b.2.2.map PyData.str) + 1) 0) + 1) < cLine
    rw [KnA.depth_texts, Around.in1_units]
    show X.A.units + 1 + 1 + 2 < cLine
    omega
  · have ov := KnA.each_vals oe
    have pm := List.mergeSort_perm (bq.map fun b => (V.ref b.1, b.2)) (PySem.W.dataLe false fun b : V × KnA.Dat => KnA.rowD b.2)
    have so := KnA.sort_pair (bq.map fun b => (V.ref b.1, b.2))
    generalize (bq.map fun b => (V.ref b.1, b.2)).mergeSort (PySem.W.dataLe false fun b : V × KnA.Dat => KnA.rowD b.2) = bs' at ov pm so
    obtain ⟨c, hc'⟩ := sortedHeap_at (vs := bq.map fun b => Value.ref b.1) (out := out.toArray) hoL
    have hn : H s1.heap.objs.size = none := I.hok.fresh hz
    have keep : ∀ b u, s.heap.get? b = some u → (sortedHeap (s1.heap.push (seqObj "list" (bq.map fun b => Value.ref b.1).toArray 0)) s1.heap.objs.size (bq.map fun b => Value.ref b.1) out.toArray).get? b = some u := fun b u e => by
      have q1 := k1 b u e
      have hlt := Heap.lt_size q1
      refine (sortedHeap_old (Nat.ne_of_lt hlt) ?_).trans (Heap.get?_push_of_some _ q1)
      rw [size_push']
      exact Nat.lt_succ_of_lt hlt
    have hlen : (bs'.map (·.1)).length ≤ sizeLine := by
      rw [List.length_map, pm.length_eq, List.length_map]
      rw [List.length_map] at hsz
      exact hsz
    refine (show wpAny _ _ (ret (Value.ref s1.heap.objs.size)) _ _ _ from wpAny_pure ⟨_, rfl, .ref s1.heap.objs.size, upd H s1.heap.objs.size (.lst (bs'.map (·.1))), ?_, rfl, q bs' _ (pm.trans (pq.map _)) so hn⟩)
    refine I.call' (ch := []) o1 (Un.laid keep hz hn) (I.hok.laid keep hz ⟨hlen, out, c, ov, hc'⟩) ?_ (fun _ z => nomatch z)
    have g2 := I.bare
    rw [← g1] at g2
    exact g2
end
end KnH

set_option Elab.async false
set_option linter.all false
set_option maxRecDepth 100000
set_option maxHeartbeats 4000000
/-! set(a tuple of nested tuples). -/
namespace KnH
open PySem PySem.Spec PyProof.Rows L2
open PySem renaming wpAny_bind → seqAny
open KnN (NIs NAll nis_at)
section
variable {P : Program} {w : World} {A : Around} {E : Value → Shared → Prop} {s : Shared}
set_option maxHeartbeats 3200000 in
theorem set_call_tuple {l : Addr} {items : List Value} {ks : List NRow} {Q : Value → Shared → Prop} (hh : A.handled = none) (hu : A.units + 25 < cLine) (hl : s.heap.IsTuple l items.toArray) (hi : items = ks.map fun p => Value.ref p.1) (few : ∀ L : List NestedKey, L.Nodup → (∀ k ∈ L, k ∈ ks.map (·.2)) → L.length + 1 < 64) (hkp : ∀ p ∈ ks, (nestedKind P w).is s.heap p.2 p.1)
    (h : ∀ (h' : Heap) (tk : Nat), Held P w h' s.heap.objs.size ks ks.length → (∀ b o, b < s.heap.objs.size → s.heap.get? b = some o → h'.get? b = some o) → Q (.ref s.heap.objs.size) { s with heap := h', toks := tk }) :
    wpAny (model P w) A (call (.type "set") [.ref l]) Q E s := by
  have ⟨c, tl, hmro⟩ := PySem.F.called_set.mro
  have made := PySem.F.called_set.made
  have sub := PySem.F.called_set.sub
  refine wpAny_call (codeAny_of_tree (show wpAny _ _ (callAny (.type "set") _) _ _ _ from wpAny_pure ⟨Code.quiet_builtin _ (by decide +kernel), codeAny_builtin PySem.F.entry_type_call ?_⟩))
  rw [Around.under_plain (weight_type_call_type "set" [.ref l] []) rfl]
  have u1 := PySem.F.called_set.notType
  have u2 := PySem.F.called_set.canCreate
  have u3 := PySem.F.typeCall_set_1 (.ref l)
  repeat (any_goals (first | assumption | wp_step))
  have R0 : IsN P w s.heap.objs.size [] (s.heap.push { cls := .type "set", dict := none, data := .set #[] 0 (.fresh 0 0 (!w.params.followText "set-order")) }) := freshN (P := P) (w := w) s.heap
  have made0 := KnS.new_set (P := P) (w := w) (A := A.in1) (s := s) (.ref l) (E := E) (Q₁ := fun obj s₁ => obj = .ref s.heap.objs.size ∧ s₁ = { s with heap := s.heap.push { cls := .type "set", dict := none, data := .set #[] 0 (.fresh 0 0 (!w.params.followText "set-order")) } }) ⟨rfl, rfl⟩
  generalize (!w.params.followText "set-order") = led at made0 R0
  refine codeAny_mono made0 fun r s₁ hr => ?_
  match r, hr with
  | .error e, hr => exact hr
  | .ok .next, hr => exact hr.elim
  | .ok .brk, hr => exact hr.elim
  | .ok .cont, hr => exact hr.elim
  | .ok (.ret obj), hr =>
    obtain ⟨rfl, rfl⟩ := hr
    have hS : (s.heap.push { cls := .type "set", dict := none, data := .set #[] 0 (.fresh 0 0 led) }).get? s.heap.objs.size = some { cls := .type "set", dict := none, data := .set #[] 0 (.fresh 0 0 led) } := Heap.get?_push_size _ rfl
    have hT : Shared.TypeIs { s with heap := s.heap.push { cls := .type "set", dict := none, data := .set #[] 0 (.fresh 0 0 led) } } (.ref s.heap.objs.size) "set" := ⟨_, hS, rfl⟩
    have i1 := PySem.F.called_set.init.lookup
    have i2 := PySem.F.called_set.init.bind (.ref s.heap.objs.size)
    repeat (any_goals (first | assumption | wp_step))
    refine codeAny_mono (codeAny_call_builtin (R := wants (fun r s₂ => r = .none ∧ ∃ h' tk, s₂ = { s with heap := h', toks := tk } ∧ Held P w h' s.heap.objs.size ks ks.length ∧ ∀ b o, b < s.heap.objs.size → s.heap.get? b = some o → h'.get? b = some o) E)
      PySem.F.called_set.init.plain PySem.F.entry_set_init (check_set_init_1 hT ?_)) fun r₂ s₂ hr₂ => ?_
    · have hlS : l < s.heap.objs.size := let ⟨o, e, _⟩ := hl; Heap.lt_size e
      have hl1 : (s.heap.push { cls := .type "set", dict := none, data := .set #[] 0 (.fresh 0 0 led) }).IsTuple l items.toArray := hl.at fun o e => Heap.get?_push_of_some _ e
      obtain ⟨⟨ocls, odict, odata, oslots⟩, hol, hcl, nl, hdl⟩ := hl1
      simp only at hcl hdl
      subst hcl hdl
      have n1 := PySem.F.sub_tuple_set
      have n2 := PySem.F.sub_tuple_frozenset
      have n3 : (Value.type "tuple" == Value.type "dict") = false := by decide
      unfold Builtin.«set.__init__» noKeywords Builtin.Frozenset.updateFrom
      generalize hPI : pyIter = PI
      wp_walk
      subst hPI
      have hl2 : (s.heap.push { cls := .type "set", dict := none, data := .set #[] 0 (.fresh 0 0 led) }).IsTuple l items.toArray := ⟨_, hol, rfl, nl, rfl⟩
      refine wpAny_pyIter_tuple hl2 ?_
      refine wpAny_bind (wpAny_runValue ?_)
      have zz : (s.heap.push { cls := .type "set", dict := none, data := .set #[] 0 (.fresh 0 0 led) }).objs.size = s.heap.objs.size + 1 := Heap.size_push ..
      have hneI : l ≠ (s.heap.push { cls := .type "set", dict := none, data := .set #[] 0 (.fresh 0 0 led) }).objs.size := by rw [zz]; exact Nat.ne_of_lt (Nat.lt_succ_of_lt hlS)
      have len : ks.length = items.toArray.size := by rw [hi, List.size_toArray, List.length_map]
      have W := (Walks.tuple (prog := P) (w := w) (A := A.in1.in1.in1) (by simpa using hh) (s.heap.push { cls := .type "set", dict := none, data := .set #[] 0 (.fresh 0 0 led) }).objs.size l hneI items.toArray).toS
      rw [← len] at W
      have u3' : A.in1.in1.units + 20 < cLine := by
        rw [Around.in1_units, Around.in1_units]
        omega
      refine loopN u3' W (fun z => ?_) (fun i v k hv hki => ?_) few (ks.length - 0) 0 _ rfl (Nat.zero_le _) ⟨⟨_, Heap.get?_push_size _ rfl, rfl, rfl⟩, hl2.at fun o e => Heap.get?_push_of_some _ e⟩ ?_ (fun h2 hq p hp => ?_) fun s' hm hS' => ?_
      · rcases List.mem_cons.mp z with z | z
        · rw [zz] at z
          exact Nat.ne_of_lt (Nat.lt_succ_self _) z
        · exact Nat.ne_of_lt hlS (List.mem_singleton.mp z).symm
      · rw [List.getElem?_toArray, hi, List.getElem?_map, hki] at hv
        exact (Option.some.inj hv).symm
      · exact ⟨[], R0.keep fun o e => Heap.get?_push_of_some _ e, (fun p hp => nomatch hp), fun p hp => nomatch hp⟩
      · refine flat_nested.stays.stays (fun b o vs n e d => hq b o (fun z => ?_) (Heap.get?_push_of_some _ (Heap.get?_push_of_some _ e))) (hkp p hp)
        have hb := Heap.lt_size e
        rcases List.mem_cons.mp z with z | z
        · exact Nat.ne_of_lt hb z
        · have e1 := List.mem_singleton.mp z
          rw [zz] at e1
          exact Nat.ne_of_lt (Nat.lt_succ_of_lt hb) e1
      · obtain ⟨h', g', d', tk', os'⟩ := s'
        obtain rfl : g' = s.gens := hm.gens
        obtain rfl : d' = s.drawn := hm.drawn
        obtain rfl : os' = s.os := hm.os
        refine wpAny_pure (show wpAny _ _ (ret Value.none) _ _ _ from wpAny_pure ⟨rfl, h', tk', rfl, hS', fun b o hb e => ?_⟩)
        refine hm.heap b o (fun z => ?_) (Heap.get?_push_of_some _ (Heap.get?_push_of_some _ e))
        rcases List.mem_cons.mp z with z | z
        · exact Nat.ne_of_lt hb z
        · have e1 := List.mem_singleton.mp z
          rw [zz] at e1
          exact Nat.ne_of_lt (Nat.lt_succ_of_lt hb) e1
    · match r₂, hr₂ with
      | .error e, hr₂ => exact hr₂
      | .ok .next, hr₂ => exact hr₂.elim
      | .ok .brk, hr₂ => exact hr₂.elim
      | .ok .cont, hr₂ => exact hr₂.elim
      | .ok (.ret r), hr₂ =>
        obtain ⟨rfl, h', tk, rfl, hS', hk'⟩ := hr₂
        repeat (any_goals (first | assumption | wp_step))
        exact h _ _ hS' hk'
end
section
variable {X : Cx}
/-- set(xs), xs a tuple of nested tuples -/
def rSetOfNT (K : PySem.W.Frag) (P : Program) (w : World) : List V → Hp → VK → Prop := fun vs H Q => ∃ (a : Addr) (ks : List NRow), vs = [.ref a] ∧ SqT K H a (ks.map fun p => V.ref p.1) ∧ (∀ p ∈ ks, NIs H p.2 (.ref p.1) ∧ p.2.depth ≤ 8) ∧ (∀ L : List NestedKey, L.Nodup → (∀ k ∈ L, k ∈ ks.map (·.2)) → L.length + 1 < 64) ∧
  ∀ S M, H S = none → NsAt P w (upd H S (SetFN P w S M)) S M → (∀ p ∈ M, p ∈ ks) → (∀ p ∈ ks, p.2 ∈ M.map (·.2)) → (M.map (·.2)).Nodup → Q (.ref S) (upd H S (SetFN P w S M))
theorem cr_setOfNT (hc : X.calm = true) (hu : X.A.units + 65 < cLine) : CallR X (.type "set") (rSetOfNT X.K X.prog X.w) := by
  intro pins s σ H vs us Q I r h
  obtain ⟨a, ks, rfl, hs, hk, few, q⟩ := h
  rw [Vals.ref1 r]
  obtain ⟨its, rv, pl, hz⟩ := I.tuple hs
  refine set_call_tuple (I.ok.hd hc) (by omega) pl (refsN rv) few (fun p hp => key_is I.hok (hk p hp).1 (hk p hp).2) fun h' tk R k => ?_
  obtain ⟨M, RM, in1, all1⟩ := R.ex
  rw [List.take_length] at in1 all1
  have hn : H s.heap.objs.size = none := I.hok.fresh (Nat.le_refl _)
  have J : Inv X pins σ (upd H s.heap.objs.size (SetFN X.prog X.w s.heap.objs.size M)) { s with heap := h', toks := tk } :=
    I.laid (t' := tk) (fun b o e => k b o (Heap.lt_size e) e) (Nat.le_refl _) (partN_ok RM)
  have once : (M.map (·.2)).Nodup := let ⟨_, _, _, z⟩ := RM; z.once
  exact ⟨.ref _, _, J, rfl, q _ M hn ⟨upd_same, fun p hp => ⟨nis_upd hn (hk p (in1 p hp)).1, (hk p (in1 p hp)).2⟩⟩ in1 all1 once⟩
end
end KnH

set_option Elab.async false
set_option linter.all false
set_option maxRecDepth 100000
/-! A dict that an expression makes, locked as soon as it is there; a try whose body raises nothing. -/
namespace KnF
open PySem PySem.Spec PyProof.Rows L2
variable {X : Cx}
def tFrz (te : TE) : TE := fun σ H Q => te σ H fun x H1 => ∃ d u, x = .ref d ∧ H1 d = some u ∧ Mut (some u) ∧ ∀ od, Q x (upd H1 d (.frz od u))
theorem pe_frz {e : Expr} {te : TE} (he : PE X e te) : PE X e (tFrz te) := by
  refine ⟨fun pins s σ H Q I h => ?_⟩
  refine thn (he.run pins s σ H _ I h) fun v s1 ⟨x, H1, I1, r1, d, u, ex, hd, mu, q⟩ => ?_
  subst ex
  obtain ⟨od, I2⟩ := I1.lock hd mu
  exact ⟨.ref d, _, I2, r1, q od⟩
theorem pi_itemsF {e : Expr} {td : TE} {apos cpos tpos : Pos} {elts : List Expr} {kk : Nat} (he : PE X e td) (hbase : attributeBase e "items" X.env (eval e X.env) = eval e X.env := by rfl) (hline : (apos.endLine == cpos.line) = true := by rfl) :
    PI X (.Tuple elts kk tpos) (.Call (.Attribute e "items" apos) [] [] cpos) (iItems (tFrz td)) := pi_items (pe_frz he) hbase hline
theorem ps_tryC {body : List Stmt} {h₀ : ExceptHandler} {hds : List ExceptHandler} {pos : Pos} {tb : TS} (hb : ∀ (pn : List (Addr × Obj)) (xe : Value → Shared → Prop), PassesOwn (model X.prog X.w) X.A X.env xe → PSs (X.tr pn xe) body tb) : PS X (.Try body (h₀ :: hds) [] [] pos) tb := by
  refine ⟨fun pins s0 σ0 H0 D I0 h => ?_⟩
  have okX := I0.ok
  refine wpAny_Try_except (wpAny_mono ((hb (X.pn ++ pins) (fun _ _ => False) ?_).run [] s0 σ0 H0 D (I0.toTry _) h) (fun fl s1 fin => ?_) (fun ex s1 hx => False.elim hx))
  · exact PassesOwn.never
  · cases fl with
    | next => obtain ⟨τ, G, J, q⟩ := fin; exact wpAny_execs_nil ⟨τ, G, J.ofTry okX, q⟩
    | brk => obtain ⟨τ, G, J, q⟩ := fin; exact ⟨τ, G, J.ofTry okX, q⟩
    | cont => obtain ⟨τ, G, J, q⟩ := fin; exact ⟨τ, G, J.ofTry okX, q⟩
    | ret u => obtain ⟨v, τ, G, J, r, q⟩ := fin; exact ⟨v, τ, G, J.ofTry okX, r, q⟩
def tJoin (ts : List TE) : TE := fun σ H Q => tJs ts Str.empty σ H fun out H1 => Q (.str out) H1
theorem pe_jn {v1 v2 : Expr} {rest : List Expr} {ts : List TE} {pos : Pos} (h : PJ X (v1 :: v2 :: rest) ts) : PE X (.JoinedStr (v1 :: v2 :: rest) pos) (tJoin ts) := pe_joined h
end KnF

set_option Elab.async false
set_option linter.all false
set_option maxRecDepth 100000
set_option maxHeartbeats 4000000
namespace Kn
open PySem PySem.Spec PyProof.Rows L2
open C8 (Cal pe_c pe_gc Mak pe_mk)
def topS (i : Nat) : Stmt := PySem.Challenge.pw_knownlate_k22_refused_sights.main.body.getD i (.Pass ⟨0, 0, 0, 0⟩)
abbrev s__law_mix : Stmt := topS 48
theorem sc__law_mix : FnScope ["_law_cell_here", "_law_k", "_law_number"] ["_law_cell_here", "_law_k"] (defScope s__law_mix) := ⟨rfl, rfl, rfl, by decide +kernel, rfl, by decide +kernel, by decide +kernel⟩
abbrev s__law_row : Stmt := topS 50
theorem sc__law_row : FnScope ["_law_cell_here", "_law_sizes", "_law_row_here", "_law_rest", "_law_k"] ["_law_cell_here", "_law_sizes"] (defScope s__law_row) := ⟨rfl, rfl, rfl, by decide +kernel, rfl, by decide +kernel, by decide +kernel⟩
abbrev s__law_names : Stmt := topS 51
theorem sc__law_names : FnScope ["_law_cell_here", "_law_many", "_law_row_here", "_law_names_here", "_law_k", "_law_own", "_law_text", "_law_at", "_law_letter", "_law_digit"] ["_law_cell_here", "_law_many"] (defScope s__law_names) := ⟨rfl, rfl, rfl, by decide +kernel, rfl, by decide +kernel, by decide +kernel⟩
abbrev s__law_cell : Stmt := topS 49
theorem sc__law_cell : FnScope ["_law_script", "_law_k"] ["_law_script", "_law_k"] (defScope s__law_cell) := ⟨rfl, rfl, rfl, by decide +kernel, rfl, by decide +kernel, by decide +kernel⟩
abbrev s__law_machine : Stmt := topS 52
theorem sc__law_machine : FnScope ["_law_cell_here", "_law_names_here", "_law_most", "_law_extra", "_law_sizes", "_law_row_here", "_law_many", "_law_stride", "_law_labels", "_law_steps", "_law_k", "_law_word", "_law_at", "_law_step", "_law_target", "_law_turn"] ["_law_cell_here", "_law_names_here", "_law_most", "_law_extra"] (defScope s__law_machine) := ⟨rfl, rfl, rfl, by decide +kernel, rfl, by decide +kernel, by decide +kernel⟩
abbrev s__law_faults : Stmt := topS 53
theorem sc__law_faults : FnScope ["_law_digit", "_law_steps", "_law_names_here", "_law_marks", "_law_faults_here", "_law_step"] ["_law_digit", "_law_steps", "_law_names_here", "_law_marks"] (defScope s__law_faults) := ⟨rfl, rfl, rfl, by decide +kernel, rfl, by decide +kernel, by decide +kernel⟩
abbrev s__law_system : Stmt := topS 60
theorem sc__law_system : FnScope ["_law_script", "_law_most", "_law_extra", "_law_many", "_law_names_here", "_law_labels", "_law_steps", "_law_digit", "_law_table"] ["_law_script", "_law_most", "_law_extra", "_law_many"] (defScope s__law_system) := ⟨rfl, rfl, rfl, by decide +kernel, rfl, by decide +kernel, by decide +kernel⟩
abbrev s__law_sights : Stmt := topS 54
theorem sc__law_sights : FnScope ["_law_cell_here", "_law_names_here", "_law_marks", "_law_wide", "_law_row_here", "_law_table", "_law_k"] ["_law_cell_here", "_law_names_here", "_law_marks"] (defScope s__law_sights) := ⟨rfl, rfl, rfl, by decide +kernel, rfl, by decide +kernel, by decide +kernel⟩
abbrev s_is_whole : Stmt := topS 21
theorem sc_is_whole : FnScope ["value"] ["value"] (defScope s_is_whole) := ⟨rfl, rfl, rfl, by decide +kernel, rfl, by decide +kernel, by decide +kernel⟩
abbrev s_is_state : Stmt := topS 20
theorem sc_is_state : FnScope ["value"] ["value"] (defScope s_is_state) := ⟨rfl, rfl, rfl, by decide +kernel, rfl, by decide +kernel, by decide +kernel⟩
abbrev s_is_row : Stmt := topS 22
theorem sc_is_row : FnScope ["value"] ["value"] (defScope s_is_row) := ⟨rfl, rfl, rfl, by decide +kernel, rfl, by decide +kernel, by decide +kernel⟩
abbrev s_is_name : Stmt := topS 19
theorem sc_is_name : FnScope ["value", "letter"] ["value"] (defScope s_is_name) := ⟨rfl, rfl, rfl, by decide +kernel, rfl, by decide +kernel, by decide +kernel⟩
abbrev s_is_step : Stmt := topS 42
theorem sc_is_step : FnScope ["value"] ["value"] (defScope s_is_step) := ⟨rfl, rfl, rfl, by decide +kernel, rfl, by decide +kernel, by decide +kernel⟩
abbrev s_check_steps : Stmt := topS 43
theorem sc_check_steps : FnScope ["steps", "seen", "counts", "at", "step"] ["steps"] (defScope s_check_steps) := ⟨rfl, rfl, rfl, by decide +kernel, rfl, by decide +kernel, by decide +kernel⟩
abbrev s_check_faults : Stmt := topS 44
theorem sc_check_faults : FnScope ["faults", "words", "names", "word", "name"] ["faults", "words"] (defScope s_check_faults) := ⟨rfl, rfl, rfl, by decide +kernel, rfl, by decide +kernel, by decide +kernel⟩
abbrev s_moves_by_state : Stmt := topS 45
theorem sc_moves_by_state : FnScope ["steps", "moves", "source", "word", "target"] ["steps"] (defScope s_moves_by_state) := ⟨rfl, rfl, rfl, by decide +kernel, rfl, by decide +kernel, by decide +kernel⟩
abbrev s_reached_states : Stmt := topS 46
theorem sc_reached_states : FnScope ["start", "leaving", "reached", "waiting", "moves", "word", "target"] ["start", "leaving"] (defScope s_reached_states) := ⟨rfl, rfl, rfl, by decide +kernel, rfl, by decide +kernel, by decide +kernel⟩
abbrev s_Machine_init : Stmt := inClass (topS 41) 0
theorem sc_Machine_init : FnScope ["self", "start", "steps", "faults", "words", "leaving", "states", "state", "step", "word"] ["self", "start", "steps", "faults"] (defScope s_Machine_init) := ⟨rfl, rfl, rfl, by decide +kernel, rfl, by decide +kernel, by decide +kernel⟩
abbrev s_is_sights : Stmt := topS 25
theorem sc_is_sights : FnScope ["value", "word", "sight"] ["value"] (defScope s_is_sights) := ⟨rfl, rfl, rfl, by decide +kernel, rfl, by decide +kernel, by decide +kernel⟩
abbrev s_Watch_init : Stmt := inClass (topS 24) 0
theorem sc_Watch_init : FnScope ["self", "sights"] ["self", "sights"] (defScope s_Watch_init) := ⟨rfl, rfl, rfl, by decide +kernel, rfl, by decide +kernel, by decide +kernel⟩
abbrev s__law_walk : Stmt := topS 56
theorem sc__law_walk : FnScope ["_law_row_here", "_law_steps", "_law_start", "_law_path", "_law_state", "_law_digit", "_law_ways", "_law_number", "_law_k"] ["_law_row_here", "_law_steps", "_law_start"] (defScope s__law_walk) := ⟨rfl, rfl, rfl, by decide +kernel, rfl, by decide +kernel, by decide +kernel⟩
abbrev s__law_seen : Stmt := topS 55
theorem sc__law_seen : FnScope ["_law_steps", "_law_table", "_law_path", "_law_words", "_law_number", "_law_word"] ["_law_steps", "_law_table", "_law_path"] (defScope s__law_seen) := ⟨rfl, rfl, rfl, by decide +kernel, rfl, by decide +kernel, by decide +kernel⟩
abbrev s__law_deep : Stmt := topS 58
theorem sc__law_deep : FnScope ["_law_many", "_law_thing_here", "_law_k"] ["_law_many"] (defScope s__law_deep) := ⟨rfl, rfl, rfl, by decide +kernel, rfl, by decide +kernel, by decide +kernel⟩
abbrev s__law_thing : Stmt := topS 59
theorem sc__law_thing : FnScope ["_law_digit", "_law_things"] ["_law_digit"] (defScope s__law_thing) := ⟨rfl, rfl, rfl, by decide +kernel, rfl, by decide +kernel, by decide +kernel⟩
abbrev s__law_pair_behind : Stmt := topS 61
theorem sc__law_pair_behind : FnScope ["_law_pair", "_law_step", "_law_table", "_law_names_here"] ["_law_pair", "_law_step", "_law_table"] (defScope s__law_pair_behind) := ⟨rfl, rfl, rfl, by decide +kernel, rfl, by decide +kernel, by decide +kernel⟩
abbrev s__law_estimate : Stmt := topS 62
theorem sc__law_estimate : FnScope ["_law_pairs", "_law_steps", "_law_table", "_law_sights_here", "_law_found", "_law_at", "_law_step", "_law_end"] ["_law_pairs", "_law_steps", "_law_table", "_law_sights_here"] (defScope s__law_estimate) := ⟨rfl, rfl, rfl, by decide +kernel, rfl, by decide +kernel, by decide +kernel⟩
abbrev s__law_is_name : Stmt := topS 57
theorem sc__law_is_name : FnScope ["_law_thing_here", "_law_sign"] ["_law_thing_here"] (defScope s__law_is_name) := ⟨rfl, rfl, rfl, by decide +kernel, rfl, by decide +kernel, by decide +kernel⟩
abbrev s__law_later : Stmt := topS 63
theorem sc__law_later : FnScope ["_law_pairs", "_law_steps", "_law_table", "_law_sights_here", "_law_sight", "_law_ends", "_law_pair", "_law_step"] ["_law_pairs", "_law_steps", "_law_table", "_law_sights_here", "_law_sight"] (defScope s__law_later) := ⟨rfl, rfl, rfl, by decide +kernel, rfl, by decide +kernel, by decide +kernel⟩
abbrev s__law_wrong : Stmt := topS 65
theorem sc__law_wrong : FnScope ["_law_start", "_law_steps", "_law_table", "_law_sights_here", "_law_row_here", "_law_pairs", "_law_at"] ["_law_start", "_law_steps", "_law_table", "_law_sights_here", "_law_row_here"] (defScope s__law_wrong) := ⟨rfl, rfl, rfl, by decide +kernel, rfl, by decide +kernel, by decide +kernel⟩
abbrev s_check_watch : Stmt := topS 30
theorem sc_check_watch : FnScope ["watch"] ["watch"] (defScope s_check_watch) := ⟨rfl, rfl, rfl, by decide +kernel, rfl, by decide +kernel, by decide +kernel⟩
abbrev s_Machine_states : Stmt := inClass (topS 41) 7
theorem sc_Machine_states : FnScope ["self"] ["self"] (defScope s_Machine_states) := ⟨rfl, rfl, rfl, by decide +kernel, rfl, by decide +kernel, by decide +kernel⟩
abbrev s_parts : Stmt := topS 34
theorem sc_parts : FnScope ["names", "found", "name", "done"] ["names"] (defScope s_parts) := ⟨rfl, rfl, rfl, by decide +kernel, rfl, by decide +kernel, by decide +kernel⟩
abbrev s_Machine_faults : Stmt := inClass (topS 41) 6
theorem sc_Machine_faults : FnScope ["self"] ["self"] (defScope s_Machine_faults) := ⟨rfl, rfl, rfl, by decide +kernel, rfl, by decide +kernel, by decide +kernel⟩
abbrev s_Machine_steps : Stmt := inClass (topS 41) 3
theorem sc_Machine_steps : FnScope ["self"] ["self"] (defScope s_Machine_steps) := ⟨rfl, rfl, rfl, by decide +kernel, rfl, by decide +kernel, by decide +kernel⟩
abbrev s_with_fault : Stmt := topS 36
theorem sc_with_fault : FnScope ["done", "fault", "names"] ["done", "fault", "names"] (defScope s_with_fault) := ⟨rfl, rfl, rfl, by decide +kernel, rfl, by decide +kernel, by decide +kernel⟩
abbrev s_Watch_getitem : Stmt := inClass (topS 24) 2
theorem sc_Watch_getitem : FnScope ["self", "at"] ["self", "at"] (defScope s_Watch_getitem) := ⟨rfl, rfl, rfl, by decide +kernel, rfl, by decide +kernel, by decide +kernel⟩
abbrev s_Watch_contains : Stmt := inClass (topS 24) 4
theorem sc_Watch_contains : FnScope ["self", "x"] ["self", "x"] (defScope s_Watch_contains) := ⟨rfl, rfl, rfl, by decide +kernel, rfl, by decide +kernel, by decide +kernel⟩
abbrev s_moves_of_pairs : Stmt := topS 35
theorem sc_moves_of_pairs : FnScope ["machine", "watch", "pairs", "names", "unseen", "seen", "faults", "steps", "state", "done", "source", "word", "target", "entered", "pair"] ["machine", "watch", "pairs", "names"] (defScope s_moves_of_pairs) := ⟨rfl, rfl, rfl, by decide +kernel, rfl, by decide +kernel, by decide +kernel⟩
abbrev s_Machine_start : Stmt := inClass (topS 41) 2
theorem sc_Machine_start : FnScope ["self"] ["self"] (defScope s_Machine_start) := ⟨rfl, rfl, rfl, by decide +kernel, rfl, by decide +kernel, by decide +kernel⟩
abbrev s_Spread_closure : Stmt := inClass (topS 32) 1
theorem sc_Spread_closure : FnScope ["self", "pair", "unseen", "found", "waiting", "target", "bit"] ["self", "pair", "unseen"] (defScope s_Spread_closure) := ⟨rfl, rfl, rfl, by decide +kernel, rfl, by decide +kernel, by decide +kernel⟩
abbrev s_Spread_init : Stmt := inClass (topS 32) 0
theorem sc_Spread_init : FnScope ["self", "machine", "watch", "names", "unseen", "seen", "closed", "pair", "row", "sight", "target", "state", "done", "place"] ["self", "machine", "watch", "names"] (defScope s_Spread_init) := ⟨rfl, rfl, rfl, by decide +kernel, rfl, by decide +kernel, by decide +kernel⟩
abbrev s_Machine_fault_names : Stmt := inClass (topS 41) 5
theorem sc_Machine_fault_names : FnScope ["self"] ["self"] (defScope s_Machine_fault_names) := ⟨rfl, rfl, rfl, by decide +kernel, rfl, by decide +kernel, by decide +kernel⟩
abbrev s_places_in : Stmt := topS 33
theorem sc_places_in : FnScope ["chosen", "found", "left"] ["chosen"] (defScope s_places_in) := ⟨rfl, rfl, rfl, by decide +kernel, rfl, by decide +kernel, by decide +kernel⟩
abbrev s_Spread_beyond : Stmt := inClass (topS 32) 2
theorem sc_Spread_beyond : FnScope ["self", "chosen", "found", "place", "sight", "entered"] ["self", "chosen"] (defScope s_Spread_beyond) := ⟨rfl, rfl, rfl, by decide +kernel, rfl, by decide +kernel, by decide +kernel⟩
abbrev s_Spread_pairs_in : Stmt := inClass (topS 32) 4
theorem sc_Spread_pairs_in : FnScope ["self", "chosen", "place"] ["self", "chosen"] (defScope s_Spread_pairs_in) := ⟨rfl, rfl, rfl, by decide +kernel, rfl, by decide +kernel, by decide +kernel⟩
abbrev s_after : Stmt := topS 38
theorem sc_after : FnScope ["machine", "watch", "sights", "spread", "chosen", "entered", "at", "sight"] ["machine", "watch", "sights"] (defScope s_after) := ⟨rfl, rfl, rfl, by decide +kernel, rfl, by decide +kernel, by decide +kernel⟩
abbrev s_known : Stmt := topS 39
theorem sc_known : FnScope ["machine", "watch", "sights", "pairs", "sure", "unsure", "out", "name", "many", "state", "done"] ["machine", "watch", "sights"] (defScope s_known) := ⟨rfl, rfl, rfl, by decide +kernel, rfl, by decide +kernel, by decide +kernel⟩
abbrev s__law_ask : Stmt := topS 64
theorem sc__law_ask : FnScope ["_law_kind", "_law_machine_here", "_law_watch", "_law_row_here", "e"] ["_law_kind", "_law_machine_here", "_law_watch", "_law_row_here"] (defScope s__law_ask) := ⟨rfl, rfl, rfl, by decide +kernel, rfl, by decide +kernel, by decide +kernel⟩
abbrev s_law : Stmt := topS 66
theorem sc_law : FnScope ["_law_script", "_law_start", "_law_steps", "_law_table", "_law_names_here", "_law_marks", "_law_sights_here", "_law_machine_here", "_law_given", "_law_watch", "_law_k", "_law_row_here", "_law_walk_here", "_law_seen_here", "_law_turn", "_law_kind", "_law_at", "_law_digit", "_law_asked", "_law_due", "_law_thing_here"] ["_law_script"] (defScope s_law) := ⟨rfl, rfl, rfl, by decide +kernel, rfl, by decide +kernel, by decide +kernel⟩
structure Txt (K : PySem.W.Frag) (mg : Str → Option Value) (C : Addr) (D : Addr) (S : Addr) : Prop where
  m_all : mg "all" = none
  m_bool : mg "bool" = none
  m_dict : mg "dict" = none
  m_enumerate : mg "enumerate" = none
  m_int : mg "int" = none
  m_isinstance : mg "isinstance" = none
  m_len : mg "len" = none
  m_list : mg "list" = none
  m_range : mg "range" = none
  m_set : mg "set" = none
  m_sorted : mg "sorted" = none
  m_str : mg "str" = none
  m_tuple : mg "tuple" = none
  c_GREATEST_STATE : ∃ u, mg "GREATEST_STATE" = some u ∧ RelV (.int 99) u
  c_LONGEST_NAME : ∃ u, mg "LONGEST_NAME" = some u ∧ RelV (.int 12) u
  c_LETTERS : ∃ u, mg "LETTERS" = some u ∧ RelV (.str "abcdefghijklmnopqrstuvwxyz") u
  c_MOST_STEPS : ∃ u, mg "MOST_STEPS" = some u ∧ RelV (.int 80) u
  c_MOST_LEAVING : ∃ u, mg "MOST_LEAVING" = some u ∧ RelV (.int 8) u
  c_MOST_FAULTS : ∃ u, mg "MOST_FAULTS" = some u ∧ RelV (.int 3) u
  c_MOST_WORDS : ∃ u, mg "MOST_WORDS" = some u ∧ RelV (.int 14) u
  cl : Cls K C
  g_Machine : mg "Machine" = some (.ref C)
  ins_Machine : C8.InsC K C
  n__start : NoAttr K C "_start"
  n__steps : NoAttr K C "_steps"
  n__words : NoAttr K C "_words"
  n__faults : NoAttr K C "_faults"
  n__states : NoAttr K C "_states"
  cl_Watch : Cls K D
  g_Watch : mg "Watch" = some (.ref D)
  ins_Watch : C8.InsC K D
  n__sights : NoAttr K D "_sights"
  cl_Spread : Cls K S
  g_Spread : mg "Spread" = some (.ref S)
  ins_Spread : C8.InsC K S
  n_pairs : NoAttr K S "pairs"
  n_places : NoAttr K S "places"
  n_first : NoAttr K S "first"
  n_entered : NoAttr K S "entered"
  ic_W : PySem.W.isClsIn K D = true
  it_W : PySem.W.typeIn K (.ref D) = some (.type "type")
structure Es where
  BadWatch : Addr
  BadSights : Addr
structure TxE (K : PySem.W.Frag) (mg : Str → Option Value) (ce : Es) : Prop where
  g_BadWatch : mg "BadWatch" = some (.ref ce.BadWatch)
  f_BadWatch : XfC K ce.BadWatch
  o_BadWatch : PySem.W.findIn K (.ref ce.BadWatch) "value" = some none
  g_BadSights : mg "BadSights" = some (.ref ce.BadSights)
  f_BadSights : XfC K ce.BadSights
  o_BadSights : PySem.W.findIn K (.ref ce.BadSights) "at" = some none
  x_BadWatch_BadWatch : PySem.W.exmOne K (.ref ce.BadWatch) (.ref ce.BadWatch) = some true
  x_BadWatch_BadSights : PySem.W.exmOne K (.ref ce.BadWatch) (.ref ce.BadSights) = some false
  x_BadSights_BadWatch : PySem.W.exmOne K (.ref ce.BadSights) (.ref ce.BadWatch) = some false
  x_BadSights_BadSights : PySem.W.exmOne K (.ref ce.BadSights) (.ref ce.BadSights) = some true
theorem szl {α : Type} {l : List α} (h : Nat.ble l.length 100000 = true) : l.length ≤ sizeLine := smallE (Nat.le_of_ble_eq_true h)
/-! ### values -/
inductive Val (K : PySem.W.Frag) (H : Hp) : V → Prop where
  | non : Val K H .non
  | bl (b : Bool) : Val K H (.bl b)
  | int (i : Int) : Val K H (.int i)
  | str (z : Str) (h : z.cps.size ≤ 100) : Val K H (.str z)
  | lst {a : Addr} {xs : List V} (e : H a = some (.lst xs)) : Val K H (.ref a)
  | tup {a : Addr} {xs : List V} (e : H a = some (.tup xs)) : Val K H (.ref a)
  | dK {a : Addr} {kvs : List (Key × V)} (e : H a = some (.dK kvs)) : Val K H (.ref a)
theorem Val.mono {K : PySem.W.Frag} {H H' : Hp} {v : V} (h : Val K H v) (s : Same H H') : Val K H' v := by
  cases h with
  | non => exact .non
  | bl b => exact .bl b
  | int i => exact .int i
  | str z h => exact .str z h
  | lst e => exact .lst (s _ _ e)
  | tup e => exact .tup (s _ _ e)
  | dK e => exact .dK (s _ _ e)
def isS : V → Bool
  | .str _ => true
  | _ => false
def isI : V → Bool
  | .int _ => true
  | .bl _ => true
  | _ => false
def isB : V → Bool
  | .bl _ => true
  | _ => false
theorem Val.ty {K : PySem.W.Frag} {H : Hp} {v : V} (h : Val K H v) : ∃ t, TyX K H v t ∧ PySem.W.kitOne K t (.type "str") = some (isS v) ∧ PySem.W.kitOne K t (.type "int") = some (isI v) ∧ PySem.W.kitOne K t (.type "bool") = some (isB v) := by
  cases h with
  | non => exact ⟨_, .base .non, kit_ty (show kitB "NoneType" "str" = some false by decide +kernel), kit_ty (show kitB "NoneType" "int" = some false by decide +kernel), kit_ty (show kitB "NoneType" "bool" = some false by decide +kernel)⟩
  | bl b => exact ⟨_, .base (.bl b), kit_ty (show kitB "bool" "str" = some false by decide +kernel), kit_ty (show kitB "bool" "int" = some true by decide +kernel), kit_ty (show kitB "bool" "bool" = some true by decide +kernel)⟩
  | int i => exact ⟨_, .base (.int i), kit_ty (show kitB "int" "str" = some false by decide +kernel), kit_ty (show kitB "int" "int" = some true by decide +kernel), kit_ty (show kitB "int" "bool" = some false by decide +kernel)⟩
  | str z h => exact ⟨_, .base (.str z), kit_ty (show kitB "str" "str" = some true by decide +kernel), kit_ty (show kitB "str" "int" = some false by decide +kernel), kit_ty (show kitB "str" "bool" = some false by decide +kernel)⟩
  | lst e => exact ⟨_, .base (.lst e), kit_ty (show kitB "list" "str" = some false by decide +kernel), kit_ty (show kitB "list" "int" = some false by decide +kernel), kit_ty (show kitB "list" "bool" = some false by decide +kernel)⟩
  | tup e => exact ⟨_, .base (.tup e), kit_ty (show kitB "tuple" "str" = some false by decide +kernel), kit_ty (show kitB "tuple" "int" = some false by decide +kernel), kit_ty (show kitB "tuple" "bool" = some false by decide +kernel)⟩
  | dK e => exact ⟨_, .base (.dK e), kit_ty (show kitB "dict" "str" = some false by decide +kernel), kit_ty (show kitB "dict" "int" = some false by decide +kernel), kit_ty (show kitB "dict" "bool" = some false by decide +kernel)⟩
/-! ### what is computed -/
def letters : Str := "abcdefghijklmnopqrstuvwxyz"
def inL (c : Nat) : Bool := decide (c ∈ letters.cps.toList)
def nameB : V → Bool
  | .str z => decide (1 ≤ z.cps.size) && decide (z.cps.size ≤ 12) && z.cps.toList.all inL
  | _ => false
def wholeB (v : V) : Bool := isI v && !isB v
def stateB : V → Bool
  | .int i => decide (0 ≤ i) && decide (i ≤ 99)
  | _ => false
/-! ### promises -/
def spPure (g : V → Bool) (K : PySem.W.Frag) : Sp := fun vs H Q _ => ∃ v, vs = [v] ∧ Val K H v ∧ ∀ H', Same H H' → Q (.bl (g v)) H'
def sp_is_name := spPure nameB
def sp__law_is_name := spPure nameB
def sp_is_whole := spPure wholeB
def sp__law_is_integer := spPure wholeB
def sp_is_state := spPure stateB
def sp__law_is_state := spPure stateB
def sp__law_flag (_ : PySem.W.Frag) : Sp := fun vs H Q _ => ∃ a b, vs = [.bl a, .bl b] ∧ Q (.bl (decide (a = b))) H
def sp__law_mix (_ : PySem.W.Frag) : Sp := fun vs H Q _ => ∃ c k : Int, vs = [.int c, .int k] ∧ ∀ r : Int, 0 ≤ r → r < 2147483399 → Q (.int r) H
def sp__law_cell (K : PySem.W.Frag) : Sp := fun vs H Q _ => ∃ (a : Addr) (ns : List Int) (k : Nat), vs = [.ref a, .int (k : Int)] ∧ SqL K H a (ns.map V.int) ∧ ∀ r : Int, Q (.int r) H
def sp__law_row (K : PySem.W.Frag) : Sp := fun vs H Q _ => ∃ (c : Int) (b : Addr) (ss : List Int), vs = [.int c, .ref b] ∧ SqL K H b (ss.map V.int) ∧ ss.length ≤ 1000 ∧ (∀ s ∈ ss, 0 < s ∧ s < 1073741824) ∧
  ∀ H' p (rs : List Int), Same H H' → H p = none → H' p = some (.lst (rs.map V.int)) → rs.length = ss.length → (∀ (i : Nat) (r s : Int), rs[i]? = some r → ss[i]? = some s → 0 ≤ r ∧ r < s) → Q (.ref p) H'
def sp__law_text (_ : PySem.W.Frag) : Sp := fun vs H Q _ => ∃ c : Int, vs = [.int c] ∧ ∀ (z : Str) H', Same H H' → z.cps.size ≤ 100 → Q (.str z) H'
def sp_law (K : PySem.W.Frag) : Sp := fun vs H Q _ => ∃ (a : Addr) (ns : List Int), vs = [.ref a] ∧ SqL K H a (ns.map V.int) ∧ ns.length ≤ 63 ∧ ∀ H', Q (.bl true) H'
section
variable {P : Program} {w : World} {K : PySem.W.Frag} {mg : Str → Option Value} {base : Heap}

theorem ok_is_whole {f : Addr} {C D S : Addr} {fd : FuncData} (T : Txt K mg C D S) (F : Fun K "is_whole" "is_whole" s_is_whole f fd)  : FnOk P w K mg base CX0 1 f fd ["value"] (sp_is_whole K) := by
  have nd := sc_is_whole.nd
  refine F.ok sc_is_whole (fun vs H Q E h => ?_) (fun cdv A outer s H vs Q E hr h => ?_)
  · obtain ⟨v, rfl, _⟩ := h
    rfl
  · obtain ⟨v, rfl, hv, q⟩ := h
    refine ⟨_, (pss_one (ps_ret (pe_and (pe_callB call_isi (by rfl) T.m_isinstance (by decide +kernel) (pa_cons (pv 0) (pa_cons (pe_bltn (v := .ty "int") (u := .type "int") (by rfl) T.m_int (by decide +kernel) rfl) pa_nil))) (pe_one (pe_not (pe_callB call_isi (by rfl) T.m_isinstance (by decide +kernel) (pa_cons (pv 0) (pa_cons (pe_bltn (v := .ty "bool") (u := .type "bool") (by rfl) T.m_bool (by decide +kernel) rfl) pa_nil)))))))), ?_⟩
    obtain ⟨t, ht, hs, hi, hb⟩ := hv.ty
    refine ⟨v, rfl, v, .ty "int", t, _, isI v, rfl, .ty _, ht, hi, _, rfl, ?_⟩
    have q' := q H (Same.refl H)
    unfold wholeB at q'
    by_cases e : isI v = true
    · rw [if_pos e]
      refine ⟨v, rfl, v, .ty "bool", t, _, isB v, rfl, .ty _, ht, hb, _, rfl, ?_⟩
      rw [e] at q'
      exact q'
    · rw [if_neg e]
      rw [Bool.eq_false_iff.mpr e] at q'
      exact q'

theorem ok_is_state {f : Addr} {C D S : Addr} {fd : FuncData} (T : Txt K mg C D S) (F : Fun K "is_state" "is_state" s_is_state f fd) (c_is_whole : Cal P w K mg base 1 "is_whole" (sp_is_whole K) []) : FnOk P w K mg base CX0 2 f fd ["value"] (sp_is_state K) := by
  have nd := sc_is_state.nd
  refine F.ok sc_is_state (fun vs H Q E h => ?_) (fun cdv A outer s H vs Q E hr h => ?_)
  · obtain ⟨v, rfl, _⟩ := h
    rfl
  · obtain ⟨v, rfl, hv, q⟩ := h
    refine ⟨_, (pss_one (ps_ret (pe_and (pe_c c_is_whole hr (by omega) (by rfl) (pa_cons (pv 0) pa_nil)) (pe_one (pe_chain op_le op_le pe_int (pv 0) (pe_gc (by rfl) T.c_GREATEST_STATE)))))), ?_⟩
    refine ⟨v, rfl, v, rfl, hv, fun H1 s1 => ⟨_, rfl, ?_⟩⟩
    have q' := q H1 s1
    cases hv with
    | int i =>
      refine iteT ⟨.int i, rfl, 0, i, rfl, rfl, _, rfl, ?_⟩
      by_cases e : 0 ≤ i
      · rw [decide_eq_true e]
        refine iteT ⟨i, 99, rfl, rfl, ?_⟩
        have e2 : stateB (.int i) = decide (i ≤ 99) := by
          show (decide (0 ≤ i) && decide (i ≤ 99)) = _
          rw [decide_eq_true e]; rfl
        rw [e2] at q'
        exact q'
      · rw [decide_eq_false e]
        refine iteF ?_
        have e2 : stateB (.int i) = false := by
          show (decide (0 ≤ i) && decide (i ≤ 99)) = _
          rw [decide_eq_false e]; rfl
        rw [e2] at q'
        exact q'
    | _ => exact iteF q'

theorem nameB_out {z : Str} (h : ¬ (1 ≤ z.cps.size ∧ z.cps.size ≤ 12)) : nameB (.str z) = false := by
  show (decide (1 ≤ z.cps.size) && decide (z.cps.size ≤ 12) && z.cps.toList.all inL) = false
  by_cases a : 1 ≤ z.cps.size
  · rw [decide_eq_false (p := z.cps.size ≤ 12) (fun b => h ⟨a, b⟩), Bool.and_false]; rfl
  · rw [decide_eq_false a]; rfl
theorem nameB_in {z : Str} (h1 : 1 ≤ z.cps.size) (h2 : z.cps.size ≤ 12) : nameB (.str z) = z.cps.toList.all inL := by
  show (decide (1 ≤ z.cps.size) && decide (z.cps.size ≤ 12) && z.cps.toList.all inL) = _
  rw [decide_eq_true h1, decide_eq_true h2]; rfl
theorem nameB_not {v : V} (h : isS v = false) : nameB v = false := by
  cases v <;> first | rfl | cases h
theorem isS_str {v : V} (h : isS v = true) : ∃ z, v = .str z := by
  cases v <;> first | exact ⟨_, rfl⟩ | cases h
theorem Val.size {K : PySem.W.Frag} {H : Hp} {z : Str} (h : Val K H (.str z)) : z.cps.size ≤ 100 := by
  cases h with
  | str _ h => exact h

theorem ok_is_name {f : Addr} {C D S : Addr} {fd : FuncData} (T : Txt K mg C D S) (F : Fun K "is_name" "is_name" s_is_name f fd)  : FnOk P w K mg base CX0 1 f fd ["value"] (sp_is_name K) := by
  have nd := sc_is_name.nd
  refine F.ok sc_is_name (fun vs H Q E h => ?_) (fun cdv A outer s H vs Q E hr h => ?_)
  · obtain ⟨v, rfl, _⟩ := h
    rfl
  · obtain ⟨v, rfl, hv, q⟩ := h
    refine ⟨_, (pss_cons (ps_if (PW.pt (pw_or (pt_not (pt_val (pe_callB call_isi (by rfl) T.m_isinstance (by decide +kernel) (pa_cons (pv 0) (pa_cons (pe_bltn (v := .ty "str") (u := .type "str") (by rfl) T.m_str (by decide +kernel) rfl) pa_nil))))) (pw_or1 (pt_not (pt_chain op_le op_le pe_int (pe_callB call_len (by rfl) T.m_len (by decide +kernel) (pa_cons (pv 0) pa_nil)) (pe_gc (by rfl) T.c_LONGEST_NAME)))))) (pss_one (ps_ret pe_bl)) pss_nil)
      (pss_one (ps_ret (pe_callB (cr_all rfl) (by rfl) T.m_all (by decide +kernel) (pa_cons (pe_lc (own := [("letter", 1)]) (g := gName 1) (tt := tYes) rfl nd (pi_str (pv 0)) (blkOk_by (N := ["value", "letter"]) (sc := defScope s_is_name) (by decide +kernel)) (fun _ _ _ _ _ => (pg_name (i := 1) nd rfl (.inl rfl))) (fun _ _ _ _ _ => pts_nil) (fun _ _ _ _ _ => (pe_cmpR op_in_sign (pv 1) (pe_gc (by rfl) T.c_LETTERS) (by with_unfolding_all rfl)))) pa_nil))))), ?_⟩
    obtain ⟨t, ht, hs, hi, hb⟩ := hv.ty
    refine ⟨v, rfl, v, .ty "str", t, _, isS v, rfl, .ty _, ht, hs, _, rfl, ?_⟩
    cases e : isS v with
    | false =>
      refine iteT ?_
      have q' := q H (Same.refl H)
      rw [nameB_not e] at q'
      exact q'
    | true =>
      obtain ⟨z, rfl⟩ := isS_str e
      have hz := hv.size
      refine iteF ⟨.str z, rfl, .str z, z.cps.size, rfl, ⟨smallE (show z.cps.size ≤ 100000 by omega), rfl⟩, 1, (z.cps.size : Int), rfl, rfl, _, rfl, ?_⟩
      by_cases a : 1 ≤ z.cps.size
      · rw [decide_eq_true (show (1 : Int) ≤ (z.cps.size : Int) by omega)]
        refine iteT ⟨(z.cps.size : Int), 12, rfl, rfl, _, rfl, ?_⟩
        by_cases b : z.cps.size ≤ 12
        · rw [decide_eq_true (show (z.cps.size : Int) ≤ 12 by omega)]
          refine iteF ⟨.str z, rfl, z, rfl, fun D nD => lc_text (fun i H' => Same H H' ∧ H' D = some (.lst ((z.cps.toList.take i).map fun c => .bl (inL c)))) ⟨same_upd nD, upd_same⟩ (fun i c H' hc hP => ?_) (fun H' hP => ?_)⟩
          · obtain ⟨sm, eD⟩ := hP
            have hl : i < z.cps.toList.length := (List.getElem?_eq_some_iff.mp hc).1
            rw [Array.length_toList] at hl
            refine ⟨rfl, ?_⟩
            refine ⟨.str ⟨#[c]⟩, rfl, c, letters, rfl, rfl, _, eD, ?_, same_set nD sm, ?_⟩
            · rw [List.length_map, List.length_take]
              exact Nat.lt_of_le_of_lt (Nat.min_le_left _ _) (small (by omega))
            · rw [upd_same, take_more hc, List.map_append]; rfl
          · obtain ⟨sm, eD⟩ := hP
            rw [List.take_length] at eD
            refine ⟨D, z.cps.toList.map inL, rfl, .inl (.inl (by rw [eD, List.map_map]; rfl)), ?_⟩
            have q' := q H' sm
            rw [nameB_in a b] at q'
            rw [List.all_map]
            exact q'
        · rw [decide_eq_false (show ¬ (z.cps.size : Int) ≤ 12 by omega)]
          refine iteT ?_
          have q' := q H (Same.refl H)
          rw [nameB_out (fun h => b h.2)] at q'
          exact q'
      · rw [decide_eq_false (show ¬ (1 : Int) ≤ (z.cps.size : Int) by omega)]
        refine iteF ?_
        have q' := q H (Same.refl H)
        rw [nameB_out (fun h => a h.1)] at q'
        exact ⟨_, rfl, q'⟩

/-! ### rows, steps -/
abbrev rowO (b : Bool) (xs : List V) : HO := match b with | true => .lst xs | false => .tup xs
theorem row_sq {b : Bool} {H : Hp} {a : Addr} {xs : List V} (h : H a = some (rowO b xs)) : KnE.Sq K b H a xs := by
  cases b with
  | true => exact .inl (.inl h)
  | false => exact .inl (.inl h)
theorem row_len {b : Bool} {H : Hp} {a : Addr} {xs : List V} (h : H a = some (rowO b xs)) : LenV K (.ref a) H xs.length := by
  cases b with
  | true => exact .inl ⟨xs, .inl (.inl h), rfl⟩
  | false => exact .inr ⟨xs, .inl (.inl h), rfl⟩
abbrev tup3 (st : KnA.Stp) : HO := .tup [.int st.1, .str st.2.1, .int st.2.2]
abbrev key3 (st : KnA.Stp) : List Key := [.inl st.1, .inr st.2.1, .inl st.2.2]
theorem key3_inj {x y : KnA.Stp} (h : key3 x = key3 y) : x = y := by
  obtain ⟨a, b, c⟩ := x
  obtain ⟨a', b', c'⟩ := y
  simp only [key3, List.cons.injEq, Sum.inl.injEq, Sum.inr.injEq, and_true] at h
  obtain ⟨rfl, rfl, rfl⟩ := h
  rfl
def Stps (H : Hp) (as : List Addr) (ss : List KnA.Stp) : Prop := Paired (fun a st => H a = some (tup3 st)) as ss
theorem Stps.mono {H H' : Hp} {as : List Addr} {ss : List KnA.Stp} (h : Stps H as ss) (s : Same H H') : Stps H' as ss := Paired.mapP h fun _ _ e => s _ _ e
theorem paired_get {α β : Type} {F : α → β → Prop} {l : List α} {m : List β} (h : Paired F l m) : ∀ {i : Nat} {a : α}, l[i]? = some a → ∃ b, m[i]? = some b ∧ F a b := by
  induction h with
  | nil => intro i a e; cases e
  | cons r _ ih =>
    intro i a e
    cases i with
    | zero => cases e; exact ⟨_, rfl, r⟩
    | succ i => exact ih (i := i) e
theorem ref_get {H : Hp} {as : List Addr} {ss : List KnA.Stp} (h : Stps H as ss) {i : Nat} {x : V} (e : (as.map V.ref)[i]? = some x) : ∃ a st, x = .ref a ∧ as[i]? = some a ∧ ss[i]? = some st ∧ H a = some (tup3 st) := by
  rw [List.getElem?_map] at e
  cases g : as[i]? with
  | none => rw [g] at e; cases e
  | some a =>
    rw [g] at e
    obtain ⟨st, g2, r⟩ := paired_get h g
    exact ⟨a, st, (Option.some.inj e).symm, rfl, g2, r⟩
structure GoodStep (x : KnA.Stp) : Prop where
  s : stateB (.int x.1) = true
  w : nameB (.str x.2.1) = true
  t : stateB (.int x.2.2) = true
theorem name_size {z : Str} (h : nameB (.str z) = true) : 1 ≤ z.cps.size ∧ z.cps.size ≤ 12 := by
  by_cases a : 1 ≤ z.cps.size ∧ z.cps.size ≤ 12
  · exact a
  · rw [nameB_out a] at h; cases h
def cnt (ss : List KnA.Stp) (s : Int) : Nat := (ss.filter fun x => decide (x.1 = s)).length
structure GoodSteps (ss : List KnA.Stp) : Prop where
  lo : 1 ≤ ss.length
  hi : ss.length ≤ 80
  good : ∀ x ∈ ss, GoodStep x
  nd : ss.Nodup
  few : ∀ s, cnt ss s ≤ 8
def sp_is_row (_ : PySem.W.Frag) : Sp := fun vs H Q _ => ∃ b a xs, vs = [.ref a] ∧ H a = some (rowO b xs) ∧ ∀ H', Same H H' → Q (.bl true) H'
def sp_is_step (_ : PySem.W.Frag) : Sp := fun vs H Q _ => ∃ a st, vs = [.ref a] ∧ H a = some (tup3 st) ∧ GoodStep st ∧ ∀ H', Same H H' → Q (.bl true) H'
def sp_check_steps (_ : PySem.W.Frag) : Sp := fun vs H Q _ => ∃ b a as ss, vs = [.ref a] ∧ H a = some (rowO b (as.map V.ref)) ∧ Stps H as ss ∧ GoodSteps ss ∧ ∀ H', Same H H' → Q .non H'
theorem ok_is_row {f : Addr} {C D S : Addr} {fd : FuncData} (T : Txt K mg C D S) (F : Fun K "is_row" "is_row" s_is_row f fd)  : FnOk P w K mg base CX0 1 f fd ["value"] (sp_is_row K) := by
  have nd := sc_is_row.nd
  refine F.ok sc_is_row (fun vs H Q E h => ?_) (fun cdv A outer s H vs Q E hr h => ?_)
  · obtain ⟨b, a, xs, rfl, _⟩ := h
    rfl
  · obtain ⟨b, a, xs, rfl, ha, q⟩ := h
    refine ⟨_, (pss_one (ps_ret (pe_callB call_isiT (by rfl) T.m_isinstance (by decide +kernel) (pa_cons (pv 0) (pa_cons (pe_tup (pa_cons (pe_bltn (v := .ty "list") (u := .type "list") (by rfl) T.m_list (by decide +kernel) rfl) (pa_cons (pe_bltn (v := .ty "tuple") (u := .type "tuple") (by rfl) T.m_tuple (by decide +kernel) rfl) pa_nil))) pa_nil))))), ?_⟩
    refine ⟨.ref a, rfl, szl rfl, fun p np => ?_⟩
    have q' := q _ (same_upd (o := .tup [.ty "list", .ty "tuple"]) np)
    have ha' : (upd H p (.tup [.ty "list", .ty "tuple"])) a = some (rowO b xs) := (upd_ne (ne_of_none ha np)).trans ha
    cases b with
    | true =>
      exact ⟨.ref a, p, [.ty "list", .ty "tuple"], .type "list", [.type "list", .type "tuple"], true, rfl, upd_same, .cons (.ty _) (.cons (.ty _) .nil), .base (.lst ha'), kitAny_cons (kit_ty (show kitB "list" "list" = some true by decide +kernel)) (fun z => nomatch z) (fun _ => rfl), q'⟩
    | false =>
      exact ⟨.ref a, p, [.ty "list", .ty "tuple"], .type "tuple", [.type "list", .type "tuple"], true, rfl, upd_same, .cons (.ty _) (.cons (.ty _) .nil), .base (.tup ha'),
        kitAny_cons (kit_ty (show kitB "tuple" "list" = some false by decide +kernel)) (fun _ => kitAny_cons (kit_ty (show kitB "tuple" "tuple" = some true by decide +kernel)) (fun z => nomatch z) fun _ => rfl) (fun z => nomatch z), q'⟩
theorem ok_is_step {f : Addr} {C D S : Addr} {fd : FuncData} (T : Txt K mg C D S) (F : Fun K "is_step" "is_step" s_is_step f fd) (c_is_state : Cal P w K mg base 2 "is_state" (sp_is_state K) []) (c_is_name : Cal P w K mg base 1 "is_name" (sp_is_name K) []) : FnOk P w K mg base CX0 3 f fd ["value"] (sp_is_step K) := by
  have nd := sc_is_step.nd
  refine F.ok sc_is_step (fun vs H Q E h => ?_) (fun cdv A outer s H vs Q E hr h => ?_)
  · obtain ⟨a, st, rfl, _⟩ := h
    rfl
  · obtain ⟨a, st, rfl, ha, g, q⟩ := h
    refine ⟨_, (pss_cons (ps_if (PW.pt (pw_or (pt_not (pt_val (pe_callB call_isi (by rfl) T.m_isinstance (by decide +kernel) (pa_cons (pv 0) (pa_cons (pe_bltn (v := .ty "tuple") (u := .type "tuple") (by rfl) T.m_tuple (by decide +kernel) rfl) pa_nil))))) (pw_or1 (pt_cmpR op_ne (pe_callB call_len (by rfl) T.m_len (by decide +kernel) (pa_cons (pv 0) pa_nil)) pe_int (nomark _))))) (pss_one (ps_ret pe_bl)) pss_nil)
      (pss_one (ps_ret (pe_and (pe_c c_is_state hr (by omega) (by rfl) (pa_cons (pe_ix (r := rIxT K) ix_tup (pv 0) pe_int (fun _ _ => rfl)) pa_nil)) (pe_and (pe_c c_is_name hr (by omega) (by rfl) (pa_cons (pe_ix (r := rIxT K) ix_tup (pv 0) pe_int (fun _ _ => rfl)) pa_nil)) (pe_one (pe_c c_is_state hr (by omega) (by rfl) (pa_cons (pe_ix (r := rIxT K) ix_tup (pv 0) pe_int (fun _ _ => rfl)) pa_nil)))))))), ?_⟩
    have sq : ∀ {H' : Hp}, Same H H' → SqT K H' a [.int st.1, .str st.2.1, .int st.2.2] := fun s => .inl (.inl (s _ _ ha))
    refine ⟨.ref a, rfl, .ref a, .ty "tuple", .type "tuple", _, true, rfl, .ty _, .base (.tup ha), kit_ty (show kitB "tuple" "tuple" = some true by decide +kernel), _, rfl, ?_⟩
    refine iteF ⟨.ref a, rfl, .ref a, 3, rfl, .inr ⟨_, sq (Same.refl H), rfl⟩, rfl, _, rfl, iteNS rfl ?_⟩
    refine ⟨.ref a, rfl, a, _, 0, .int st.1, rfl, rfl, sq (Same.refl H), atI_nat (j := 0) rfl, .int st.1, rfl, .int _, fun H1 s1 => ⟨_, rfl, ?_⟩⟩
    rw [if_pos g.s]
    refine ⟨.ref a, rfl, a, _, 1, .str st.2.1, rfl, rfl, sq s1, atI_nat (j := 1) rfl, .str st.2.1, rfl, .str _ (by have := (name_size g.w).2; omega), fun H2 s2 => ⟨_, rfl, ?_⟩⟩
    rw [if_pos g.w]
    refine ⟨.ref a, rfl, a, _, 2, .int st.2.2, rfl, rfl, sq (s1.trans s2), atI_nat (j := 2) rfl, .int st.2.2, rfl, .int _, fun H3 s3 => ?_⟩
    have q' := q H3 (s1.trans (s2.trans s3))
    rw [← g.t] at q'
    exact q'
theorem valT_in {kvs : List (List Key × V)} {k : List Key} : (valV kvs k).isSome = true ↔ k ∈ kvs.map (·.1) := by
  rw [← valV_any, List.any_eq_true]
  constructor
  · rintro ⟨p, hp, e⟩
    exact List.mem_map.mpr ⟨p, hp, of_decide_eq_true e⟩
  · intro h
    obtain ⟨p, hp, e⟩ := List.mem_map.mp h
    exact ⟨p, hp, decide_eq_true e⟩
theorem cnt_take {ss : List KnA.Stp} {i : Nat} {st : KnA.Stp} (h : ss[i]? = some st) (s : Int) : cnt (ss.take (i + 1)) s = cnt (ss.take i) s + if st.1 = s then 1 else 0 := by
  unfold cnt
  rw [take_more h, List.filter_append, List.length_append]
  by_cases e : st.1 = s
  · simp [List.filter_cons, e]
  · simp [List.filter_cons, e]
theorem cnt_le (ss : List KnA.Stp) (i : Nat) (s : Int) : cnt (ss.take i) s ≤ cnt ss s := by
  unfold cnt
  exact (List.Sublist.filter _ (List.take_sublist i ss)).length_le
theorem ok_check_steps {f : Addr} {C D S : Addr} {fd : FuncData} (T : Txt K mg C D S) (F : Fun K "check_steps" "check_steps" s_check_steps f fd) (c_is_row : Cal P w K mg base 1 "is_row" (sp_is_row K) []) (c_is_step : Cal P w K mg base 3 "is_step" (sp_is_step K) []) : FnOk P w K mg base CX0 4 f fd ["steps"] (sp_check_steps K) := by
  have nd := sc_check_steps.nd
  refine F.ok sc_check_steps (fun vs H Q E h => ?_) (fun cdv A outer s H vs Q E hr h => ?_)
  · obtain ⟨b, a, as, ss, rfl, _⟩ := h
    rfl
  · obtain ⟨b, a, as, ss, rfl, ha, hst, gs, q⟩ := h
    refine ⟨_, (pss_cons (ps_if (PW.pt (pw_or (pt_not (pt_val (pe_c c_is_row hr (by omega) (by rfl) (pa_cons (pv 0) pa_nil)))) (pw_or1 (pt_not (pt_chain op_le op_le pe_int (pe_callB call_len (by rfl) T.m_len (by decide +kernel) (pa_cons (pv 0) pa_nil)) (pe_gc (by rfl) T.c_MOST_STEPS)))))) (pss_one ps_never) pss_nil)
      (pss_cons (ps_set (i := 1) nd rfl (.inl rfl) pe_dnewT)
      (pss_cons (ps_set (i := 2) nd rfl (.inl rfl) pe_dnewK)
      (pss_one (ps_for PassesOwn.never rfl (KnE.pi_en (by rfl) T.m_enumerate (pa_cons (pv 0) pa_nil)) (pg_tup (by rfl) (pgs_cons (pg_name (i := 3) nd rfl (.inl rfl)) (pgs_cons (pg_name (i := 4) nd rfl (.inl rfl)) pgs_nil))) (pss_cons (ps_if (PW.pt (pw_or (pt_not (pt_val (pe_c c_is_step hr (by omega) (by rfl) (pa_cons (pv 4) pa_nil)))) (pw_or1 (pt_cmp (pc_din (hu_of hr) (pv 4) (pv 1)))))) (pss_one ps_never) pss_nil)
      (pss_cons (ps_dput (hu_of hr) (pv 1) (pv 4) pe_bl rfl)
      (pss_cons (ps_dput (hu_of hr) (pv 2) (pe_ix (r := rIxT K) ix_tup (pv 4) pe_int (fun _ _ => rfl)) (pe_op op_add (pe_dget2 (hu_of hr) (pv 2) (pe_ix (r := rIxT K) ix_tup (pv 4) pe_int (fun _ _ => rfl)) pe_int ⟨rfl, rfl, rfl, rfl⟩) pe_int) rfl)
      (pss_one (ps_if (pt_cmpR op_gt (pe_dget (hu_of hr) (pv 2) (pe_ix (r := rIxT K) ix_tup (pv 4) pe_int (fun _ _ => rfl)) (fun _ _ => rfl)) (pe_gc (by rfl) T.c_MOST_LEAVING) (nomark _)) (pss_one ps_never) pss_nil)))))))))), ?_⟩
    have len : (as.map V.ref).length = ss.length := by rw [List.length_map, hst.length]
    have lo := gs.lo
    have hi := gs.hi
    refine ⟨.ref a, rfl, b, a, _, rfl, ha, fun H1 s1 => ⟨_, rfl, iteF ⟨.ref a, rfl, .ref a, (as.map V.ref).length, rfl, row_len (s1 _ _ ha), 1, ((as.map V.ref).length : Int), rfl, rfl, _, rfl, ?_⟩⟩⟩
    rw [decide_eq_true (show (1 : Int) ≤ ((as.map V.ref).length : Int) by omega)]
    refine iteT ⟨((as.map V.ref).length : Int), 80, rfl, rfl, _, rfl, iteNS (show ((as.map V.ref).length : Int) ≤ 80 by omega) ?_⟩
    refine fun d nD c nC => ?_
    have s2 := same_upd (o := .dT []) nD
    have s3 := same_upd (o := .dK []) nC
    have nDC : d ≠ c := fun e => by rw [e, upd_same] at nC; cases nC
    have nDH : H d = none := s1.free nD
    have nCH : H c = none := s1.free (s2.free nC)
    have S0 : Same H (upd (upd H1 d (.dT [])) c (.dK [])) := s1.trans (s2.trans s3)
    refine ⟨.ref a, rfl, a, b, as.map V.ref, rfl, row_sq (S0 _ _ ha), ?_⟩
    refine KnE.for_en (K := K) (fun i σ H' => ∃ y3 y4, σ = [some (.ref a), some (.ref d), some (.ref c), y3, y4] ∧ Same H H' ∧ (∃ kvs, H' d = some (.dT kvs) ∧ kvs.length ≤ i ∧ ∀ k, k ∈ kvs.map (·.1) ↔ k ∈ (ss.take i).map key3) ∧
        ∃ cs, H' c = some (.dK cs) ∧ cs.length ≤ i ∧ ∀ s : Int, valV cs (.inl s) = if cnt (ss.take i) s = 0 then none else some (.int (cnt (ss.take i) s)))
      ⟨none, none, rfl, S0, ⟨[], (upd_ne nDC).trans upd_same, Nat.le_refl _, fun k => Iff.rfl⟩, [], upd_same, Nat.le_refl _, fun s => rfl⟩ (fun i σ H' _ hP => row_sq (hP.choose_spec.choose_spec.2.1 _ _ ha)) (fun i x T σ H' hx nT hP => ?_) (fun σ H' hP => ?_)
    · obtain ⟨y3, y4, rfl, S, ⟨kvs, ed, lk, mk⟩, cs, ec, lc, vc⟩ := hP
      obtain ⟨ai, st, rfl, gi, gsi, hai⟩ := ref_get (hst.mono S) hx
      have hi80 : i < ss.length := (List.getElem?_eq_some_iff.mp gsi).1
      have gst := gs.good st (List.mem_of_getElem? gsi)
      have sT := same_upd (o := .tup [.int (i : Nat), .ref ai]) nT
      have S' : Same H (upd H' T (.tup [.int (i : Nat), .ref ai])) := S.trans sT
      have ed' := sT _ _ ed
      have ec' := sT _ _ ec
      have hai' := sT _ _ hai
      have eT : (upd H' T (.tup [.int (i : Nat), .ref ai])) T = some (.tup [.int (i : Nat), .ref ai]) := upd_same
      generalize upd H' T (.tup [.int (i : Nat), .ref ai]) = H2 at S' ed' ec' hai' eT ⊢
      refine ⟨T, [.int (i : Nat), .ref ai], rfl, .inl (.inl eT), rfl, .int (i : Nat), [.ref ai], rfl, .ref ai, [], rfl, rfl, ?_⟩
      refine ⟨.ref ai, rfl, ai, st, rfl, hai', gst, fun H3 s3' => ⟨_, rfl, iteF ?_⟩⟩
      have ed3 := s3' _ _ ed'
      have ec3 := s3' _ _ ec'
      have hai3 := s3' _ _ hai'
      have S3 : Same H H3 := S'.trans s3'
      refine ⟨.ref ai, rfl, .ref d, rfl, d, valV kvs (key3 st), rfl, DGet.t ed3 hai3, _, rfl, ?_⟩
      have fresh : ¬ key3 st ∈ (ss.take i).map key3 := fun z => by
        obtain ⟨x, hx', e⟩ := List.mem_map.mp z
        have e' := key3_inj e
        subst e'
        obtain ⟨j, hj, ej⟩ := List.mem_iff_getElem.mp hx'
        rw [List.getElem_take] at ej
        have lj : j < i := by rw [List.length_take] at hj; omega
        have e1 : ss[i] = x := (List.getElem?_eq_some_iff.mp gsi).2
        exact absurd ((List.getElem_inj gs.nd).mp (ej.trans e1.symm)) (by omega)
      have no : valV kvs (key3 st) = none := by
        cases e : valV kvs (key3 st) with
        | none => rfl
        | some v => exact absurd ((mk _).mp (valT_in.mp (by rw [e]; rfl))) fresh
      rw [no]
      refine iteF ?_
      -- seen[step] = True
      refine ⟨.ref d, rfl, .ref ai, rfl, d, _, rfl, DPut.t (k := key3 st) ed3 hai3 (small (by omega)), ?_⟩
      have ec4 : (upd H3 d (.dT (putK kvs (key3 st) (.bl true)))) c = some (.dK cs) := (upd_ne nDC.symm).trans ec3
      have nAi : ai ≠ d := ne_of hai3 ed3 (fun z => by cases z)
      have hai4 : (upd H3 d (.dT (putK kvs (key3 st) (.bl true)))) ai = some (tup3 st) := (upd_ne nAi).trans hai3
      have ed4 : (upd H3 d (.dT (putK kvs (key3 st) (.bl true)))) d = some (.dT (putK kvs (key3 st) (.bl true))) := upd_same
      have S4 : Same H (upd H3 d (.dT (putK kvs (key3 st) (.bl true)))) := same_set nDH S3
      generalize upd H3 d (.dT (putK kvs (key3 st) (.bl true))) = H4 at ec4 hai4 ed4 S4 ⊢
      -- counts[step[0]] = counts.get(step[0], 0) + 1
      have sq4 : SqT K H4 ai [.int st.1, .str st.2.1, .int st.2.2] := .inl (.inl hai4)
      have get0 : (valV cs (.inl st.1)).getD (.int 0) = .int (cnt (ss.take i) st.1 : Nat) := by
        rw [vc]
        by_cases z : cnt (ss.take i) st.1 = 0
        · rw [if_pos z, z]; rfl
        · rw [if_neg z]; rfl
      refine ⟨.ref c, rfl, c, rfl, .inl ⟨cs, .inl ec4⟩, .ref ai, rfl, ai, _, 0, .int st.1, rfl, rfl, sq4, atI_nat (j := 0) rfl, valV cs (.inl st.1), DGet.k (k := .inl st.1) ec4, (cnt (ss.take i) st.1 : Nat), 1, get0, rfl, ?_⟩
      refine ⟨.ref c, rfl, .ref ai, rfl, ai, _, 0, .int st.1, rfl, rfl, sq4, atI_nat (j := 0) rfl, c, _, rfl, DPut.k (k := .inl st.1) ec4 (small (by omega)), ?_⟩
      have nAc : ai ≠ c := ne_of hai4 ec4 (fun z => by cases z)
      have v1 : (V.int ((cnt (ss.take i) st.1 : Nat) + 1) : V) = .int (cnt (ss.take (i + 1)) st.1 : Nat) := by
        rw [cnt_take gsi, if_pos rfl]; rfl
      have vnew : ∀ s : Int, valV (putK cs (.inl st.1) (.int ((cnt (ss.take i) st.1 : Nat) + 1))) (.inl s) = if cnt (ss.take (i + 1)) s = 0 then none else some (.int (cnt (ss.take (i + 1)) s)) := fun s => by
        rw [valV_put]
        by_cases e : s = st.1
        · subst e
          rw [if_pos rfl, v1, if_neg (by rw [cnt_take gsi, if_pos rfl]; omega)]
        · have e0 : cnt (ss.take (i + 1)) s = cnt (ss.take i) s := by rw [cnt_take gsi, if_neg (fun z => e z.symm)]; rfl
          rw [if_neg (fun z => e (Sum.inl.inj z)), vc, e0]
      have ec5 : (upd H4 c (.dK (putK cs (.inl st.1) (.int ((cnt (ss.take i) st.1 : Nat) + 1))))) c = some (.dK (putK cs (.inl st.1) (.int ((cnt (ss.take i) st.1 : Nat) + 1)))) := upd_same
      have ed5 : (upd H4 c (.dK (putK cs (.inl st.1) (.int ((cnt (ss.take i) st.1 : Nat) + 1))))) d = some (.dT (putK kvs (key3 st) (.bl true))) := (upd_ne nDC).trans ed4
      have hai5 : (upd H4 c (.dK (putK cs (.inl st.1) (.int ((cnt (ss.take i) st.1 : Nat) + 1))))) ai = some (tup3 st) := (upd_ne nAc).trans hai4
      have S5 : Same H (upd H4 c (.dK (putK cs (.inl st.1) (.int ((cnt (ss.take i) st.1 : Nat) + 1))))) := same_set nCH S4
      have l5 := length_putK cs (.inl st.1) (.int ((cnt (ss.take i) st.1 : Nat) + 1))
      generalize upd H4 c (.dK (putK cs (.inl st.1) (.int ((cnt (ss.take i) st.1 : Nat) + 1)))) = H5 at ec5 ed5 hai5 S5 ⊢
      have g5 := vnew st.1
      rw [if_neg (by rw [cnt_take gsi, if_pos rfl]; omega)] at g5
      have le8 : (cnt (ss.take (i + 1)) st.1 : Int) ≤ 8 := by
        have h1 := cnt_le ss (i + 1) st.1
        have h2 := gs.few st.1
        omega
      refine ⟨.ref c, rfl, .ref ai, rfl, ai, _, 0, .int st.1, rfl, rfl, .inl (.inl hai5), atI_nat (j := 0) rfl, c, .int (cnt (ss.take (i + 1)) st.1 : Nat), rfl, ?_, (cnt (ss.take (i + 1)) st.1 : Nat), 8, rfl, rfl, _, rfl, ?_⟩
      · have dg := DGet.k (k := .inl st.1) ec5
        rw [g5] at dg
        exact dg
      · rw [decide_eq_false (show ¬ (8 : Int) < (cnt (ss.take (i + 1)) st.1 : Nat) by omega)]
        refine iteF ⟨_, _, rfl, S5, ⟨_, ed5, ?_, fun k => ?_⟩, _, ec5, by omega, vnew⟩
        · have := length_putK kvs (key3 st) (.bl true)
          omega
        · rw [putK_new _ no, List.map_append, List.mem_append, mk, take_more gsi, List.map_append, List.mem_append]
          exact Iff.rfl
    · obtain ⟨y3, y4, rfl, S, _⟩ := hP
      exact q H' S

/-! ### faults -/
/-- what a walk over the items of a dict asks -/
theorem for_items {d : Addr} {o : Obj} {kvs : List (Key × V)} {g : TG} {tb : TS} {D : Ends} {σ : L2.St} {H : Hp} (Pv : Nat → L2.St → Hp → Prop) (h0 : Pv 0 σ H) (hl : ∀ i σ H, i ≤ kvs.length → Pv i σ H → H d = some (.frz o (.dK kvs)))
    (hs : ∀ (i : Nat) (k : Key) (v : V) (T : Addr) (σ : L2.St) (H : Hp), kvs[i]? = some (k, v) → H T = none → Pv i σ H → g (.ref T) σ (upd H T (.tup [kV k, v])) fun σ2 H2 => tb { D with nx := Pv (i + 1), ct := Pv (i + 1), bk := D.nx } σ2 H2) (hd : ∀ σ H, Pv kvs.length σ H → D.nx σ H) :
    ∃ W : Nat → Nat → L2.St → Hp → Prop, (∃ m, W 0 m σ H) ∧ ∀ i m σ H, W i m σ H →
      ((Iti d o kvs).stop i H ∧ D.nx σ H) ∨ ((Iti d o kvs).go i H ∧ ∃ N : L2.St → Hp → Prop, (∀ σ' H', N σ' H' → ∃ m', m' < m ∧ W (i + 1) m' σ' H') ∧ ∀ x H', (Iti d o kvs).yld i H x H' → g x σ H' fun σ2 H2 => tb { D with nx := N, ct := N, bk := D.nx } σ2 H2) := by
  refine ⟨fun i m σ H => m = kvs.length - i ∧ i ≤ kvs.length ∧ Pv i σ H, ⟨kvs.length, rfl, Nat.zero_le _, h0⟩, fun i m σ H ⟨em, hi, p⟩ => ?_⟩
  have q := hl i σ H hi p
  rcases Nat.lt_or_eq_of_le hi with lt | e
  · refine .inr ⟨⟨q, lt⟩, Pv (i + 1), fun σ' H' p' => ⟨kvs.length - (i + 1), by omega, rfl, lt, p'⟩, fun v H' ⟨T, k, u, ek, ev, nT, eH⟩ => ?_⟩
    subst ev eH
    exact hs i k u T σ H ek nT p
  · subst e
    exact .inl ⟨⟨q, Nat.le_refl _⟩, hd σ H p⟩
/-- the pairs of a dict of faults -/
def fkv (fs : List (Str × Str)) : List (Key × V) := fs.map fun p => (Sum.inr p.1, .str p.2)
theorem fkv_get {fs : List (Str × Str)} {i : Nat} {k : Key} {v : V} (h : (fkv fs)[i]? = some (k, v)) : ∃ x y, fs[i]? = some (x, y) ∧ k = .inr x ∧ v = .str y := by
  unfold fkv at h
  rw [List.getElem?_map] at h
  cases e : fs[i]? with
  | none => rw [e] at h; cases h
  | some p => rw [e] at h; cases h; exact ⟨p.1, p.2, rfl, rfl, rfl⟩
structure GoodFaults (fs : List (Str × Str)) (ws : List Str) : Prop where
  word : ∀ p ∈ fs, nameB (.str p.1) = true ∧ p.1 ∈ ws ∧ nameB (.str p.2) = true
  few : (KnS.allL (fs.map fun p => Sum.inr p.2)).length ≤ 3
  len : fs.length ≤ 1000
/-- the faults as they are passed: None (no faults), or a dict -/
def FArg (H : Hp) (v : V) (fs : List (Str × Str)) : Prop := (v = .non ∧ fs = []) ∨ ∃ d, v = .ref d ∧ H d = some (.dK (fkv fs))
theorem FArg.mono {H H' : Hp} {v : V} {fs : List (Str × Str)} (h : FArg H v fs) (s : Same H H') : FArg H' v fs := by
  rcases h with h | ⟨d, e, h⟩
  · exact .inl h
  · exact .inr ⟨d, e, s _ _ h⟩
def sp_check_faults (_ : PySem.W.Frag) : Sp := fun vs H Q _ => ∃ (v : V) (fs : List (Str × Str)) (l : Addr) (ws : List Str), vs = [v, .ref l] ∧ FArg H v fs ∧ H l = some (.lst (ws.map V.str)) ∧ GoodFaults fs ws ∧ ∀ H', Same H H' → Q .non H'
theorem inV_strs {x : Str} {ws : List Str} : inV (.str x) (ws.map V.str) = decide (x ∈ ws) := by
  unfold inV
  induction ws with
  | nil => rfl
  | cons y r ih =>
    rw [List.map_cons, List.any_cons, ih]
    have e : eqV (.str y) (.str x) = decide (y = x) := by
      show (y == x) = decide (y = x)
      by_cases z : y = x
      · rw [z]; simp
      · rw [decide_eq_false z]; exact beq_eq_false_iff_ne.mpr z
    rw [e]
    by_cases z : y = x
    · subst z; simp
    · have z' : ¬ x = y := fun q => z q.symm
      simp [z, z']
theorem flat_ws (ws : List Str) : (ws.map V.str).all flatV = true := by
  rw [List.all_map]
  exact List.all_eq_true.mpr fun _ _ => rfl
theorem foldL_mono : ∀ (l acc : List Key), acc.length ≤ (l.foldl KnS.addL acc).length
  | [], _ => Nat.le_refl _
  | k :: l, acc => by
    refine Nat.le_trans ?_ (foldL_mono l (KnS.addL acc k))
    unfold KnS.addL
    by_cases z : KnS.hasL acc k = true
    · rw [if_pos z]; exact Nat.le_refl _
    · rw [if_neg z, List.length_append]; exact Nat.le_add_right _ _
theorem putK_keys {kvs : List (Key × V)} {k : Key} {v : V} : (putK kvs k v).map (·.1) = KnS.addL (kvs.map (·.1)) k := by
  unfold putK KnS.addL
  have e : (kvs.any fun kv => decide (kv.1 = k)) = KnS.hasL (kvs.map (·.1)) k := by
    unfold KnS.hasL
    rw [List.any_map]; rfl
  rw [e]
  by_cases z : KnS.hasL (kvs.map (·.1)) k = true
  · rw [if_pos z, if_pos z, List.map_map]
    refine List.map_congr_left fun p _ => ?_
    show (if p.1 = k then (p.1, v) else p).1 = p.1
    split <;> rfl
  · rw [if_neg z, if_neg z, List.map_append]; rfl
theorem ok_check_faults {f : Addr} {C D S : Addr} {fd : FuncData} (T : Txt K mg C D S) (F : Fun K "check_faults" "check_faults" s_check_faults f fd) (c_is_name : Cal P w K mg base 1 "is_name" (sp_is_name K) []) : FnOk P w K mg base CX0 2 f fd ["faults", "words"] (sp_check_faults K) := by
  have nd := sc_check_faults.nd
  refine F.ok sc_check_faults (fun vs H Q E h => ?_) (fun cdv A outer s H vs Q E hr h => ?_)
  · obtain ⟨v, fs, l, ws, rfl, _⟩ := h
    rfl
  · obtain ⟨v, fs, l, ws, rfl, hf, hl, gf, q⟩ := h
    refine ⟨_, (pss_cons (ps_if (pt_cmpR op_isN (pv 0) pe_non (nomark _)) (pss_one (ps_retN)) pss_nil)
      (pss_cons (ps_if (pt_not (pt_val (pe_callB call_isi (by rfl) T.m_isinstance (by decide +kernel) (pa_cons (pv 0) (pa_cons (pe_bltn (v := .ty "dict") (u := .type "dict") (by rfl) T.m_dict (by decide +kernel) rfl) pa_nil))))) (pss_one ps_never) pss_nil)
      (pss_cons (ps_set (i := 2) nd rfl (.inl rfl) pe_dnewK)
      (pss_one (ps_lock (ps_for PassesOwn.never rfl (pi_items (pv 0)) (pg_tup (by rfl) (pgs_cons (pg_name (i := 3) nd rfl (.inl rfl)) (pgs_cons (pg_name (i := 4) nd rfl (.inl rfl)) pgs_nil))) (pss_cons (ps_if (PW.pt (pw_or (pt_not (pt_val (pe_c c_is_name hr (by omega) (by rfl) (pa_cons (pv 3) pa_nil)))) (pw_or (pt_cmpR op_notIn_seq (pv 3) (pv 1) (by with_unfolding_all rfl)) (pw_or1 (pt_not (pt_val (pe_c c_is_name hr (by omega) (by rfl) (pa_cons (pv 4) pa_nil)))))))) (pss_one ps_never) pss_nil)
      (pss_cons (ps_dput (hu_of hr) (pv 2) (pv 4) pe_bl rfl)
      (pss_one (ps_if (pt_cmpR op_gt (pe_callB call_lenD (by rfl) T.m_len (by decide +kernel) (pa_cons (pv 2) pa_nil)) (pe_gc (by rfl) T.c_MOST_FAULTS) (nomark _)) (pss_one ps_never) pss_nil)))))))))), ?_⟩
    rcases hf with ⟨rfl, rfl⟩ | ⟨d, rfl, hd⟩
    · exact ⟨.non, rfl, rfl, _, rfl, iteT (q H (Same.refl H))⟩
    · refine ⟨.ref d, rfl, rfl, _, rfl, iteF ?_⟩
      refine ⟨.ref d, rfl, .ref d, .ty "dict", .type "dict", _, true, rfl, .ty _, .base (.dK hd), kit_ty (show kitB "dict" "dict" = some true by decide +kernel), _, rfl, iteF ?_⟩
      refine fun c nC => ?_
      have S0 := same_upd (o := .dK []) nC
      have nDC : d ≠ c := ne_of_none hd nC
      have ed0 := S0 _ _ hd
      have ec0 := upd_same (H := H) (a := c) (o := .dK [])
      generalize upd H c (.dK []) = H0 at S0 ed0 ec0 ⊢
      refine ⟨d, .dK (fkv fs), ed0, trivial, fun od => ?_⟩
      have back : ∀ {H' : Hp}, (∀ b o, b ≠ d → H b = some o → H' b = some o) → Same H (upd H' d (.dK (fkv fs))) := fun k b o e => by
        by_cases z : b = d
        · rw [z] at e ⊢
          rw [hd] at e
          cases e
          exact upd_same
        · rw [upd_ne z]; exact k b o z e
      refine ⟨.ref d, rfl, d, od, fkv fs, rfl, upd_same, ?_⟩
      refine for_items (fun i σ H' => ∃ y3 y4, σ = [some (.ref d), some (.ref l), some (.ref c), y3, y4] ∧ H' d = some (.frz od (.dK (fkv fs))) ∧ (∀ b o, b ≠ d → H b = some o → H' b = some o) ∧ ∃ cs, H' c = some (.dK cs) ∧ cs.map (·.1) = KnS.allL ((fs.take i).map fun p => Sum.inr p.2))
        ⟨none, none, rfl, upd_same, fun b o z e => (upd_ne z).trans (S0 _ _ e), [], (upd_ne nDC.symm).trans ec0, rfl⟩ (fun i σ H' _ hP => hP.choose_spec.choose_spec.2.1) (fun i k v T σ H' hx nT hP => ?_) (fun σ H' hP => ?_)
      · obtain ⟨y3, y4, rfl, ed, S, cs, ec, kc⟩ := hP
        obtain ⟨x, y, gx, rfl, rfl⟩ := fkv_get hx
        obtain ⟨g1, g2, g3⟩ := gf.word _ (List.mem_of_getElem? gx)
        have hi : i < fs.length := (List.getElem?_eq_some_iff.mp gx).1
        have lenf := gf.len
        have sT := same_upd (o := .tup [.str x, .str y]) nT
        have ed2 := sT _ _ ed
        have ec2 := sT _ _ ec
        have S2 : ∀ b o, b ≠ d → H b = some o → (upd H' T (.tup [.str x, .str y])) b = some o := fun b o z e => sT _ _ (S b o z e)
        have eT : (upd H' T (.tup [.str x, .str y])) T = some (.tup [.str x, .str y]) := upd_same
        show gTup _ _ _ _ _ (upd H' T (.tup [.str x, .str y])) _
        generalize upd H' T (.tup [.str x, .str y]) = H2 at ed2 ec2 S2 eT ⊢
        refine ⟨T, [.str x, .str y], rfl, .inl (.inl eT), rfl, .str x, [.str y], rfl, .str y, [], rfl, rfl, ?_⟩
        have zx : x.cps.size ≤ 12 := (name_size g1).2
        have zy : y.cps.size ≤ 12 := (name_size g3).2
        refine ⟨.str x, rfl, .str x, rfl, .str x (by omega), fun H3 s3 => ⟨_, rfl, ?_⟩⟩
        rw [g1]
        have nlc : l ≠ d := ne_of hl hd (fun z => by cases z)
        have hl3 : H3 l = some (.lst (ws.map V.str)) := s3 _ _ (S2 l _ nlc hl)
        refine iteF ⟨.str x, rfl, .ref l, rfl, l, ws.map V.str, rfl, .inl (.inl (.inl hl3)), rfl, flat_ws ws, _, rfl, ?_⟩
        show if (!inV (.str x) (ws.map V.str)) = true then _ else _
        rw [inV_strs, decide_eq_true g2]
        refine iteF ⟨.str y, rfl, .str y, rfl, .str y (by omega), fun H4 s4 => ⟨_, rfl, ?_⟩⟩
        rw [g3]
        refine iteF ?_
        have ec4 := s4 _ _ (s3 _ _ ec2)
        have ed4 := s4 _ _ (s3 _ _ ed2)
        have S4 : ∀ b o, b ≠ d → H b = some o → H4 b = some o := fun b o z e => s4 _ _ (s3 _ _ (S2 b o z e))
        have hcs : cs.length ≤ i := by
          have h1 := congrArg List.length kc
          have h2 := KnS.foldL_length ((fs.take i).map fun p => (Sum.inr p.2 : Key)) []
          rw [List.length_map] at h1
          rw [List.length_map, List.length_take] at h2
          have h3 : ([] : List Key).length = 0 := rfl
          unfold KnS.allL at h1
          omega
        refine ⟨.ref c, rfl, .str y, rfl, c, _, rfl, DPut.k (k := .inr y) ec4 (small (by omega)), ?_⟩
        have kn : (putK cs (.inr y) (.bl true)).map (·.1) = KnS.allL ((fs.take (i + 1)).map fun p => Sum.inr p.2) := by
          rw [putK_keys, kc, take_more gx, List.map_append]
          unfold KnS.allL
          rw [List.foldl_append]
          rfl
        have few3 : (putK cs (.inr y) (.bl true)).length ≤ 3 := by
          have h1 := congrArg List.length kn
          rw [List.length_map] at h1
          rw [h1]
          refine Nat.le_trans ?_ gf.few
          have e : (fs.map fun p => (Sum.inr p.2 : Key)) = ((fs.take (i + 1)).map fun p => Sum.inr p.2) ++ ((fs.drop (i + 1)).map fun p => Sum.inr p.2) := by
            rw [← List.map_append, List.take_append_drop]
          rw [e]
          unfold KnS.allL
          rw [List.foldl_append]
          exact foldL_mono _ _
        refine ⟨.ref c, rfl, c, putK cs (.inr y) (.bl true), rfl, upd_same, ((putK cs (.inr y) (.bl true)).length : Int), 3, rfl, rfl, _, rfl, ?_⟩
        rw [decide_eq_false (show ¬ (3 : Int) < ((putK cs (.inr y) (.bl true)).length : Int) by omega)]
        refine iteF ⟨_, _, rfl, (upd_ne nDC).trans ed4, fun b o z e => (upd_ne (ne_of_none e nC)).trans (S4 b o z e), _, upd_same, kn⟩
      · obtain ⟨y3, y4, rfl, ed, S, _⟩ := hP
        exact ⟨ed, q _ (back S)⟩

/-! ### moves by state -/
/-- the moves that leave s, in order -/
def mv (ss : List KnA.Stp) (s : Int) : List (Str × Int) := (ss.filter fun x => decide (x.1 = s)).map (·.2)
theorem mv_take {ss : List KnA.Stp} {i : Nat} {st : KnA.Stp} (h : ss[i]? = some st) (s : Int) : mv (ss.take (i + 1)) s = mv (ss.take i) s ++ if st.1 = s then [st.2] else [] := by
  unfold mv
  rw [take_more h, List.filter_append, List.map_append]
  by_cases e : st.1 = s
  · simp [List.filter_cons, e]
  · simp [List.filter_cons, e]
theorem mv_mem {ss : List KnA.Stp} {s : Int} {m : Str × Int} : m ∈ mv ss s ↔ (s, m) ∈ ss := by
  unfold mv
  rw [List.mem_map]
  constructor
  · rintro ⟨x, hx, rfl⟩
    obtain ⟨h1, h2⟩ := List.mem_filter.mp hx
    have e := of_decide_eq_true h2
    rw [← e]
    exact h1
  · intro h
    exact ⟨_, List.mem_filter.mpr ⟨h, decide_eq_true rfl⟩, rfl⟩
abbrev tup2 (m : Str × Int) : HO := .tup [.str m.1, .int m.2]
def Mvs (H : Hp) (as : List Addr) (ms : List (Str × Int)) : Prop := Paired (fun a m => H a = some (tup2 m)) as ms
theorem Mvs.mono {H H' : Hp} {as : List Addr} {ms : List (Str × Int)} (h : Mvs H as ms) (s : Same H H') : Mvs H' as ms := Paired.mapP h fun _ _ e => s _ _ e
/-- the dict at d: for each state the list of its moves -/
def Leaves (H : Hp) (d : Addr) (ss : List KnA.Stp) : Prop := ∃ kvs, H d = some (.dK kvs) ∧ ∀ s : Int, if mv ss s = [] then valV kvs (.inl s) = none else ∃ l as, valV kvs (.inl s) = some (.ref l) ∧ H l = some (.lst (as.map V.ref)) ∧ Mvs H as (mv ss s)
theorem Leaves.mono {H H' : Hp} {d : Addr} {ss : List KnA.Stp} (h : Leaves H d ss) (s : Same H H') : Leaves H' d ss := by
  obtain ⟨kvs, e, h⟩ := h
  refine ⟨kvs, s _ _ e, fun x => ?_⟩
  have q := h x
  by_cases z : mv ss x = []
  · rw [if_pos z] at q ⊢; exact q
  · rw [if_neg z] at q ⊢
    obtain ⟨l, as, a, b, c⟩ := q
    exact ⟨l, as, a, s _ _ b, c.mono s⟩
def sp_moves_by_state (_ : PySem.W.Frag) : Sp := fun vs H Q _ => ∃ b a as ss, vs = [.ref a] ∧ H a = some (rowO b (as.map V.ref)) ∧ Stps H as ss ∧ ss.length ≤ 1000 ∧ ∀ H' d, Same H H' → Leaves H' d ss → Q (.ref d) H'
/-- .. while it is built: the lists are new, one for each state -/
structure Built (H H' : Hp) (d : Addr) (kvs : List (Key × V)) (ss : List KnA.Stp) : Prop where
  at_ : H' d = some (.dK kvs)
  len : kvs.length ≤ ss.length
  no : ∀ s : Int, mv ss s = [] → valV kvs (.inl s) = none
  yes : ∀ s : Int, mv ss s ≠ [] → ∃ l as, valV kvs (.inl s) = some (.ref l) ∧ H l = none ∧ H' l = some (.lst (as.map V.ref)) ∧ Mvs H' as (mv ss s)
  apart : ∀ s t : Int, ∀ l, valV kvs (.inl s) = some (.ref l) → valV kvs (.inl t) = some (.ref l) → s = t
theorem Built.leaves {H H' : Hp} {d : Addr} {kvs : List (Key × V)} {ss : List KnA.Stp} (B : Built H H' d kvs ss) : Leaves H' d ss := by
  refine ⟨kvs, B.at_, fun s => ?_⟩
  by_cases z : mv ss s = []
  · rw [if_pos z]; exact B.no s z
  · rw [if_neg z]
    obtain ⟨l, as, a, _, b, c⟩ := B.yes s z
    exact ⟨l, as, a, b, c⟩
theorem lst_ne_tup {H : Hp} {l a : Addr} {xs ys : List V} (h1 : H l = some (.lst xs)) (h2 : H a = some (.tup ys)) : a ≠ l := ne_of h2 h1 (fun z => by cases z)
theorem Mvs.upd {H : Hp} {as : List Addr} {ms : List (Str × Int)} {l : Addr} {xs : List V} {o : HO} (h : Mvs H as ms) (hl : H l = some (.lst xs)) : Mvs (upd H l o) as ms :=
  Paired.mapP h fun _ _ e => (upd_ne (lst_ne_tup hl e)).trans e
/-- one step more, of a state that has moves already -/
theorem Built.more {H H' : Hp} {d : Addr} {kvs : List (Key × V)} {ss : List KnA.Stp} {i : Nat} {st : KnA.Stp} (B : Built H H' d kvs (ss.take i)) (g : ss[i]? = some st) {l T : Addr} {as : List Addr} (hv : valV kvs (.inl st.1) = some (.ref l)) (hl : H' l = some (.lst (as.map V.ref)))
    (hm : Mvs H' as (mv (ss.take i) st.1)) (hT : H' T = none) : Built H (upd (upd H' T (tup2 st.2)) l (.lst (as.map V.ref ++ [.ref T]))) d kvs (ss.take (i + 1)) := by
  have nd : d ≠ l := ne_of B.at_ hl (fun z => by cases z)
  have ndT : d ≠ T := ne_of_none B.at_ hT
  have nlT : l ≠ T := ne_of_none hl hT
  have sT := same_upd (o := tup2 st.2) hT
  have hl1 := sT _ _ hl
  refine ⟨(upd_ne nd).trans (sT _ _ B.at_), ?_, fun s hs => ?_, fun s hs => ?_, B.apart⟩
  · have := B.len
    have hi : i < ss.length := (List.getElem?_eq_some_iff.mp g).1
    rw [List.length_take] at this ⊢
    omega
  · rw [mv_take g] at hs
    exact B.no s (List.append_eq_nil_iff.mp hs).1
  · by_cases e : st.1 = s
    · subst e
      have nl : H l = none := by
        have z : mv (ss.take i) st.1 ≠ [] := fun z => by rw [B.no _ z] at hv; cases hv
        obtain ⟨l', _, hv', hn, _⟩ := B.yes _ z
        rw [hv] at hv'
        cases hv'
        exact hn
      refine ⟨l, as ++ [T], hv, nl, by rw [upd_same, List.map_append]; rfl, ?_⟩
      rw [mv_take g, if_pos rfl]
      exact ((hm.mono sT).upd hl1).snoc ((upd_ne (lst_ne_tup hl1 upd_same)).trans upd_same)
    · rw [mv_take g, if_neg e, List.append_nil] at hs ⊢
      obtain ⟨l', as', hv', hn', hl', hm'⟩ := B.yes s hs
      have ne : l' ≠ l := fun z => e (B.apart _ _ l hv (z ▸ hv'))
      exact ⟨l', as', hv', hn', (upd_ne ne).trans (sT _ _ hl'), (hm'.mono sT).upd hl1⟩
/-- .. of a state that has none yet -/
theorem Built.first {H H' : Hp} {d : Addr} {kvs : List (Key × V)} {ss : List KnA.Stp} {i : Nat} {st : KnA.Stp} (S : Same H H') (hd : H d = none) (B : Built H H' d kvs (ss.take i)) (g : ss[i]? = some st) {l T : Addr} (hv : valV kvs (.inl st.1) = none) (hl : H' l = none)
    (hT : (upd (upd H' l (.lst [])) d (.dK (putK kvs (.inl st.1) (.ref l)))) T = none) :
    Built H (upd (upd (upd (upd H' l (.lst [])) d (.dK (putK kvs (.inl st.1) (.ref l)))) T (tup2 st.2)) l (.lst [.ref T])) d (putK kvs (.inl st.1) (.ref l)) (ss.take (i + 1)) := by
  have ndl : d ≠ l := ne_of_none B.at_ hl
  have s1 := same_upd (o := .lst []) hl
  have hl2 : (upd (upd H' l (.lst [])) d (.dK (putK kvs (.inl st.1) (.ref l)))) l = some (.lst []) := (upd_ne ndl.symm).trans upd_same
  have hd2 : (upd (upd H' l (.lst [])) d (.dK (putK kvs (.inl st.1) (.ref l)))) d = some (.dK (putK kvs (.inl st.1) (.ref l))) := upd_same
  have old : ∀ b o, b ≠ d → H' b = some o → (upd (upd H' l (.lst [])) d (.dK (putK kvs (.inl st.1) (.ref l)))) b = some o := fun b o z e => (upd_ne z).trans (s1 _ _ e)
  have nolist : ∀ b xs, H' b = some (.lst xs) → b ≠ d := fun b xs e z => by rw [z, B.at_] at e; cases e
  have notup : ∀ b xs, H' b = some (.tup xs) → b ≠ d := fun b xs e z => by rw [z, B.at_] at e; cases e
  generalize upd (upd H' l (.lst [])) d (.dK (putK kvs (.inl st.1) (.ref l))) = H2 at hT hl2 hd2 old ⊢
  have sT := same_upd (o := tup2 st.2) hT
  have hl3 := sT _ _ hl2
  have nlT : l ≠ T := ne_of_none hl2 hT
  have empty : mv (ss.take i) st.1 = [] := by
    by_cases z : mv (ss.take i) st.1 = []
    · exact z
    · obtain ⟨_, _, hv', _⟩ := B.yes _ z
      rw [hv] at hv'
      cases hv'
  refine ⟨(upd_ne ndl).trans (sT _ _ hd2), ?_, fun s hs => ?_, fun s hs => ?_, fun s t l' h1 h2 => ?_⟩
  · have h1 := B.len
    have h2 := length_putK kvs (.inl st.1 : Key) (.ref l)
    have hi : i < ss.length := (List.getElem?_eq_some_iff.mp g).1
    rw [List.length_take] at h1 ⊢
    omega
  · rw [mv_take g] at hs
    obtain ⟨h1, h2⟩ := List.append_eq_nil_iff.mp hs
    have ne : ¬ st.1 = s := fun e => by rw [if_pos e] at h2; cases h2
    rw [valV_put, if_neg fun z => ne (Sum.inl.inj z).symm]
    exact B.no s h1
  · by_cases e : st.1 = s
    · subst e
      refine ⟨l, [T], by rw [valV_put, if_pos rfl], S.free hl, upd_same, ?_⟩
      rw [mv_take g, if_pos rfl, empty]
      exact .cons ((upd_ne nlT.symm).trans upd_same) .nil
    · rw [mv_take g, if_neg e, List.append_nil] at hs ⊢
      obtain ⟨l', as', hv', hn', hl', hm'⟩ := B.yes s hs
      have ne : l' ≠ l := ne_of_none hl' hl
      refine ⟨l', as', by rw [valV_put, if_neg fun z => e (Sum.inl.inj z).symm]; exact hv', hn', (upd_ne ne).trans (sT _ _ (old _ _ (nolist _ _ hl') hl')), ?_⟩
      have hm2 : Mvs H2 as' (mv (ss.take i) s) := Paired.mapP hm' fun _ _ q => old _ _ (notup _ _ q) q
      exact (hm2.mono sT).upd hl3
  · rw [valV_put] at h1 h2
    have nol : ∀ t : Int, valV kvs (.inl t) = some (.ref l) → False := fun t q => by
      have z : mv (ss.take i) t ≠ [] := fun z => by rw [B.no _ z] at q; cases q
      obtain ⟨l'', _, q', _, q2, _⟩ := B.yes _ z
      rw [q] at q'
      cases q'
      rw [hl] at q2
      cases q2
    by_cases e1 : s = st.1
    · by_cases e2 : t = st.1
      · rw [e1, e2]
      · rw [if_pos (congrArg Sum.inl e1)] at h1
        rw [if_neg fun z => e2 (Sum.inl.inj z)] at h2
        cases h1
        exact (nol t h2).elim
    · rw [if_neg fun z => e1 (Sum.inl.inj z)] at h1
      by_cases e2 : t = st.1
      · rw [if_pos (congrArg Sum.inl e2)] at h2
        cases h2
        exact (nol s h1).elim
      · rw [if_neg fun z => e2 (Sum.inl.inj z)] at h2
        exact B.apart s t l' h1 h2
theorem ok_moves_by_state {f : Addr} {C D S : Addr} {fd : FuncData} (T : Txt K mg C D S) (F : Fun K "moves_by_state" "moves_by_state" s_moves_by_state f fd)  : FnOk P w K mg base CX0 1 f fd ["steps"] (sp_moves_by_state K) := by
  have nd := sc_moves_by_state.nd
  refine F.ok sc_moves_by_state (fun vs H Q E h => ?_) (fun cdv A outer s H vs Q E hr h => ?_)
  · obtain ⟨b, a, as, ss, rfl, _⟩ := h
    rfl
  · obtain ⟨b, a, as, ss, rfl, ha, hst, lss, q⟩ := h
    refine ⟨_, (pss_cons (ps_set (i := 1) nd rfl (.inl rfl) pe_dnewK)
      (pss_cons (ps_for PassesOwn.never rfl (KnE.pi_seq (pv 0)) (pg_tup (by rfl) (pgs_cons (pg_name (i := 2) nd rfl (.inl rfl)) (pgs_cons (pg_name (i := 3) nd rfl (.inl rfl)) (pgs_cons (pg_name (i := 4) nd rfl (.inl rfl)) pgs_nil)))) (pss_one (ps_expr (pe_bm PySem.F.plainAttrs_list PySem.F.slot_list_append PySem.F.type_list_append mt_append (pe_dsetd (pv 1) (pv 2) (pe_lst pa_nil) ⟨rfl, rfl, rfl, rfl⟩) (pa_cons (pe_tup (pa_cons (pv 3) (pa_cons (pv 4) pa_nil))) pa_nil)))))
      (pss_one (ps_ret (pv 1))))), ?_⟩
    refine fun d nD => ?_
    have S0 := same_upd (o := .dK []) nD
    refine ⟨.ref a, rfl, a, b, rfl, ⟨_, row_sq (S0 _ _ ha)⟩, ?_⟩
    refine KnE.for_seq (K := K) (xs := as.map V.ref) (fun i σ H' => ∃ y2 y3 y4 kvs, σ = [some (.ref a), some (.ref d), y2, y3, y4] ∧ Same H H' ∧ Built H H' d kvs (ss.take i))
      ⟨none, none, none, [], rfl, S0, upd_same, Nat.zero_le _, fun _ _ => rfl, fun s hs => (hs rfl).elim, fun s t l h => by cases h⟩ (fun i σ H' _ hP => ?_) (fun i x σ H' hx hP => ?_) (fun σ H' hP => ?_)
    · obtain ⟨_, _, _, _, _, S, _⟩ := hP
      exact row_sq (S _ _ ha)
    · obtain ⟨y2, y3, y4, kvs, rfl, S, B⟩ := hP
      obtain ⟨ai, st, rfl, gi, g, hai⟩ := ref_get (hst.mono S) hx
      refine ⟨ai, _, rfl, .inl (.inl hai), rfl, .int st.1, _, rfl, .str st.2.1, _, rfl, .int st.2.2, [], rfl, rfl, ?_⟩
      refine ⟨.ref d, rfl, d, rfl, .inl ⟨kvs, .inl B.at_⟩, .int st.1, rfl, szl rfl, fun l nl => ?_⟩
      have hi : i < ss.length := (List.getElem?_eq_some_iff.mp g).1
      have lk := B.len
      rw [List.length_take] at lk
      have ndl : d ≠ l := ne_of_none B.at_ nl
      have ed1 : (upd H' l (.lst [])) d = some (.dK kvs) := (upd_ne ndl).trans B.at_
      have S1 := same_upd (o := .lst []) nl
      refine ⟨kvs, .inl st.1, ed1, rfl, small (by omega), fun v hv => ?_, fun hv => ?_⟩
      · -- the list is there
        have z : mv (ss.take i) st.1 ≠ [] := fun z => by rw [B.no _ z] at hv; cases hv
        obtain ⟨l', as', hv', hn', hl', hm'⟩ := B.yes _ z
        rw [hv] at hv'
        cases hv'
        have hl1 := S1 _ _ hl'
        have B1 : Built H (upd H' l (.lst [])) d kvs (ss.take i) := ⟨ed1, B.len, B.no, fun s hs => let ⟨l, as, a, b, c, e⟩ := B.yes s hs; ⟨l, as, a, b, S1 _ _ c, e.mono S1⟩, B.apart⟩
        refine ⟨.inl ⟨rfl, _, .inl (.inl hl1)⟩, .str st.2.1, rfl, .int st.2.2, rfl, szl rfl, fun T nT => ?_⟩
        have ST := same_upd (o := tup2 st.2) nT
        refine ⟨l', as'.map V.ref, .ref T, rfl, rfl, ST _ _ hl1, ?_, ?_⟩
        · rw [List.length_map, hm'.length]
          unfold mv
          rw [List.length_map]
          refine small (Nat.le_trans (List.length_filter_le _ _) ?_)
          rw [List.length_take]
          omega
        · exact ⟨_, _, _, kvs, rfl, same_set hn' (S.trans (S1.trans ST)), B1.more g hv hl1 (hm'.mono S1) nT⟩
      · -- it is the state's first
        have hl1 : (upd (upd H' l (.lst [])) d (.dK (putK kvs (.inl st.1) (.ref l)))) l = some (.lst []) := (upd_ne ndl.symm).trans upd_same
        refine ⟨.inl ⟨rfl, _, .inl (.inl hl1)⟩, .str st.2.1, rfl, .int st.2.2, rfl, szl rfl, fun T nT => ?_⟩
        have ST := same_upd (o := tup2 st.2) nT
        refine ⟨l, [], .ref T, rfl, rfl, ST _ _ hl1, small (by decide), ?_⟩
        refine ⟨_, _, _, _, rfl, same_set (S.free nl) ((same_set nD (S.trans S1)).trans ST), B.first S nD g hv nl nT⟩
    · obtain ⟨y2, y3, y4, kvs, rfl, S, B⟩ := hP
      rw [List.length_map, hst.length, List.take_length] at B
      exact ⟨.ref d, rfl, q H' d S B.leaves⟩

/-! ### reached states -/
def sp_reached_states (_ : PySem.W.Frag) : Sp := fun vs H Q _ => ∃ (s0 : Int) (d : Addr) (ss : List KnA.Stp), vs = [.int s0, .ref d] ∧ stateB (.int s0) = true ∧ GoodSteps ss ∧ Leaves H d ss ∧ ∀ H' a ns, Same H H' → H a = none → H' a = some (.lst (ns.map V.int)) → KnA.States ns ss s0 → Q (.ref a) H'
theorem few_nat : ∀ (n : Nat) (l : List Nat), l.Nodup → (∀ x ∈ l, x < n) → l.length ≤ n
  | 0, l, _, h => by
    cases l with
    | nil => exact Nat.le_refl _
    | cons x r => exact absurd (h x List.mem_cons_self) (Nat.not_lt_zero _)
  | n + 1, l, d, h => by
    have ih := few_nat n (l.erase n) (d.erase n) (fun x hx => by
      have h1 := h x (List.mem_of_mem_erase hx)
      have h2 := ((List.Nodup.mem_erase_iff d).mp hx).1
      omega)
    have := List.length_erase (a := n) (l := l)
    by_cases z : n ∈ l
    · rw [if_pos z] at this; omega
    · rw [if_neg z] at this; omega
theorem few_int {l : List Int} (d : l.Nodup) (h : ∀ x ∈ l, 0 ≤ x ∧ x ≤ 99) : l.length ≤ 100 := by
  have := few_nat 100 (l.map Int.toNat) (List.pairwise_map.mpr (d.imp_of_mem fun ha hb ne e => ne (by have := h _ ha; have := h _ hb; omega))) (fun x hx => by
    obtain ⟨y, hy, rfl⟩ := List.mem_map.mp hx
    have := h y hy
    omega)
  rwa [List.length_map] at this
theorem state_in {x : Int} (h : stateB (.int x) = true) : 0 ≤ x ∧ x ≤ 99 := by
  have h' : (decide (0 ≤ x) && decide (x ≤ 99)) = true := h
  rw [Bool.and_eq_true] at h'
  exact ⟨of_decide_eq_true h'.1, of_decide_eq_true h'.2⟩
/-- the dict of the reached states -/
def rkv (R : List Int) : List (Key × V) := R.map fun x => (Sum.inl x, .bl true)
theorem rkv_in (R : List Int) (y : Int) : (valV (rkv R) (.inl y)).isSome = decide (y ∈ R) := by
  rw [← valV_any]
  unfold rkv
  induction R with
  | nil => rfl
  | cons x r ih =>
    rw [List.map_cons, List.any_cons, ih]
    by_cases e : x = y
    · subst e; simp
    · have e' : ¬ y = x := fun q => e q.symm
      simp [e, e']
theorem rkv_put {R : List Int} {y : Int} (h : y ∉ R) : putK (rkv R) (.inl y) (.bl true) = rkv (R ++ [y]) := by
  rw [putK_new]
  · unfold rkv; rw [List.map_append]; rfl
  · have := rkv_in R y
    rw [decide_eq_false h] at this
    cases e : valV (rkv R) (.inl y) with
    | none => rfl
    | some v => rw [e] at this; cases this
/-- the walk: R is reached, W waits; x is under way, its moves up to the i-th are done -/
structure Walk (ss : List KnA.Stp) (s0 : Int) (R W : List Int) (un : Int → Prop) : Prop where
  nd : R.Nodup
  le : W.length ≤ R.length
  sub : ∀ x ∈ W, x ∈ R
  re : ∀ x ∈ R, KnA.Reach ss s0 x
  st : ∀ x ∈ R, 0 ≤ x ∧ x ≤ 99
  s0 : s0 ∈ R
  cl : ∀ x w y, x ∈ R → x ∉ W → ¬ un x → (x, w, y) ∈ ss → y ∈ R
theorem Walk.few {ss : List KnA.Stp} {s0 : Int} {R W : List Int} {un : Int → Prop} (h : Walk ss s0 R W un) : R.length ≤ 100 := few_int h.nd h.st
theorem Walk.push {ss : List KnA.Stp} {s0 : Int} {R W : List Int} {un : Int → Prop} (h : Walk ss s0 R W un) {y : Int} (hy : y ∉ R) (hr : KnA.Reach ss s0 y) (hs : 0 ≤ y ∧ y ≤ 99) : Walk ss s0 (R ++ [y]) (W ++ [y]) un := by
  have mem : ∀ {l : List Int} {x : Int}, x ∈ l ++ [y] ↔ x ∈ l ∨ x = y := fun {l x} => by rw [List.mem_append, List.mem_singleton]
  refine ⟨?_, by rw [List.length_append, List.length_append]; exact Nat.add_le_add_right h.le _, fun x hx => ?_, fun x hx => ?_, fun x hx => ?_, mem.mpr (.inl h.s0), fun x w z hx hw hu hm => ?_⟩
  · refine List.nodup_append.mpr ⟨h.nd, by simp, fun a ha b hb e => ?_⟩
    rw [List.mem_singleton] at hb
    exact hy (hb ▸ e ▸ ha)
  · rcases mem.mp hx with q | q
    · exact mem.mpr (.inl (h.sub x q))
    · exact mem.mpr (.inr q)
  · rcases mem.mp hx with q | q
    · exact h.re x q
    · rw [q]; exact hr
  · rcases mem.mp hx with q | q
    · exact h.st x q
    · rw [q]; exact hs
  · have nw : x ∉ W := fun q => hw (mem.mpr (.inl q))
    have ny : ¬ x = y := fun q => hw (mem.mpr (.inr q))
    exact mem.mpr (.inl (h.cl x w z ((mem.mp hx).resolve_right ny) nw hu hm))
theorem ok_reached_states {f : Addr} {C D S : Addr} {fd : FuncData} (T : Txt K mg C D S) (F : Fun K "reached_states" "reached_states" s_reached_states f fd)  : FnOk P w K mg base CX0 1 f fd ["start", "leaving"] (sp_reached_states K) := by
  have nd := sc_reached_states.nd
  refine F.ok sc_reached_states (fun vs H Q E h => ?_) (fun cdv A outer s H vs Q E hr h => ?_)
  · obtain ⟨s0, d, ss, rfl, _⟩ := h
    rfl
  · obtain ⟨s0, d, ss, rfl, st0, gs, hd, q⟩ := h
    refine ⟨_, (pss_cons (ps_set (i := 2) nd rfl (.inl rfl) (pe_disp (pps_cons (pv 0) pe_bl pps_nil) (by rfl) (by rfl) (fun z => by cases z) (by decide)))
      (pss_cons (ps_set (i := 3) nd rfl (.inl rfl) (pe_lst (pa_cons (pv 0) pa_nil)))
      (pss_cons (ps_while PassesOwn.never (pt_cmpR op_gt (pe_callB call_len (by rfl) T.m_len (by decide +kernel) (pa_cons (pv 3) pa_nil)) pe_int (nomark _)) (pss_cons (ps_set (i := 4) nd rfl (.inl rfl) (pe_dget2 (hu_of hr) (pv 1) (pe_bm0 PySem.F.plainAttrs_list PySem.F.slot_list_pop PySem.F.type_list_pop mt_pop (pv 3)) (pe_lst pa_nil) ⟨rfl, rfl, rfl, rfl⟩))
      (pss_one (ps_for PassesOwn.never rfl (pi_list (pv 4)) (pg_tup (by rfl) (pgs_cons (pg_name (i := 5) nd rfl (.inl rfl)) (pgs_cons (pg_name (i := 6) nd rfl (.inl rfl)) pgs_nil))) (pss_one (ps_if (pt_cmp (pc_dnotin (hu_of hr) (pv 6) (pv 2))) (pss_cons (ps_dput (hu_of hr) (pv 2) (pv 6) pe_bl rfl)
      (pss_one (ps_expr (pe_bm PySem.F.plainAttrs_list PySem.F.slot_list_append PySem.F.type_list_append mt_append (pv 3) (pa_cons (pv 6) pa_nil))))) pss_nil))))))
      (pss_one (ps_ret (pe_callB cr_sortedI (by rfl) T.m_sorted (by decide +kernel) (pa_cons (pe_callTy (call_listD rfl) (by rfl) T.m_list (by decide +kernel) (pa_cons (pv 2) pa_nil)) pa_nil))))))), ?_⟩
    refine fun r nr => ⟨.int s0, rfl, upd_same, [(.inl s0, .bl true)], rfl, Nat.le_of_ble_eq_true rfl, .int s0, rfl, szl rfl, fun wa nw => ?_⟩
    rw [upd_upd] at nw ⊢
    have s1 := same_upd (o := .dK (mergeK [] [((.inl s0 : Key), V.bl true)])) nr
    have s2 := same_upd (o := .lst [.int s0]) nw
    have nrw : r ≠ wa := fun e => by rw [e, upd_same] at nw; cases nw
    have nwH : H wa = none := s1.free nw
    refine ⟨fun m σ H' => ∃ y4 y5 y6 R W, σ = [some (.int s0), some (.ref d), some (.ref r), some (.ref wa), y4, y5, y6] ∧ Same H H' ∧ H' r = some (.dK (rkv R)) ∧ H' wa = some (.lst (W.map V.int)) ∧ Walk ss s0 R W (fun _ => False) ∧ m = 2 * (101 - R.length) + W.length,
      ⟨_, none, none, none, [s0], [s0], rfl, s1.trans s2, (upd_ne nrw).trans upd_same, upd_same, ⟨by simp, Nat.le_refl _, fun x hx => hx, fun x hx => by rw [List.mem_singleton.mp hx]; exact .start, fun x hx => by rw [List.mem_singleton.mp hx]; exact state_in st0, List.mem_singleton.mpr rfl, fun x w y hx hn => absurd hx hn⟩, rfl⟩, fun m σ H' hW => ?_⟩
    obtain ⟨y4, y5, y6, R, W, rfl, S, er, ew, wk, rfl⟩ := hW
    refine ⟨.ref wa, rfl, .ref wa, (W.map V.int).length, rfl, .inl ⟨_, .inl (.inl ew), rfl⟩, ((W.map V.int).length : Int), 0, rfl, rfl, _, rfl, ?_⟩
    rw [List.length_map]
    by_cases z : W = []
    · subst z
      refine iteF ⟨.ref r, rfl, r, rkv R, rfl, .inl er, fun p np => ?_⟩
      have em : (rkv R).map (fun kv => kV kv.1) = R.map V.int := by unfold rkv; rw [List.map_map]; rfl
      rw [em]
      have sp := same_upd (o := .lst (R.map V.int)) np
      refine ⟨p, R, rfl, .inl (.inl upd_same), fun ns o hp hs no => ?_⟩
      refine q _ o ns (S.trans (sp.trans (same_upd no))) (S.free (sp.free no)) upd_same ⟨KnA.lt_of_le hs (hp.symm.nodup wk.nd), fun x => ?_⟩
      rw [hp.mem_iff]
      exact KnA.reach_of wk.s0 (fun x w y hx => wk.cl x w y hx (fun z => nomatch z) id) wk.re x
    · have lw : 0 < W.length := List.length_pos_iff.mpr z
      rw [decide_eq_true (show (0 : Int) < (W.length : Int) by omega)]
      refine iteT ⟨fun σ' H'' => ∃ y4 y5 y6 R' W', σ' = [some (.int s0), some (.ref d), some (.ref r), some (.ref wa), y4, y5, y6] ∧ Same H H'' ∧ H'' r = some (.dK (rkv R')) ∧ H'' wa = some (.lst (W'.map V.int)) ∧ Walk ss s0 R' W' (fun _ => False) ∧ 2 * (101 - R'.length) + W'.length < 2 * (101 - R.length) + W.length,
        fun σ' H'' ⟨y4, y5, y6, R', W', e, a1, a2, a3, a4, a5⟩ => ⟨_, a5, y4, y5, y6, R', W', e, a1, a2, a3, a4, rfl⟩, ?_⟩
      have hD : ∀ {G : Hp}, Same H G → IsD G d := fun s => let ⟨kvs, e, _⟩ := hd; .inl ⟨kvs, .inl (s _ _ e)⟩
      obtain ⟨x, hx⟩ : ∃ x, W[W.length - 1]? = some x := ⟨_, List.getElem?_eq_getElem (by omega)⟩
      have hxR := wk.sub x (List.mem_of_getElem? hx)
      refine ⟨.ref d, rfl, d, rfl, hD S, .ref wa, rfl, .inl ⟨rfl, _, .inl (.inl ew)⟩, wa, W.map V.int, .int x, rfl, rfl, ew, by rw [List.length_map, List.getElem?_map, hx]; rfl, szl rfl, fun p np => ?_⟩
      have nr2 : r ≠ wa := nrw
      have S2 : Same H (upd H' wa (.lst (W.map V.int).dropLast)) := same_set nwH S
      have er2 : (upd H' wa (.lst (W.map V.int).dropLast)) r = some (.dK (rkv R)) := (upd_ne nr2).trans er
      have ew2 : (upd H' wa (.lst (W.map V.int).dropLast)) wa = some (.lst (W.dropLast.map V.int)) := by rw [upd_same, List.map_dropLast]
      generalize upd H' wa (.lst (W.map V.int).dropLast) = H2 at np S2 er2 ew2 ⊢
      have sp := same_upd (o := .lst []) np
      have S3 := S2.trans sp
      have er3 := sp _ _ er2
      have ew3 := sp _ _ ew2
      obtain ⟨o, ml, as, dg, eo, hml, hms, nmr, nmw⟩ : ∃ o ml as, DGet (upd H2 p (.lst [])) d (.int x) o ∧ o.getD (.ref p) = .ref ml ∧ (upd H2 p (.lst [])) ml = some (.lst (as.map V.ref)) ∧ Mvs (upd H2 p (.lst [])) as (mv ss x) ∧ ml ≠ r ∧ ml ≠ wa := by
        obtain ⟨kvs, ed, hk⟩ := hd
        refine ⟨valV kvs (.inl x), ?_⟩
        have hkx := hk x
        have dg : DGet (upd H2 p (.lst [])) d (.int x) (valV kvs (.inl x)) := DGet.k (k := .inl x) (S3 _ _ ed)
        by_cases e : mv ss x = []
        · rw [if_pos e] at hkx
          refine ⟨p, [], dg, by rw [hkx]; rfl, upd_same, by rw [e]; exact .nil, (ne_of_none er2 np).symm, (ne_of_none ew2 np).symm⟩
        · rw [if_neg e] at hkx
          obtain ⟨l, as, h1, h2, h3⟩ := hkx
          exact ⟨l, as, dg, by rw [h1]; rfl, S3 _ _ h2, h3.mono S3, ne_of_none h2 nr, ne_of_none h2 nwH⟩
      refine ⟨o, dg, ?_⟩
      rw [eo]
      generalize upd H2 p (.lst []) = H3 at S3 er3 ew3 hml hms
      have wk0 : Walk ss s0 R W.dropLast (fun u => u = x) := ⟨wk.nd, by rw [List.length_dropLast]; have := wk.le; omega, fun u hu => wk.sub u ((List.dropLast_sublist W).subset hu), wk.re, wk.st, wk.s0, fun u w y hu hn hne hm => wk.cl u w y hu (fun hin => by
          have sp : W = W.dropLast ++ [x] := by
            have := List.dropLast_concat_getLast z
            rw [List.getLast_eq_getElem] at this
            have e2 : W[W.length - 1]'(by omega) = x := (List.getElem?_eq_some_iff.mp hx).2
            rw [e2] at this
            exact this.symm
          rw [sp, List.mem_append, List.mem_singleton] at hin
          exact hin.elim hn hne) id hm⟩
      refine ⟨.ref ml, rfl, ml, rfl, ⟨_, .inl (.inl hml)⟩, ?_⟩
      refine for_list (K := K) (xs := as.map V.ref) (fun i σ H' => ∃ y5 y6 R' W', σ = [some (.int s0), some (.ref d), some (.ref r), some (.ref wa), some (.ref ml), y5, y6] ∧ Same H H' ∧ H' r = some (.dK (rkv R')) ∧ H' wa = some (.lst (W'.map V.int)) ∧ Walk ss s0 R' W' (fun u => u = x) ∧
          H' ml = some (.lst (as.map V.ref)) ∧ Mvs H' as (mv ss x) ∧ (∀ y ∈ (mv ss x).take i, y.2 ∈ R') ∧ x ∈ R' ∧ 2 * (101 - R'.length) + W'.length < 2 * (101 - R.length) + W.length)
        ⟨_, _, R, W.dropLast, rfl, S3, er3, ew3, wk0, hml, hms, fun y hy => absurd hy (by simp), hxR, by rw [List.length_dropLast]; omega⟩
        (fun i σ H' _ ⟨_, _, _, _, _, _, _, _, _, h, _⟩ => .inl (.inl h)) (fun i v σ H' hv hP => ?_) (fun σ H' hP => ?_)
      · obtain ⟨y5, y6, R', W', rfl, S, er, ew, wk, hml, hms, hin, hxR, lt⟩ := hP
        rw [List.getElem?_map] at hv
        cases ga : as[i]? with
        | none => rw [ga] at hv; cases hv
        | some ai =>
        rw [ga] at hv
        cases hv
        obtain ⟨m, gm, hai⟩ := paired_get hms ga
        have hss : (x, m.1, m.2) ∈ ss := mv_mem.mp (List.mem_of_getElem? gm)
        have takeM := take_more gm
        refine ⟨ai, _, rfl, .inl (.inl hai), rfl, .str m.1, _, rfl, .int m.2, [], rfl, rfl, ?_⟩
        refine ⟨.int m.2, rfl, .ref r, rfl, r, valV (rkv R') (.inl m.2), rfl, DGet.k (k := .inl m.2) er, _, rfl, ?_⟩
        rw [rkv_in]
        by_cases y : m.2 ∈ R'
        · rw [decide_eq_true y]
          refine iteF ⟨_, _, R', W', rfl, S, er, ew, wk, hml, hms, fun u hu => ?_, hxR, lt⟩
          rw [takeM, List.mem_append, List.mem_singleton] at hu
          rcases hu with hu | hu
          · exact hin u hu
          · rw [hu]; exact y
        · rw [decide_eq_false y]
          have few := wk.few
          have lrk : (rkv R').length = R'.length := List.length_map _
          refine iteT ⟨.ref r, rfl, .int m.2, rfl, r, _, rfl, DPut.k (k := .inl m.2) er (small (by omega)), ?_⟩
          rw [rkv_put y]
          have ew4 : (upd H' r (.dK (rkv (R' ++ [m.2])))) wa = some (.lst (W'.map V.int)) := (upd_ne nrw.symm).trans ew
          have S4 : Same H (upd H' r (.dK (rkv (R' ++ [m.2])))) := same_set nr S
          have hml4 : (upd H' r (.dK (rkv (R' ++ [m.2])))) ml = some (.lst (as.map V.ref)) := (upd_ne nmr).trans hml
          have hms4 : Mvs (upd H' r (.dK (rkv (R' ++ [m.2])))) as (mv ss x) := Paired.mapP hms fun _ _ e => (upd_ne (ne_of e er (fun z => by cases z))).trans e
          have er4 : (upd H' r (.dK (rkv (R' ++ [m.2])))) r = some (.dK (rkv (R' ++ [m.2]))) := upd_same
          generalize upd H' r (.dK (rkv (R' ++ [m.2]))) = H4 at S4 ew4 hml4 hms4 er4
          have le := wk.le
          refine ⟨.ref wa, rfl, .inl ⟨rfl, _, .inl (.inl ew4)⟩, .int m.2, rfl, wa, _, .int m.2, rfl, rfl, ew4, small (by rw [List.length_map]; omega), ?_⟩
          refine ⟨_, _, R' ++ [m.2], W' ++ [m.2], rfl, same_set nwH S4, (upd_ne nrw).trans er4, by rw [upd_same, List.map_append]; rfl, wk.push y (.step (wk.re x hxR) hss) (state_in (gs.good _ hss).t), (upd_ne nmw).trans hml4, Paired.mapP hms4 fun _ _ e => (upd_ne (ne_of e ew4 (fun z => by cases z))).trans e, fun u hu => ?_, List.mem_append.mpr (.inl hxR), ?_⟩
          · rw [takeM, List.mem_append, List.mem_singleton] at hu
            rcases hu with hu | hu
            · exact List.mem_append.mpr (.inl (hin u hu))
            · rw [hu]; exact List.mem_append.mpr (.inr (List.mem_singleton.mpr rfl))
          · have f2 := (wk.push y (.step (wk.re x hxR) hss) (state_in (gs.good _ hss).t)).few
            rw [List.length_append] at f2 ⊢
            rw [List.length_append]
            have e1 : [m.2].length = 1 := rfl
            rw [e1] at f2 ⊢
            omega
      · obtain ⟨y5, y6, R', W', rfl, S, er, ew, wk, hml, hms, hin, hxR, lt⟩ := hP
        refine ⟨_, _, _, R', W', rfl, S, er, ew, ⟨wk.nd, wk.le, wk.sub, wk.re, wk.st, wk.s0, fun u w y hu hn _ hm => ?_⟩, lt⟩
        by_cases e : u = x
        · subst e
          rw [List.length_map, hms.length, List.take_length] at hin
          exact hin _ (mv_mem.mpr hm)
        · exact wk.cl u w y hu hn e hm

/-! ### a machine -/
def look (fs : List (Str × Str)) (x : Str) : Option Str := (fs.find? fun p => decide (p.1 = x)).map (·.2)
/-- the faults in the order of the words -/
def orderF (ws : List Str) (fs : List (Str × Str)) : List (Str × Str) := ws.filterMap fun x => (look fs x).map fun n => (x, n)
theorem look_val (fs : List (Str × Str)) (x : Str) : valV (fkv fs) (.inr x) = (look fs x).map V.str := by
  unfold look fkv
  induction fs with
  | nil => rfl
  | cons p r ih =>
    obtain ⟨y, n⟩ := p
    by_cases e : y = x
    · rw [List.find?_cons_of_pos (by simp [e])]
      unfold valV
      rw [List.map_cons, List.find?_cons_of_pos (by simp [e])]
      rfl
    · rw [List.find?_cons_of_neg (by simp [e]), ← ih]
      unfold valV
      rw [List.map_cons, List.find?_cons_of_neg (by simp [e])]
theorem order_take {ws : List Str} {fs : List (Str × Str)} {i : Nat} {x : Str} (h : ws[i]? = some x) : orderF (ws.take (i + 1)) fs = orderF (ws.take i) fs ++ (match look fs x with | none => [] | some n => [(x, n)]) := by
  unfold orderF
  rw [take_more h, List.filterMap_append]
  congr 1
  rw [List.filterMap_cons]
  cases look fs x <;> rfl
theorem order_keys {ws : List Str} {fs : List (Str × Str)} {p : Str × Str} (h : p ∈ orderF ws fs) : p.1 ∈ ws := by
  unfold orderF at h
  obtain ⟨x, hx, e⟩ := List.mem_filterMap.mp h
  cases g : look fs x with
  | none => rw [g] at e; cases e
  | some n => rw [g] at e; cases e; exact hx
theorem order_len (ws : List Str) (fs : List (Str × Str)) : (orderF ws fs).length ≤ ws.length := List.length_filterMap_le _ _
theorem order_nil (ws : List Str) : orderF ws [] = [] := by
  unfold orderF
  induction ws with
  | nil => rfl
  | cons x r ih => rw [List.filterMap_cons]; exact ih
theorem val_none {fs : List (Str × Str)} {x : Str} (h : ∀ p ∈ fs, p.1 ≠ x) : valV (fkv fs) (.inr x) = none := by
  rw [look_val]
  unfold look
  rw [List.find?_eq_none.mpr fun p hp => by simp [h p hp]]; rfl
def mflds (s0 : Int) (ls lw df lt : Addr) : List (Str × V) := putF "_states" (.ref lt) (putF "_faults" (.ref df) (putF "_words" (.ref lw) (putF "_steps" (.ref ls) (putF "_start" (.int s0) []))))
theorem mf_start (s0 : Int) (ls lw df lt : Addr) : (mflds s0 ls lw df lt).lookup ("_start" : Str) = some (.int s0) := by
  unfold mflds; simp only [lookup_putF]; rw [if_neg (by decide +kernel), if_neg (by decide +kernel), if_neg (by decide +kernel), if_neg (by decide +kernel), if_pos True.intro]
theorem mf_steps (s0 : Int) (ls lw df lt : Addr) : (mflds s0 ls lw df lt).lookup ("_steps" : Str) = some (.ref ls) := by
  unfold mflds; simp only [lookup_putF]; rw [if_neg (by decide +kernel), if_neg (by decide +kernel), if_neg (by decide +kernel), if_pos True.intro]
theorem mf_words (s0 : Int) (ls lw df lt : Addr) : (mflds s0 ls lw df lt).lookup ("_words" : Str) = some (.ref lw) := by
  unfold mflds; simp only [lookup_putF]; rw [if_neg (by decide +kernel), if_neg (by decide +kernel), if_pos True.intro]
theorem mf_faults (s0 : Int) (ls lw df lt : Addr) : (mflds s0 ls lw df lt).lookup ("_faults" : Str) = some (.ref df) := by
  unfold mflds; simp only [lookup_putF]; rw [if_neg (by decide +kernel), if_pos True.intro]
theorem mf_states (s0 : Int) (ls lw df lt : Addr) : (mflds s0 ls lw df lt).lookup ("_states" : Str) = some (.ref lt) := by
  unfold mflds; simp only [lookup_putF]; rw [if_pos True.intro]
structure MachO (C : Addr) (H : Hp) (p dx ls lw df lt : Addr) (as : List Addr) (ws : List Str) (ns : List Int) (s0 : Int) (ss : List KnA.Stp) (fs : List (Str × Str)) : Prop where
  ob : H p = some (.ins C dx (mflds s0 ls lw df lt))
  hs : H ls = some (.lst (as.map V.ref))
  st : Stps H as ss
  hw : H lw = some (.lst (ws.map V.str))
  wo : KnA.Words ws (ss.map (·.2.1))
  hf : H df = some (.dK (fkv (orderF ws fs)))
  ht : H lt = some (.lst (ns.map V.int))
  re : KnA.States ns ss s0
/-- a machine stands at p -/
def MachAt (C : Addr) (H : Hp) (p : Addr) (s0 : Int) (ss : List KnA.Stp) (fs : List (Str × Str)) : Prop := ∃ dx ls lw df lt as ws ns, MachO C H p dx ls lw df lt as ws ns s0 ss fs
theorem MachAt.mono {C : Addr} {H H' : Hp} {p : Addr} {s0 : Int} {ss : List KnA.Stp} {fs : List (Str × Str)} (h : MachAt C H p s0 ss fs) (s : Same H H') : MachAt C H' p s0 ss fs := by
  obtain ⟨dx, ls, lw, df, lt, as, ws, ns, m⟩ := h
  exact ⟨dx, ls, lw, df, lt, as, ws, ns, s _ _ m.ob, s _ _ m.hs, m.st.mono s, s _ _ m.hw, m.wo, s _ _ m.hf, s _ _ m.ht, m.re⟩
/-- what makes a machine -/
structure GoodMach (s0 : Int) (ss : List KnA.Stp) (fs : List (Str × Str)) : Prop where
  st0 : stateB (.int s0) = true
  gs : GoodSteps ss
  few : ∀ ws, KnA.Words ws (ss.map (·.2.1)) → ws.length ≤ 14
  gf : GoodFaults fs (ss.map (·.2.1))
  live : ∀ x, KnA.Reach ss s0 x → ∃ w y, (x, w, y) ∈ ss
theorem GoodFaults.at_ {fs : List (Str × Str)} {ws xs : List Str} (g : GoodFaults fs xs) (h : KnA.Words ws xs) : GoodFaults fs ws := ⟨fun p hp => let ⟨a, b, c⟩ := g.word p hp; ⟨a, (h.mem _).mpr b, c⟩, g.few, g.len⟩
def sp_Machine_init (K : PySem.W.Frag) (C : Addr) : Sp := fun vs H Q _ => ∃ (p dx a : Addr) (s0 : Int) (v : V) (b : Bool) (as : List Addr) (ss : List KnA.Stp) (fs : List (Str × Str)), vs = [.ref p, .int s0, .ref a, v] ∧ H p = some (.ins C dx []) ∧
  H a = some (rowO b (as.map V.ref)) ∧ Stps H as ss ∧ FArg H v fs ∧ GoodMach s0 ss fs ∧ ∀ H' dx ls lw df lt ws ns, (∀ b o, H b = some o → b ≠ p → H' b = some o) → MachO C H' p dx ls lw df lt as ws ns s0 ss fs → H ls = none → H lw = none → H df = none → H lt = none → Q .non H'
theorem ok_Machine_init {f : Addr} {C D S : Addr} {fd : FuncData} (T : Txt K mg C D S) (F : KnD.FunX K "__init__" "Machine.__init__" s_Machine_init f fd) (c_is_state : Cal P w K mg base 2 "is_state" (sp_is_state K) []) (c_check_steps : Cal P w K mg base 4 "check_steps" (sp_check_steps K) []) (c_check_faults : Cal P w K mg base 2 "check_faults" (sp_check_faults K) []) (c_moves_by_state : Cal P w K mg base 1 "moves_by_state" (sp_moves_by_state K) []) (c_reached_states : Cal P w K mg base 1 "reached_states" (sp_reached_states K) []) : FnOk P w K mg base CX0 5 f fd ["self", "start", "steps", "faults"] (sp_Machine_init K C) := by
  have nd := sc_Machine_init.nd
  refine F.ok sc_Machine_init (fun vs H Q E h => ?_) (fun cdv A outer s H vs Q E hr h => ?_)
  · obtain ⟨p, dx, a, s0, v, b, as, ss, fs, rfl, _⟩ := h
    rfl
  · obtain ⟨p, dx, a, s0, v, b, as, ss, fs, rfl, hp, ha, hst, hf, gm, q⟩ := h
    refine ⟨_, (pss_cons (ps_if (pt_not (pt_val (pe_c c_is_state hr (by omega) (by rfl) (pa_cons (pv 1) pa_nil)))) (pss_one ps_never) pss_nil)
      (pss_cons (ps_expr (pe_c c_check_steps hr (by omega) (by rfl) (pa_cons (pv 2) pa_nil)))
      (pss_cons (ps_set (i := 4) nd rfl (.inl rfl) (pe_callB (show CallR _ (.builtin "sorted") (KnS.rSortedL P w) from KnS.cr_sortedL rfl) (by rfl) T.m_sorted (by decide +kernel) (pa_cons (KnS.scL (own := [("step", 8)]) (g := gName 8) (tt := tYes) rfl nd (KnE.pi_seq (pv 2)) (blkOk_by (own := [("step", 8)]) (N := ["self", "start", "steps", "faults", "words", "leaving", "states", "state", "step", "word"]) (sc := defScope s_Machine_init) (by decide +kernel)) (fun _ _ _ _ _ => (pg_name (i := 8) nd rfl (.inl rfl))) (fun _ _ _ _ _ => pts_nil) (fun _ _ _ _ _ => (pe_ix (r := rIxT K) ix_tup (pv 8) pe_int (fun _ _ => rfl)))) pa_nil)))
      (pss_cons (ps_if (pt_cmpR op_gt (pe_callB call_len (by rfl) T.m_len (by decide +kernel) (pa_cons (pv 4) pa_nil)) (pe_gc (by rfl) T.c_MOST_WORDS) (nomark _)) (pss_one ps_never) pss_nil)
      (pss_cons (ps_expr (pe_c c_check_faults hr (by omega) (by rfl) (pa_cons (pv 3) (pa_cons (pv 4) pa_nil))))
      (pss_cons (ps_set (i := 5) nd rfl (.inl rfl) (pe_c c_moves_by_state hr (by omega) (by rfl) (pa_cons (pv 2) pa_nil)))
      (pss_cons (ps_set (i := 6) nd rfl (.inl rfl) (pe_c c_reached_states hr (by omega) (by rfl) (pa_cons (pv 1) (pa_cons (pv 5) pa_nil))))
      (pss_cons (ps_for PassesOwn.never rfl (pi_list (pv 6)) (pg_name (i := 7) nd rfl (.inl rfl)) (pss_one (ps_if (pt_cmp (pc_dnotin (hu_of hr) (pv 7) (pv 5))) (pss_one ps_never) pss_nil)))
      (pss_cons (ps_fld (pv 0) (pv 1) rfl)
      (pss_cons (ps_fld (pv 0) (pe_callTy call_list_of (by rfl) T.m_list (by decide +kernel) (pa_cons (pv 2) pa_nil)) rfl)
      (pss_cons (ps_fld (pv 0) (pv 4) rfl)
      (pss_cons (ps_fld (pv 0) (pe_ifExp (pt_cmpR op_isN (pv 3) pe_non (nomark _)) pe_dnewK (pe_dc (own := [("word", 9)]) (g := gName 9) rfl nd (pi_list (pv 4)) (blkOk_by (own := [("word", 9)]) (N := ["self", "start", "steps", "faults", "words", "leaving", "states", "state", "step", "word"]) (sc := defScope s_Machine_init) (by decide +kernel)) (fun _ _ _ _ _ => (pg_name (i := 9) nd rfl (.inl rfl))) (fun _ _ _ _ _ => (pts_one (pt_cmp (pc_din (hu_of hr) (pv 9) (pv 3))))) (fun _ _ _ _ _ => (pv 9)) (fun _ _ _ _ _ => (pe_dget (hu_of hr) (pv 3) (pv 9) (fun _ _ => rfl))))) rfl)
      (pss_one (ps_fld (pv 0) (pv 6) rfl)))))))))))))), ?_⟩
    have gs := gm.gs
    refine ⟨.int s0, rfl, .int s0, rfl, .int _, fun H1 s1 => ⟨_, rfl, ?_⟩⟩
    rw [gm.st0]
    refine iteF ?_
    refine ⟨.ref a, rfl, b, a, as, ss, rfl, s1 _ _ ha, hst.mono s1, gs, fun H2 s2' => ?_⟩
    have s2 := s1.trans s2'
    refine ⟨.ref a, rfl, a, b, rfl, ⟨_, row_sq (s2 _ _ ha)⟩, fun D nD => ?_⟩
    have nDH : H D = none := s2.free nD
    have hi := gs.hi
    have lst : (as.map V.ref).length = ss.length := by rw [List.length_map, hst.length]
    refine KnC.sc_seq (P := P) (w := w) (K := K) (b := b) (a := a) (xs := as.map V.ref) (fun i H' => Same H H' ∧ ∃ xs : List Str, H' D = some (KnS.SetL P w D (xs.map Sum.inr)) ∧ xs.Nodup ∧ xs.length ≤ i ∧ ∀ x, x ∈ xs ↔ x ∈ (ss.take i).map (·.2.1))
      ⟨same_set nDH s2, [], upd_same, List.nodup_nil, Nat.le_refl _, fun x => Iff.rfl⟩ (fun i H' _ hP => row_sq (hP.1 _ _ ha)) (fun i x H' hx hP => ?_) (fun H' hP => ?_)
    · obtain ⟨S, xs, eD, nx, lx, mx⟩ := hP
      obtain ⟨ai, st, rfl, gi, gsi, hai⟩ := ref_get (hst.mono S) hx
      have hi80 : i < ss.length := (List.getElem?_eq_some_iff.mp gsi).1
      refine ⟨rfl, ?_⟩
      unfold tYes
      refine iteT ?_
      refine ⟨.ref ai, rfl, ai, [.int st.1, .str st.2.1, .int st.2.2], 1, .str st.2.1, rfl, rfl, .inl (.inl hai), atI_nat (j := 1) rfl, .inr st.2.1, _, rfl, eD, by rw [List.length_map]; unfold scanBound; omega, same_set nDH S, _, by rw [upd_same, KnC.addL_strs], ?_, ?_, fun x => ?_⟩
      · by_cases z : st.2.1 ∈ xs
        · rw [if_pos z]; exact nx
        · rw [if_neg z]
          refine List.nodup_append.mpr ⟨nx, by simp, fun a ha b hb e => ?_⟩
          rw [List.mem_singleton] at hb
          exact z (hb ▸ e ▸ ha)
      · by_cases z : st.2.1 ∈ xs
        · rw [if_pos z]; omega
        · rw [if_neg z, List.length_append]; exact Nat.succ_le_succ lx
      · rw [take_more gsi, List.map_append, List.mem_append, ← mx]
        by_cases z : st.2.1 ∈ xs
        · rw [if_pos z]
          refine ⟨.inl, fun y => y.elim id fun e => ?_⟩
          rw [List.mem_singleton.mp e]; exact z
        · rw [if_neg z, List.mem_append]; exact Iff.rfl
    · obtain ⟨S, xs, eD, nx, lx, mx⟩ := hP
      rw [lst, List.take_length] at mx
      refine ⟨D, xs, rfl, eD, fun ws lw pw sw nw => ?_⟩
      have hws : KnA.Words ws (ss.map (·.2.1)) := ⟨KnA.sorted_pair sw, pw.symm.nodup nx, fun x => pw.mem_iff.trans (mx x)⟩
      have few := gm.few ws hws
      have S3 := S.trans (same_upd (o := .lst (ws.map V.str)) nw)
      have ew : (upd H' lw (.lst (ws.map V.str))) lw = some (.lst (ws.map V.str)) := upd_same
      have nwH : H lw = none := S.free nw
      generalize upd H' lw (.lst (ws.map V.str)) = H3 at S3 ew
      refine ⟨.ref lw, rfl, .ref lw, (ws.map V.str).length, rfl, .inl ⟨_, .inl (.inl ew), rfl⟩, ((ws.map V.str).length : Int), 14, rfl, rfl, _, rfl, ?_⟩
      rw [List.length_map, decide_eq_false (show ¬ (14 : Int) < (ws.length : Int) by omega)]
      refine iteF ⟨v, rfl, .ref lw, rfl, v, fs, lw, ws, rfl, hf.mono S3, ew, gm.gf.at_ hws, fun H4 s4' => ?_⟩
      have S4 := S3.trans s4'
      have ew4 := s4' _ _ ew
      refine ⟨.ref a, rfl, b, a, as, ss, rfl, S4 _ _ ha, hst.mono S4, Nat.le_trans hi (by decide), fun H5 d s5' hd => ?_⟩
      have S5 := S4.trans s5'
      have ew5 := s5' _ _ ew4
      refine ⟨.int s0, rfl, .ref d, rfl, s0, d, ss, rfl, gm.st0, gs, hd, fun H6 lt ns s6' nlt elt hns => ?_⟩
      have S6 := S5.trans s6'
      have ew6 := s6' _ _ ew5
      have hd6 := hd.mono s6'
      have nltH : H lt = none := S5.free nlt
      refine ⟨.ref lt, rfl, lt, rfl, ⟨_, .inl (.inl elt)⟩, ?_⟩
      refine for_list (K := K) (xs := ns.map V.int) (fun i σ H' => ∃ y7, σ = [some (.ref p), some (.int s0), some (.ref a), some v, some (.ref lw), some (.ref d), some (.ref lt), y7, none, none] ∧ H' = H6) ⟨none, rfl, rfl⟩ (fun i σ H' _ ⟨_, _, e⟩ => by rw [e]; exact .inl (.inl elt)) (fun i x σ H' hx hP => ?_) (fun σ H' hP => ?_)
      · obtain ⟨y7, rfl, rfl⟩ := hP
        rw [List.getElem?_map] at hx
        cases gx : ns[i]? with
        | none => rw [gx] at hx; cases hx
        | some n =>
        rw [gx] at hx
        cases hx
        obtain ⟨kvs, ed, hk⟩ := hd6
        obtain ⟨w', y', hm⟩ := gm.live n ((hns.mem n).mp (List.mem_of_getElem? gx))
        have hkn := hk n
        have ne : mv ss n ≠ [] := List.ne_nil_of_mem (mv_mem.mpr (show (n, (w', y')) ∈ ss from hm))
        rw [if_neg ne] at hkn
        obtain ⟨l, as', hv, _⟩ := hkn
        have dg : DGet H' d (.int n) (valV kvs (.inl n)) := DGet.k (k := .inl n) ed
        rw [hv] at dg
        exact ⟨.int n, rfl, .ref d, rfl, d, _, rfl, dg, _, rfl, iteF ⟨_, rfl, rfl⟩⟩
      · obtain ⟨y7, rfl, rfl⟩ := hP
        have kp : ∀ {G : Hp} {o : HO} {b : Addr}, b ≠ p → (upd G p o) b = G b := fun h => upd_ne h
        have hp6 := S6 _ _ hp
        -- self._start = start
        refine ⟨.int s0, rfl, .ref p, rfl, p, C, dx, [], rfl, hp6, T.cl, T.n__start, by show 0 < 1000; decide, ?_⟩
        -- self._steps = list(steps)
        have npa : a ≠ p := ne_of ha hp (fun z => by cases b <;> cases z)
        have eah : (upd H' p (.ins C dx (putF "_start" (.int s0) []))) a = some (rowO b (as.map V.ref)) := (kp npa).trans (S6 _ _ ha)
        have len1 : ∀ (f : Str) (x : V) (l : List (Str × V)) (n : Nat), l.length ≤ n → (putF f x l).length ≤ n + 1 := fun f x l n h => Nat.le_trans (length_putF f x l) (Nat.succ_le_succ h)
        have l1 : (putF ("_start" : Str) (.int s0) []).length ≤ 1 := len1 _ _ [] 0 (Nat.le_refl _)
        refine ⟨.ref a, rfl, a, as.map V.ref, rfl, by cases b with | true => exact .inl (.inl (.inl eah)) | false => exact .inr (.inl (.inl eah)), fun ls nls => ?_⟩
        have nls6 : H' ls = none := by
          by_cases e : ls = p
          · rw [e, upd_same] at nls; cases nls
          · rwa [kp e] at nls
        have nlsp : ls ≠ p := fun e => by rw [e, hp6] at nls6; cases nls6
        have s7 := same_upd (o := .lst (as.map V.ref)) nls
        refine ⟨.ref p, rfl, p, C, dx, _, rfl, s7 _ _ upd_same, T.cl, T.n__steps, by omega, ?_⟩
        have l2 := len1 "_steps" (.ref ls) _ _ l1
        -- self._words = words
        refine ⟨.ref lw, rfl, .ref p, rfl, p, C, dx, _, rfl, upd_same, T.cl, T.n__words, by omega, ?_⟩
        have l3 := len1 "_words" (.ref lw) _ _ l2
        -- the heap so far: all of H', the list of steps, the object
        have S7 : ∀ {G : Hp} (o : HO), (∀ b x, b ≠ p → H' b = some x → G b = some x) → ∀ b x, b ≠ p → H' b = some x → (upd G p o) b = some x := fun o k b x h e => (kp h).trans (k b x h e)
        have B7 : ∀ b x, b ≠ p → H' b = some x → (upd (upd (upd (upd H' p (.ins C dx (putF "_start" (.int s0) []))) ls (.lst (as.map V.ref))) p (.ins C dx (putF "_steps" (.ref ls) (putF "_start" (.int s0) [])))) p (.ins C dx (putF "_words" (.ref lw) (putF "_steps" (.ref ls) (putF "_start" (.int s0) []))))) b = some x := fun b x h e =>
          (kp h).trans ((kp h).trans (s7 _ _ ((kp h).trans e)))
        have els : (upd (upd (upd (upd H' p (.ins C dx (putF "_start" (.int s0) []))) ls (.lst (as.map V.ref))) p (.ins C dx (putF "_steps" (.ref ls) (putF "_start" (.int s0) [])))) p (.ins C dx (putF "_words" (.ref lw) (putF "_steps" (.ref ls) (putF "_start" (.int s0) []))))) ls = some (.lst (as.map V.ref)) := (kp nlsp).trans ((kp nlsp).trans upd_same)
        have ep : (upd (upd (upd (upd H' p (.ins C dx (putF "_start" (.int s0) []))) ls (.lst (as.map V.ref))) p (.ins C dx (putF "_steps" (.ref ls) (putF "_start" (.int s0) [])))) p (.ins C dx (putF "_words" (.ref lw) (putF "_steps" (.ref ls) (putF "_start" (.int s0) []))))) p = some (.ins C dx (putF "_words" (.ref lw) (putF "_steps" (.ref ls) (putF "_start" (.int s0) [])))) := upd_same
        generalize upd (upd (upd (upd H' p (.ins C dx (putF "_start" (.int s0) []))) ls (.lst (as.map V.ref))) p (.ins C dx (putF "_steps" (.ref ls) (putF "_start" (.int s0) [])))) p (.ins C dx (putF "_words" (.ref lw) (putF "_steps" (.ref ls) (putF "_start" (.int s0) [])))) = G at B7 els ep
        have nlwp : lw ≠ p := ne_of_none hp nwH |>.symm
        have nltp : lt ≠ p := ne_of_none hp nltH |>.symm
        have SG : ∀ b o, H b = some o → b ≠ p → G b = some o := fun b o e h => B7 b o h (S6 _ _ e)
        have stG : Stps G as ss := Paired.mapP hst fun b _ e => SG b _ e (ne_of e hp (fun z => by cases z))
        have fin : ∀ {G' : Hp} {df : Addr}, Same G G' → G df = none → G' df = some (.dK (fkv (orderF ws fs))) → (sFld K (fun σ H Q => Q (.ref p) H) (fun σ H Q => Q (.ref df) H) "_faults" { nx := fun σ' G2 => sFld K (tVar 0) (tVar 6) "_states" { nx := fun x H' => Q V.non H', rt := Q } σ' G2, rt := Q } [some (.ref p), some (.int s0), some (.ref a), some v, some (.ref lw), some (.ref d), some (.ref lt), y7, none, none] G') := fun {G' df} sG nfG edf => by
          have ndfp : df ≠ p := ne_of edf (sG _ _ ep) (fun z => by cases z)
          refine ⟨p, C, dx, _, rfl, sG _ _ ep, T.cl, T.n__faults, by omega, ?_⟩
          have l4 := len1 "_faults" (.ref df) _ _ l3
          refine ⟨.ref lt, rfl, .ref p, rfl, p, C, dx, _, rfl, upd_same, T.cl, T.n__states, by omega, ?_⟩
          have keep : ∀ b o, b ≠ p → G' b = some o → (upd (upd G' p (.ins C dx (putF "_faults" (.ref df) (putF "_words" (.ref lw) (putF "_steps" (.ref ls) (putF "_start" (.int s0) [])))))) p (.ins C dx (putF "_states" (.ref lt) (putF "_faults" (.ref df) (putF "_words" (.ref lw) (putF "_steps" (.ref ls) (putF "_start" (.int s0) []))))))) b = some o := fun b o h e => (kp h).trans ((kp h).trans e)
          have ndfH : H df = none := by
            cases e : H df with
            | none => rfl
            | some o =>
              have e2 := SG df o e ndfp
              rw [nfG] at e2
              cases e2
          refine q _ dx ls lw df lt ws ns (fun b o e h => keep b o h (sG _ _ (SG b o e h))) ⟨upd_same, keep _ _ nlsp (sG _ _ els), ?_, keep _ _ nlwp (sG _ _ (B7 _ _ nlwp ew6)), hws, keep _ _ ndfp edf, keep _ _ nltp (sG _ _ (B7 _ _ nltp elt)), hns⟩ (S6.free nls6) nwH ndfH nltH
          exact Paired.mapP (stG.mono sG) fun b _ e => keep b _ (ne_of e (sG _ _ ep) (fun z => by cases z)) e
        rcases hf with ⟨rfl, rfl⟩ | ⟨fd, rfl, efd⟩
        · refine ⟨.non, rfl, rfl, _, rfl, iteT fun df ndf => ⟨.ref p, rfl, ?_⟩⟩
          exact fin (same_upd ndf) ndf (by rw [upd_same, order_nil]; rfl)
        · refine ⟨.ref fd, rfl, rfl, _, rfl, ?_⟩
          rw [decide_eq_false (show ¬ V.ref fd = V.non from fun z => by cases z)]
          have nfp : fd ≠ p := ne_of efd hp (fun z => by cases z)
          have efG := SG _ _ efd nfp
          have ewG := B7 _ _ nlwp ew6
          refine iteF ⟨.ref lw, rfl, lw, rfl, ⟨_, .inl (.inl ewG)⟩, fun df ndf => ?_⟩
          refine KnC.dc_list (K := K) (xs := ws.map V.str) (fun i G' => Same G G' ∧ G' df = some (.dK (fkv (orderF (ws.take i) fs)))) ⟨same_upd ndf, upd_same⟩ (fun i G' _ hP => .inl (.inl (hP.1 _ _ ewG))) (fun i x G' hx hP => ?_) (fun G' hP => ?_)
          · obtain ⟨SG', edf⟩ := hP
            rw [List.getElem?_map] at hx
            cases gx : ws[i]? with
            | none => rw [gx] at hx; cases hx
            | some z =>
            rw [gx] at hx
            cases hx
            have hiw : i < ws.length := (List.getElem?_eq_some_iff.mp gx).1
            have dg : DGet G' fd (.str z) (valV (fkv fs) (.inr z)) := DGet.k (k := .inr z) (SG' _ _ efG)
            rw [look_val] at dg
            refine ⟨rfl, .str z, rfl, .ref fd, rfl, fd, _, rfl, dg, _, rfl, ?_⟩
            have tk := order_take (fs := fs) gx
            cases lk : look fs z with
            | none =>
              rw [lk] at tk
              refine iteF ⟨SG', ?_⟩
              rw [tk, List.append_nil]; exact edf
            | some n =>
              rw [lk] at tk dg
              have no : valV (fkv (orderF (ws.take i) fs)) (.inr z) = none := val_none fun p hp e => by
                have hm := order_keys hp
                rw [e] at hm
                obtain ⟨j, hj, ej⟩ := List.mem_iff_getElem.mp hm
                rw [List.getElem_take] at ej
                have lj : j < i := by rw [List.length_take] at hj; omega
                have e1 : ws[i] = z := (List.getElem?_eq_some_iff.mp gx).2
                exact absurd ((List.getElem_inj hws.nd).mp (ej.trans e1.symm)) (by omega)
              have lf : (fkv (orderF (ws.take i) fs)).length ≤ 14 := by
                unfold fkv
                rw [List.length_map]
                refine Nat.le_trans (order_len _ _) ?_
                rw [List.length_take]; omega
              refine iteT ⟨.str z, rfl, .ref fd, rfl, .str z, rfl, fd, .str n, rfl, dg, _, .inr z, rfl, edf, small (by omega), ?_⟩
              refine ⟨same_set ndf SG', ?_⟩
              rw [upd_same, putK_new _ no, tk]
              unfold fkv
              rw [List.map_append]; rfl
          · obtain ⟨SG', edf⟩ := hP
            rw [List.length_map, List.take_length] at edf
            exact ⟨.ref p, rfl, fin SG' ndf edf⟩

/-! ### what a machine tells -/
def sp_Machine_start (_ : PySem.W.Frag) (C : Addr) : Sp := fun vs H Q _ => ∃ (p : Addr) (s0 : Int) (ss : List KnA.Stp) (fs : List (Str × Str)), vs = [.ref p] ∧ MachAt C H p s0 ss fs ∧ Q (.int s0) H
def sp_Machine_steps (_ : PySem.W.Frag) (C : Addr) : Sp := fun vs H Q _ => ∃ (p : Addr) (s0 : Int) (ss : List KnA.Stp) (fs : List (Str × Str)), vs = [.ref p] ∧ MachAt C H p s0 ss fs ∧ ∀ H' l as, Same H H' → H l = none → H' l = some (.lst (as.map V.ref)) → Stps H' as ss → Q (.ref l) H'
theorem ok_Machine_start {f : Addr} {C D S : Addr} {fd : FuncData} (T : Txt K mg C D S) (F : Fun K "start" "Machine.start" s_Machine_start f fd)  : FnOk P w K mg base CX0 1 f fd ["self"] (sp_Machine_start K C) := by
  have nd := sc_Machine_start.nd
  refine F.ok sc_Machine_start (fun vs H Q E h => ?_) (fun cdv A outer s H vs Q E hr h => ?_)
  · obtain ⟨p, s0, ss, fs, rfl, _⟩ := h
    rfl
  · obtain ⟨p, s0, ss, fs, rfl, ⟨dx, ls, lw, df, lt, as, ws, ns, m⟩, q⟩ := h
    refine ⟨_, (pss_one (ps_ret (pe_fld (pv 0) rfl))), ?_⟩
    exact ⟨.ref p, rfl, p, C, dx, _, _, rfl, m.ob, T.cl, T.n__start, mf_start _ _ _ _ _, q⟩
theorem ok_Machine_steps {f : Addr} {C D S : Addr} {fd : FuncData} (T : Txt K mg C D S) (F : Fun K "steps" "Machine.steps" s_Machine_steps f fd)  : FnOk P w K mg base CX0 1 f fd ["self"] (sp_Machine_steps K C) := by
  have nd := sc_Machine_steps.nd
  refine F.ok sc_Machine_steps (fun vs H Q E h => ?_) (fun cdv A outer s H vs Q E hr h => ?_)
  · obtain ⟨p, s0, ss, fs, rfl, _⟩ := h
    rfl
  · obtain ⟨p, s0, ss, fs, rfl, ⟨dx, ls, lw, df, lt, as, ws, ns, m⟩, q⟩ := h
    refine ⟨_, (pss_one (ps_ret (pe_callTy call_list_of (by rfl) T.m_list (by decide +kernel) (pa_cons (pe_fld (pv 0) rfl) pa_nil)))), ?_⟩
    exact ⟨.ref p, rfl, p, C, dx, _, _, rfl, m.ob, T.cl, T.n__steps, mf_steps _ _ _ _ _, ls, as.map V.ref, rfl, .inl (.inl (.inl m.hs)), fun l nl => q _ l as (same_upd nl) nl upd_same (m.st.mono (same_upd nl))⟩

theorem sub_len {α : Type} [DecidableEq α] : ∀ {l m : List α}, l.Nodup → (∀ x ∈ l, x ∈ m) → l.length ≤ m.length
  | [], _, _, _ => Nat.zero_le _
  | x :: r, m, d, h => by
    obtain ⟨d1, d2⟩ := List.nodup_cons.mp d
    have hx := h x List.mem_cons_self
    have ih := sub_len (m := m.erase x) d2 (fun y hy => (List.mem_erase_of_ne (fun e : y = x => d1 (by rw [← e]; exact hy))).mpr (h y (List.mem_cons_of_mem _ hy)))
    have e := List.length_erase_of_mem hx
    have : 0 < m.length := List.length_pos_of_mem hx
    rw [List.length_cons]
    omega
theorem words_le {ws xs : List Str} (h : KnA.Words ws xs) : ws.length ≤ xs.length := sub_len h.nd fun x hx => (h.mem x).mp hx
/-- set(xs), xs texts -/
theorem foldL_strs : ∀ (xs acc : List Str), acc.Nodup → ∃ ys : List Str, (xs.map Sum.inr).foldl KnS.addL (acc.map Sum.inr) = ys.map Sum.inr ∧ ys.Nodup ∧ ∀ x, x ∈ ys ↔ x ∈ acc ∨ x ∈ xs
  | [], acc, h => ⟨acc, rfl, h, fun x => by simp⟩
  | z :: xs, acc, h => by
    obtain ⟨ys, e, n, m⟩ := foldL_strs xs (if z ∈ acc then acc else acc ++ [z]) (by
      by_cases q : z ∈ acc
      · rw [if_pos q]; exact h
      · rw [if_neg q]
        refine List.nodup_append.mpr ⟨h, by simp, fun a ha b hb e => ?_⟩
        rw [List.mem_singleton] at hb
        exact q (hb ▸ e ▸ ha))
    refine ⟨ys, ?_, n, fun x => ?_⟩
    · rw [List.map_cons, List.foldl_cons, KnC.addL_strs, e]
    · rw [m]
      by_cases q : z ∈ acc
      · rw [if_pos q, List.mem_cons]
        exact ⟨fun y => y.elim .inl fun t => .inr (.inr t), fun y => y.elim .inl fun t => t.elim (fun t => .inl (t ▸ q)) .inr⟩
      · rw [if_neg q, List.mem_append, List.mem_singleton, List.mem_cons, or_assoc]
theorem allL_strs (xs : List Str) : ∃ ys : List Str, KnS.allL (xs.map Sum.inr) = ys.map Sum.inr ∧ ys.Nodup ∧ ∀ x, x ∈ ys ↔ x ∈ xs := by
  obtain ⟨ys, e, n, m⟩ := foldL_strs xs [] List.nodup_nil
  exact ⟨ys, e, n, fun x => (m x).trans (by simp)⟩

def sp_Machine_faults (_ : PySem.W.Frag) (C : Addr) : Sp := fun vs H Q _ => ∃ (p : Addr) (s0 : Int) (ss : List KnA.Stp) (fs : List (Str × Str)), vs = [.ref p] ∧ MachAt C H p s0 ss fs ∧ ∀ H' d ws, Same H H' → H d = none → H' d = some (.dK (fkv (orderF ws fs))) → KnA.Words ws (ss.map (·.2.1)) → Q (.ref d) H'
def sp_Machine_fault_names (_ : PySem.W.Frag) (C : Addr) : Sp := fun vs H Q _ => ∃ (p : Addr) (s0 : Int) (ss : List KnA.Stp) (fs : List (Str × Str)), vs = [.ref p] ∧ MachAt C H p s0 ss fs ∧ ss.length ≤ 1000 ∧ ∀ H' l ws xs, Same H H' → H l = none → H' l = some (.lst (xs.map V.str)) → KnA.Words ws (ss.map (·.2.1)) → KnA.Words xs ((orderF ws fs).map (·.2)) → Q (.ref l) H'
theorem ok_Machine_faults {f : Addr} {C D S : Addr} {fd : FuncData} (T : Txt K mg C D S) (F : Fun K "faults" "Machine.faults" s_Machine_faults f fd)  : FnOk P w K mg base CX0 1 f fd ["self"] (sp_Machine_faults K C) := by
  have nd := sc_Machine_faults.nd
  refine F.ok sc_Machine_faults (fun vs H Q E h => ?_) (fun cdv A outer s H vs Q E hr h => ?_)
  · obtain ⟨p, s0, ss, fs, rfl, _⟩ := h
    rfl
  · obtain ⟨p, s0, ss, fs, rfl, ⟨dx, ls, lw, df, lt, as, ws, ns, m⟩, q⟩ := h
    refine ⟨_, (pss_one (ps_ret (pe_callTy call_dictD (by rfl) T.m_dict (by decide +kernel) (pa_cons (pe_fld (pv 0) rfl) pa_nil)))), ?_⟩
    exact ⟨.ref p, rfl, p, C, dx, _, _, rfl, m.ob, T.cl, T.n__faults, mf_faults _ _ _ _ _, df, _, rfl, .inl m.hf, fun d nd => q _ d ws (same_upd nd) nd upd_same m.wo⟩
theorem ok_Machine_fault_names {f : Addr} {C D S : Addr} {fd : FuncData} (T : Txt K mg C D S) (F : Fun K "fault_names" "Machine.fault_names" s_Machine_fault_names f fd)  : FnOk P w K mg base CX0 1 f fd ["self"] (sp_Machine_fault_names K C) := by
  have nd := sc_Machine_fault_names.nd
  refine F.ok sc_Machine_fault_names (fun vs H Q E h => ?_) (fun cdv A outer s H vs Q E hr h => ?_)
  · obtain ⟨p, s0, ss, fs, rfl, _⟩ := h
    rfl
  · obtain ⟨p, s0, ss, fs, rfl, ⟨dx, ls, lw, df, lt, as, ws, ns, m⟩, lf, q⟩ := h
    refine ⟨_, (pss_one (ps_ret (pe_callB (show CallR _ (.builtin "sorted") (KnS.rSortedL P w) from KnS.cr_sortedL rfl) (by rfl) T.m_sorted (by decide +kernel) (pa_cons (pe_callTy (show CallR _ (.type "set") (KnS.rSetOf K P w) from KnS.cr_setOf rfl) (by rfl) T.m_set (by decide +kernel) (pa_cons (KnM.pe_listVals rfl (by rfl) T.m_list (pe_fld (pv 0) rfl)) pa_nil)) pa_nil)))), ?_⟩
    refine ⟨.ref p, rfl, p, C, dx, _, _, rfl, m.ob, T.cl, T.n__faults, mf_faults _ _ _ _ _, df, _, rfl, .inl m.hf, fun l1 n1 => ?_⟩
    have s1 := same_upd (o := .lst ((fkv (orderF ws fs)).map (·.2))) n1
    have ev : (fkv (orderF ws fs)).map (·.2) = (((orderF ws fs).map (·.2)).map Sum.inr).map kV := by
      unfold fkv
      rw [List.map_map, List.map_map, List.map_map]
      rfl
    refine ⟨l1, ((orderF ws fs).map (·.2)).map Sum.inr, rfl, .inl (.inl (by rw [upd_same, ev])), ?_, fun D nD => ?_⟩
    · rw [List.length_map, List.length_map]
      have h1 := order_len ws fs
      have h2 := words_le m.wo
      rw [List.length_map] at h2
      unfold scanBound
      omega
    have s2 := same_upd (o := KnS.SetL P w D (KnS.allL (((orderF ws fs).map (·.2)).map Sum.inr))) nD
    obtain ⟨ys, ey, ny, my⟩ := allL_strs ((orderF ws fs).map (·.2))
    refine ⟨D, ys, rfl, by rw [← ey]; exact upd_same, fun xs l px sx nl => ?_⟩
    exact q _ l ws xs (s1.trans (s2.trans (same_upd nl))) (Same.free s1 (s2.free nl)) upd_same m.wo ⟨KnA.sorted_pair sx, px.symm.nodup ny, fun x => px.mem_iff.trans (my x)⟩

theorem ok__law_mix {f : Addr} {C D S : Addr} {fd : FuncData} (T : Txt K mg C D S) (F : Fun K "_law_mix" "_law_mix" s__law_mix f fd)  : FnOk P w K mg base CX0 1 f fd ["_law_cell_here", "_law_k"] (sp__law_mix K) := by
  have nd := sc__law_mix.nd
  refine F.ok sc__law_mix (fun vs H Q E h => ?_) (fun cdv A outer s H vs Q E hr h => ?_)
  · obtain ⟨c, k, rfl, _⟩ := h
    rfl
  · obtain ⟨c, k, rfl, q⟩ := h
    refine ⟨_, (pss_cons (ps_set (i := 2) nd rfl (.inl rfl) (pe_op op_mod (pe_op op_mul (pe_callTy call_int1 (by rfl) T.m_int (by decide +kernel) (pa_cons (pe_op op_add (pe_op op_add (pe_callTy call_int1 (by rfl) T.m_int (by decide +kernel) (pa_cons (pv 0) pa_nil)) (pe_op op_mul pe_int (pv 1))) pe_int) pa_nil)) pe_int) pe_int))
      (pss_cons (ps_set (i := 2) nd rfl (.inl rfl) (pe_op op_mod (pe_callTy call_int1 (by rfl) T.m_int (by decide +kernel) (pa_cons (pe_op op_mul (pv 2) (pe_op op_add (pe_op op_fdiv (pv 2) pe_int) pe_int)) pa_nil)) pe_int))
      (pss_one (ps_ret (pe_op op_mod (pe_callTy call_int1 (by rfl) T.m_int (by decide +kernel) (pa_cons (pe_op op_mul (pv 2) (pe_op op_add (pe_op op_fdiv (pv 2) pe_int) pe_int)) pa_nil)) pe_int))))), ?_⟩
    refine ⟨.int c, rfl, .inl ⟨c, rfl, .int k, rfl, 7919, k, rfl, rfl, .inl ⟨by decide, by decide⟩, _, _, rfl, rfl, _, _, rfl, rfl, .inl ⟨_, rfl, _, 48271, rfl, rfl, .inr ⟨by decide, by decide⟩, _, 2147483647, rfl, rfl, (show (0 : Int) < 2147483647 by decide), ?_⟩⟩⟩
    refine ⟨_, rfl, _, rfl, _, 1009, rfl, rfl, ⟨by decide, by decide⟩, _, 69621, rfl, rfl, _, _, rfl, rfl, .inl ⟨?_, ?_⟩, .inl ⟨_, rfl, _, 2147483647, rfl, rfl, (show (0 : Int) < 2147483647 by decide), ?_⟩⟩
    · omega
    · omega
    refine ⟨_, rfl, _, rfl, _, 2003, rfl, rfl, ⟨by decide, by decide⟩, _, 40692, rfl, rfl, _, _, rfl, rfl, .inl ⟨?_, ?_⟩, .inl ⟨_, rfl, _, 2147483399, rfl, rfl, (show (0 : Int) < 2147483399 by decide), ?_⟩⟩
    · omega
    · omega
    exact q _ (Int.emod_nonneg _ (by decide)) (Int.emod_lt_of_pos _ (by decide))

theorem ok__law_cell {f : Addr} {C D S : Addr} {fd : FuncData} (T : Txt K mg C D S) (F : Fun K "_law_cell" "_law_cell" s__law_cell f fd) (c__law_mix : Cal P w K mg base 1 "_law_mix" (sp__law_mix K) []) : FnOk P w K mg base CX0 2 f fd ["_law_script", "_law_k"] (sp__law_cell K) := by
  have nd := sc__law_cell.nd
  refine F.ok sc__law_cell (fun vs H Q E h => ?_) (fun cdv A outer s H vs Q E hr h => ?_)
  · obtain ⟨a, ns, k, rfl, _⟩ := h
    rfl
  · obtain ⟨a, ns, k, rfl, hS, q⟩ := h
    refine ⟨_, (pss_cons (ps_if (pt_cmpR op_lt (pv 1) (pe_callB call_len (by rfl) T.m_len (by decide +kernel) (pa_cons (pv 0) pa_nil)) (nomark _)) (pss_one (ps_ret (pe_callTy call_int1 (by rfl) T.m_int (by decide +kernel) (pa_cons (pe_ix (r := rIxL K) ix_list (pv 0) (pv 1) (fun _ _ => rfl)) pa_nil)))) pss_nil)
      (pss_cons (ps_if (pt_cmpR op_eq (pe_callB call_len (by rfl) T.m_len (by decide +kernel) (pa_cons (pv 0) pa_nil)) pe_int (nomark _)) (pss_one (ps_ret (pv 1))) pss_nil)
      (pss_one (ps_ret (pe_c c__law_mix hr (by omega) (by rfl) (pa_cons (pe_ix (r := rIxL K) ix_list (pv 0) (pe_op op_mod (pe_callTy call_int1 (by rfl) T.m_int (by decide +kernel) (pa_cons (pv 1) pa_nil)) (pe_callB call_len (by rfl) T.m_len (by decide +kernel) (pa_cons (pv 0) pa_nil))) (fun _ _ => rfl)) (pa_cons (pv 1) pa_nil))))))), ?_⟩
    refine ⟨.int k, rfl, .ref a, rfl, .ref a, (ns.map V.int).length, rfl, .inl ⟨_, hS, rfl⟩, _, _, rfl, rfl, _, rfl, ite2 (fun e => ?_) (fun e => ?_)⟩
    · have hk : k < (ns.map V.int).length := by
        have := of_decide_eq_true e
        omega
      have hk2 : k < ns.length := by rw [List.length_map] at hk; exact hk
      have g : (ns.map V.int)[k]? = some (.int ns[k]) := by rw [List.getElem?_map, List.getElem?_eq_getElem hk2]; rfl
      exact ⟨.ref a, rfl, .int k, rfl, a, _, (k : Int), _, rfl, rfl, hS, atI_nat g, .inl ⟨_, rfl, q _⟩⟩
    · refine ⟨.ref a, rfl, .ref a, (ns.map V.int).length, rfl, .inl ⟨_, hS, rfl⟩, rfl, _, rfl, ite2 (fun e0 => ?_) (fun e0 => ?_)⟩
      · exact ⟨.int k, rfl, q _⟩
      · have hp : 0 < (ns.map V.int).length := by
          cases e1 : (ns.map V.int).length with
          | zero => exact absurd (decide_eq_true (by rw [e1]; rfl)) e0
          | succ n => exact Nat.succ_pos _
        have hj : ((k : Int) % ((ns.map V.int).length : Int)) = ((k % (ns.map V.int).length : Nat) : Int) := rfl
        have hlt : k % (ns.map V.int).length < ns.length := by
          have := Nat.mod_lt k hp
          rw [List.length_map] at this ⊢
          exact this
        have g : (ns.map V.int)[k % (ns.map V.int).length]? = some (.int ns[k % (ns.map V.int).length]) := by rw [List.getElem?_map, List.getElem?_eq_getElem hlt]; rfl
        refine ⟨.ref a, rfl, .int k, rfl, .inl ⟨_, rfl, .ref a, rfl, .ref a, (ns.map V.int).length, rfl, .inl ⟨_, hS, rfl⟩, (k : Int), ((ns.map V.int).length : Int), rfl, rfl, (show (0 : Int) < ((ns.map V.int).length : Int) by omega), a, ns.map V.int, (k : Int) % ((ns.map V.int).length : Int), .int ns[k % (ns.map V.int).length], rfl, rfl, hS, ?_, ?_⟩⟩
        · rw [hj]; exact atI_nat g
        · exact ⟨.int k, rfl, _, _, rfl, fun r _ _ => q r⟩

theorem ok__law_row {f : Addr} {C D S : Addr} {fd : FuncData} (T : Txt K mg C D S) (F : Fun K "_law_row" "_law_row" s__law_row f fd) (c__law_mix : Cal P w K mg base 1 "_law_mix" (sp__law_mix K) []) : FnOk P w K mg base CX0 2 f fd ["_law_cell_here", "_law_sizes"] (sp__law_row K) := by
  have nd := sc__law_row.nd
  refine F.ok sc__law_row (fun vs H Q E h => ?_) (fun cdv A outer s H vs Q E hr h => ?_)
  · obtain ⟨c, b, ss, rfl, _⟩ := h
    rfl
  · obtain ⟨c, b, ss, rfl, hS, hlen, hpos, q⟩ := h
    refine ⟨_, (pss_cons (ps_set (i := 2) nd rfl (.inl rfl) (pe_lst pa_nil))
      (pss_cons (ps_set (i := 3) nd rfl (.inl rfl) (pe_callTy call_int1 (by rfl) T.m_int (by decide +kernel) (pa_cons (pv 0) pa_nil)))
      (pss_cons (ps_for PassesOwn.never rfl (pi_range1 (by rfl) T.m_range (pa_cons (pe_callB call_len (by rfl) T.m_len (by decide +kernel) (pa_cons (pv 1) pa_nil)) pa_nil)) (pg_name (i := 4) nd rfl (.inl rfl)) (pss_one (ps_if (pt_cmpR op_ge (pv 0) (pe_op op_pow pe_int pe_int) (nomark _)) (pss_cons (ps_expr (pe_bm PySem.F.plainAttrs_list PySem.F.slot_list_append PySem.F.type_list_append mt_append (pv 2) (pa_cons (pe_op op_mod (pe_callTy call_int1 (by rfl) T.m_int (by decide +kernel) (pa_cons (pv 3) pa_nil)) (pe_ix (r := rIxL K) ix_list (pv 1) (pv 4) (fun _ _ => rfl))) pa_nil)))
      (pss_one (ps_set (i := 3) nd rfl (.inl rfl) (pe_op op_fdiv (pv 3) (pe_ix (r := rIxL K) ix_list (pv 1) (pv 4) (fun _ _ => rfl)))))) (pss_one (ps_expr (pe_bm PySem.F.plainAttrs_list PySem.F.slot_list_append PySem.F.type_list_append mt_append (pv 2) (pa_cons (pe_op op_mod (pe_callTy call_int1 (by rfl) T.m_int (by decide +kernel) (pa_cons (pe_c c__law_mix hr (by omega) (by rfl) (pa_cons (pv 0) (pa_cons (pv 4) pa_nil))) pa_nil)) (pe_ix (r := rIxL K) ix_list (pv 1) (pv 4) (fun _ _ => rfl))) pa_nil)))))))
      (pss_one (ps_ret (pv 2)))))), ?_⟩
    refine ⟨Nat.zero_le _, fun R nR => ⟨.int c, rfl, .inl ⟨c, rfl, .ref b, rfl, .ref b, (ss.map V.int).length, rfl, .inl ⟨_, (same_upd nR).seq hS, rfl⟩, _, rfl, ?_, ?_, ?_⟩⟩⟩
    · have : (0 : Int) ≤ ((ss.map V.int).length : Int) := by omega
      omega
    · rw [List.length_map]
      omega
    · refine for_range (lo := 0) (fun i σ H' => ∃ (z : Int) (y : Option V) (rs : List Int), σ = [some (.int c), some (.ref b), some (.ref R), some (.int z), y] ∧ Same H H' ∧ H' R = some (.lst (rs.map V.int)) ∧ rs.length = i ∧ ∀ (i : Nat) (r s : Int), rs[i]? = some r → ss[i]? = some s → 0 ≤ r ∧ r < s)
        ⟨c, none, [], rfl, same_upd nR, upd_same, rfl, fun i r s h => by simp at h⟩ (fun i σ H' hi hP => ?_) (fun σ H' hP => ?_)
      · obtain ⟨z, y, rs, rfl, sm, eR, hrl, hb⟩ := hP
        have hi2 : i < ss.length := by
          have : i < ((ss.map V.int).length : Int).toNat := hi
          rw [List.length_map, Int.toNat_natCast] at this
          exact this
        have g : (ss.map V.int)[i]? = some (.int ss[i]) := by rw [List.getElem?_map, List.getElem?_eq_getElem hi2]; rfl
        have ps := hpos _ (List.getElem_mem hi2)
        have hS' := sm.seq hS
        have hA : atI (ss.map V.int) (0 + (i : Int)) = some (.int ss[i]) := by rw [Int.zero_add]; exact atI_nat g
        have push : ∀ r : Int, 0 ≤ r → r < ss[i] → ∀ (j : Nat) (r' s : Int), (rs ++ [r])[j]? = some r' → ss[j]? = some s → 0 ≤ r' ∧ r' < s := by
          intro r r0 r1 j r' s e1 e2
          by_cases hj : j < rs.length
          · rw [List.getElem?_append_left hj] at e1
            exact hb j r' s e1 e2
          · by_cases hj2 : j = rs.length
            · subst hj2
              rw [List.getElem?_concat_length] at e1
              cases e1
              rw [hrl, List.getElem?_eq_getElem hi2] at e2
              cases e2
              exact ⟨r0, r1⟩
            · rw [List.getElem?_eq_none (by rw [List.length_append]; simp; omega)] at e1
              cases e1
        have hsz : (rs.map V.int).length < sizeLine := by rw [List.length_map]; exact small (by omega)
        refine ⟨.int c, rfl, 10, 18, rfl, rfl, ⟨by decide, by decide, by decide⟩, c, _, rfl, rfl, _, rfl, ite2 (fun e => ?_) (fun e => ?_)⟩
        · -- the digits of a great cell
          refine ⟨.ref R, rfl, .inl ⟨rfl, _, .inl (.inl eR)⟩, .int z, rfl, .inl ⟨z, rfl, .ref b, rfl, .int (0 + (i : Int)), rfl, b, _, _, _, rfl, rfl, hS', hA, z, ss[i], rfl, rfl, ps.1, R, _, _, rfl, rfl, eR, hsz, ?_⟩⟩
          refine ⟨.int z, rfl, .ref b, rfl, .int (0 + (i : Int)), rfl, b, _, _, _, rfl, rfl, (same_set nR sm).seq hS, hA, z, ss[i], rfl, rfl, ps, ?_⟩
          exact ⟨_, _, rs ++ [z % ss[i]], rfl, same_set nR sm, by rw [upd_same, List.map_append]; rfl, by rw [List.length_append, hrl]; rfl, push _ (Int.emod_nonneg _ (by omega)) (Int.emod_lt_of_pos _ ps.1)⟩
        · refine ⟨.ref R, rfl, .inl ⟨rfl, _, .inl (.inl eR)⟩, .int c, rfl, .int (0 + (i : Int)), rfl, c, (0 + (i : Int)), rfl, fun r r0 r1 => .inl ⟨r, rfl, .ref b, rfl, .int (0 + (i : Int)), rfl, b, _, _, _, rfl, rfl, hS', hA, r, ss[i], rfl, rfl, ps.1, R, _, _, rfl, rfl, eR, hsz, ?_⟩⟩
          exact ⟨_, _, rs ++ [r % ss[i]], rfl, same_set nR sm, by rw [upd_same, List.map_append]; rfl, by rw [List.length_append, hrl]; rfl, push _ (Int.emod_nonneg _ (by omega)) (Int.emod_lt_of_pos _ ps.1)⟩
      · obtain ⟨z, y, rs, rfl, sm, eR, hrl, hb⟩ := hP
        refine ⟨.ref R, rfl, q H' R rs sm nR eR ?_ hb⟩
        rw [hrl, List.length_map, Int.toNat_natCast]

/-! ### names -/
theorem cutS_length (z : Str) (lo hi : Option Int) : (cutS z lo hi).cps.size ≤ z.cps.size := by
  show ((z.cps.toList.drop _).take _).toArray.size ≤ _
  rw [List.size_toArray, List.length_take, List.length_drop, Array.length_toList]
  exact Nat.le_trans (Nat.min_le_right _ _) (Nat.sub_le _ _)
theorem cutS_mem {z : Str} {lo hi : Option Int} {c : Nat} (h : c ∈ (cutS z lo hi).cps.toList) : c ∈ z.cps.toList := by
  have h' : c ∈ (z.cps.toList.drop (HT.sIx z.length 0 lo)).take (HT.sIx z.length z.length hi - HT.sIx z.length 0 lo) := h
  exact List.mem_of_mem_drop (List.mem_of_mem_take h')
theorem app_size (x y : Str) : (x ++ y).cps.size = x.cps.size + y.cps.size := by
  show (x.cps ++ y.cps).size = _
  rw [Array.size_append]
theorem app_mem {x y : Str} {c : Nat} (h : c ∈ (x ++ y).cps.toList) : c ∈ x.cps.toList ∨ c ∈ y.cps.toList := by
  have h' : c ∈ (x.cps ++ y.cps).toList := h
  rw [Array.toList_append] at h'
  exact List.mem_append.mp h'
theorem join_size : ∀ {ys : List Str}, (∀ y ∈ ys, y.cps.size = 1) → (Txt.join "" ys).cps.size ≤ ys.length := by
  intro ys
  rw [TL.join_eq]
  induction ys with
  | nil => intro _; exact Nat.le_refl _
  | cons x r ih =>
    intro h
    cases r with
    | nil => exact Nat.le_of_eq (h x List.mem_cons_self)
    | cons z r =>
      have h1 := h x List.mem_cons_self
      have h2 := ih fun y hy => h y (List.mem_cons_of_mem _ hy)
      have e : (Str.join "" (x :: z :: r)).cps.size = x.cps.size + 0 + (Str.join "" (z :: r)).cps.size := by
        show ((x.cps ++ #[]) ++ (Str.join "" (z :: r)).cps).size = _
        rw [Array.size_append, Array.size_append]; rfl
      rw [e, List.length_cons]
      omega
theorem join_mem {p : Nat → Prop} : ∀ {ys : List Str}, (∀ y ∈ ys, ∀ c ∈ y.cps.toList, p c) → ∀ c ∈ (Txt.join "" ys).cps.toList, p c := by
  intro ys
  rw [TL.join_eq]
  induction ys with
  | nil => intro _ c hc; exact absurd hc (by decide +revert)
  | cons x r ih =>
    intro h c hc
    cases r with
    | nil => exact h x List.mem_cons_self c hc
    | cons z r =>
      have h2 := ih fun y hy => h y (List.mem_cons_of_mem _ hy)
      have hc' : c ∈ ((x.cps ++ #[]) ++ (Str.join "" (z :: r)).cps).toList := hc
      rw [Array.toList_append, Array.toList_append, List.mem_append, List.mem_append] at hc'
      rcases hc' with (hc' | hc') | hc'
      · exact h x List.mem_cons_self c hc'
      · exact absurd hc' (by simp)
      · exact h2 c hc'
theorem join_sum {zs : List Str} (h : ∀ y ∈ zs, y.cps.size = 1) : (zs.map (·.length)).sum + zs.length * ("" : Str).length = zs.length := by
  have z0 : ("" : Str).length = 0 := rfl
  rw [z0, Nat.mul_zero, Nat.add_zero]
  induction zs with
  | nil => rfl
  | cons x r ih =>
    rw [List.map_cons, List.sum_cons, ih fun y hy => h y (List.mem_cons_of_mem _ hy), List.length_cons]
    have : x.length = 1 := h x List.mem_cons_self
    omega
/-- a place of a row -/
theorem row_at {rs ss : List Int} (hl : rs.length = ss.length) (hb : ∀ (i : Nat) (r s : Int), rs[i]? = some r → ss[i]? = some s → 0 ≤ r ∧ r < s) {j : Nat} {t : Int} (e : ss[j]? = some t) : ∃ r, rs[j]? = some r ∧ (rs.map V.int)[j]? = some (.int r) ∧ 0 ≤ r ∧ r < t := by
  have hj : j < ss.length := (List.getElem?_eq_some_iff.mp e).1
  have g : rs[j]? = some (rs[j]'(by omega)) := List.getElem?_eq_getElem (by omega)
  obtain ⟨h1, h2⟩ := hb j _ t g e
  exact ⟨_, g, by rw [List.getElem?_map, g]; rfl, h1, h2⟩
theorem flat_get {α : Type} {l : List α} {j : Nat} (hj : j < l.length) : ∀ {m k : Nat}, k < m → (List.replicate m l).flatten[l.length * k + j]? = l[j]?
  | 0, k, h => absurd h (Nat.not_lt_zero _)
  | m + 1, 0, _ => by
    rw [List.replicate_succ, List.flatten_cons, Nat.mul_zero, Nat.zero_add, List.getElem?_append_left hj]
  | m + 1, k + 1, h => by
    rw [List.replicate_succ, List.flatten_cons, List.getElem?_append_right (by rw [Nat.mul_succ]; omega)]
    have e : l.length * (k + 1) + j - l.length = l.length * k + j := by rw [Nat.mul_succ]; omega
    rw [e]
    exact flat_get hj (by omega)
theorem flat_len {α : Type} (l : List α) (m : Nat) : (List.replicate m l).flatten.length = l.length * m := by
  induction m with
  | zero => rfl
  | succ m ih => rw [List.replicate_succ, List.flatten_cons, List.length_append, ih, Nat.mul_succ]; omega
theorem flat_mem {α : Type} {l : List α} {m : Nat} {x : α} (h : x ∈ (List.replicate m l).flatten) : x ∈ l := by
  obtain ⟨y, hy, hx⟩ := List.mem_flatten.mp h
  rw [(List.mem_replicate.mp hy).2] at hx
  exact hx
theorem cut_nat {xs : List V} {a b : Nat} : cutV xs (some (a : Int)) (some (b : Int)) = (xs.drop a).take (b - a) := by
  unfold cutV
  rw [HT.sIx_nat, HT.sIx_nat]
  by_cases h : a ≤ xs.length
  · rw [Nat.min_eq_left h]
    by_cases h2 : b ≤ xs.length
    · rw [Nat.min_eq_left h2]
    · rw [Nat.min_eq_right (by omega : xs.length ≤ b), List.take_of_length_le (by rw [List.length_drop]; omega), List.take_of_length_le (by rw [List.length_drop]; omega)]
  · rw [Nat.min_eq_right (by omega : xs.length ≤ a), List.drop_of_length_le (Nat.le_refl _), List.drop_of_length_le (by omega), List.take_nil, List.take_nil]
def szN (m : Nat) : List Int := [13, 2, 6] ++ (List.replicate m [6, 13, 13, 13, 13, 13]).flatten
theorem szN_len (m : Nat) : (szN m).length = 3 + 6 * m := by
  unfold szN
  rw [List.length_append, flat_len]; rfl
theorem szN_map (m : Nat) : ([13, 2, 6].map V.int ++ (List.replicate m ([6, 13, 13, 13, 13, 13].map V.int)).flatten) = (szN m).map V.int := by
  unfold szN
  rw [List.map_append, List.map_flatten, List.map_replicate]
theorem szN_at {m k j : Nat} (hk : k < m) (hj : j < 6) : (szN m)[3 + 6 * k + j]? = ([6, 13, 13, 13, 13, 13] : List Int)[j]? := by
  unfold szN
  rw [List.getElem?_append_right (by show 3 ≤ _; omega)]
  show (List.replicate m [6, 13, 13, 13, 13, 13]).flatten[3 + 6 * k + j - 3]? = _
  rw [show 3 + 6 * k + j - 3 = 6 * k + j by omega]
  exact flat_get (l := ([6, 13, 13, 13, 13, 13] : List Int)) (j := j) hj hk
theorem szN_good {m : Nat} {x : Int} (h : x ∈ szN m) : 0 < x ∧ x < 1073741824 := by
  unfold szN at h
  rcases List.mem_append.mp h with h | h
  · simp at h; omega
  · have := flat_mem h
    simp at this; omega
/-- a place of a slice of a row -/
def Own (os : List Int) : Prop := os.length = 6 ∧ ∀ (j : Nat) (r s : Int), os[j]? = some r → ([6, 13, 13, 13, 13, 13] : List Int)[j]? = some s → 0 ≤ r ∧ r < s
theorem own_cut {rs : List Int} {m k : Nat} (hl : rs.length = (szN m).length) (hb : ∀ (i : Nat) (r s : Int), rs[i]? = some r → (szN m)[i]? = some s → 0 ≤ r ∧ r < s) (hk : k < m) : Own ((rs.drop (3 + 6 * k)).take 6) := by
  rw [szN_len] at hl
  refine ⟨by rw [List.length_take, List.length_drop]; omega, fun j r s e1 e2 => ?_⟩
  have hj : j < 6 := (List.getElem?_eq_some_iff.mp e2).1
  rw [List.getElem?_take_of_lt hj, List.getElem?_drop] at e1
  exact hb _ r s e1 (by rw [szN_at hk hj]; exact e2)
def half1 : Str := "abcdefghijklm"
def half2 : Str := "nopqrstuvwxyz"
theorem half1_in : ∀ c ∈ half1.cps.toList, inL c = true := by decide +kernel
theorem half2_in : ∀ c ∈ half2.cps.toList, inL c = true := by decide +kernel
def markOf (z : Str) : List Nat := z.cps.toList.filter fun c => decide (c ∈ half2.cps.toList)
theorem mark_app (x y : Str) : markOf (x ++ y) = markOf x ++ markOf y := by
  show (x.cps ++ y.cps).toList.filter _ = _
  rw [Array.toList_append, List.filter_append]; rfl
theorem mark_none {z : Str} (h : ∀ c ∈ z.cps.toList, c ∈ half1.cps.toList) : markOf z = [] := by
  have a : ∀ c ∈ half1.cps.toList, ¬ c ∈ half2.cps.toList := by decide +kernel
  exact List.filter_eq_nil_iff.mpr fun c hc e => a c (h c hc) (of_decide_eq_true e)
theorem mark_one {c : Nat} (h : c ∈ half2.cps.toList) : markOf ⟨#[c]⟩ = [c] := by
  show List.filter _ [c] = [c]
  rw [List.filter_cons, if_pos (decide_eq_true h)]; rfl
def MkAt (r0 : Int) (k : Nat) (z : Str) : Prop := markOf z = [half2.cps.toList.getD ((r0 + 5 * (k : Int)) % 13).toNat 0]
theorem half2_inj : ∀ i j : Fin 13, half2.cps.toList.getD i.1 0 = half2.cps.toList.getD j.1 0 → i = j := by decide +kernel
theorem marks_nodup {r0 : Int} {zs : List Str} (h : ∀ (k : Nat) z, zs[k]? = some z → MkAt r0 k z) (l : zs.length ≤ 13) : zs.Nodup := by
  rw [List.nodup_iff_pairwise_ne, List.pairwise_iff_getElem]
  intro i j hi hj lt e
  have h1 := h i _ (List.getElem?_eq_getElem hi)
  have h2 := h j _ (List.getElem?_eq_getElem hj)
  unfold MkAt at h1 h2
  rw [e, h2] at h1
  have h3 := List.head_eq_of_cons_eq h1
  have q := half2_inj ⟨((r0 + 5 * (j : Int)) % 13).toNat, by omega⟩ ⟨((r0 + 5 * (i : Int)) % 13).toNat, by omega⟩ h3
  have q2 : ((r0 + 5 * (j : Int)) % 13).toNat = ((r0 + 5 * (i : Int)) % 13).toNat := Fin.mk.inj q
  omega
def sp__law_names (_ : PySem.W.Frag) : Sp := fun vs H Q _ => ∃ (c : Int) (m : Nat), vs = [.int c, .int (m : Int)] ∧ m ≤ 100 ∧ ∀ H' a (zs : List Str), Same H H' → H a = none → H' a = some (.lst (zs.map V.str)) → zs.length = m → (∀ z ∈ zs, nameB (.str z) = true) → (m ≤ 13 → zs.Nodup) → (∀ z ∈ zs, z ≠ "zz" ∧ z ≠ "zzz") → Q (.ref a) H'
theorem ok__law_names {f : Addr} {C D S : Addr} {fd : FuncData} (T : Txt K mg C D S) (F : Fun K "_law_names" "_law_names" s__law_names f fd) (c__law_row : Cal P w K mg base 2 "_law_row" (sp__law_row K) []) : FnOk P w K mg base CX0 3 f fd ["_law_cell_here", "_law_many"] (sp__law_names K) := by
  have nd := sc__law_names.nd
  refine F.ok sc__law_names (fun vs H Q E h => ?_) (fun cdv A outer s H vs Q E hr h => ?_)
  · obtain ⟨c, m, rfl, _⟩ := h
    rfl
  · obtain ⟨c, m, rfl, hm, q⟩ := h
    refine ⟨_, (pss_cons (ps_set (i := 2) nd rfl (.inl rfl) (pe_c c__law_row hr (by omega) (by rfl) (pa_cons (pv 0) (pa_cons (pe_op op_cat (pe_lst (pa_cons pe_int (pa_cons pe_int (pa_cons pe_int pa_nil)))) (pe_op op_rep (pe_lst (pa_cons pe_int (pa_cons pe_int (pa_cons pe_int (pa_cons pe_int (pa_cons pe_int (pa_cons pe_int pa_nil))))))) (pv 1))) pa_nil))))
      (pss_cons (ps_set (i := 3) nd rfl (.inl rfl) (pe_lst pa_nil))
      (pss_cons (ps_for PassesOwn.never rfl (pi_range1 (by rfl) T.m_range (pa_cons (pv 1) pa_nil)) (pg_name (i := 4) nd rfl (.inl rfl)) (pss_cons (ps_set (i := 5) nd rfl (.inl rfl) (pe_slice sl_list (pv 2) (po_some (pe_op op_add pe_int (pe_op op_mul pe_int (pv 4)))) (po_some (pe_op op_add pe_int (pe_op op_mul pe_int (pv 4))))))
      (pss_cons (ps_if (pt_cmpR op_eq (pe_ix (r := rIxL K) ix_list (pv 2) pe_int (fun _ _ => rfl)) pe_int (nomark _)) (pss_one (ps_set (i := 5) nd rfl (.inl rfl) (pe_slice sl_list (pv 2) (po_some pe_int) (po_some pe_int)))) pss_nil)
      (pss_cons (ps_set (i := 6) nd rfl (.inl rfl) (pe_join pe_str (pe_lc (own := [("_law_digit", 9)]) (g := gName 9) (tt := tYes) rfl nd (pi_list (pe_slice sl_list (pv 5) (po_some pe_int) (po_some (pe_op op_add pe_int (pe_ix (r := rIxL K) ix_list (pv 5) pe_int (fun _ _ => rfl)))))) (blkOk_by (N := ["_law_cell_here", "_law_many", "_law_row_here", "_law_names_here", "_law_k", "_law_own", "_law_text", "_law_at", "_law_letter", "_law_digit"]) (sc := defScope s__law_names) (by decide +kernel)) (fun _ _ _ _ _ => (pg_name (i := 9) nd rfl (.inl rfl))) (fun _ _ _ _ _ => pts_nil) (fun _ _ _ _ _ => (pe_ix ix_str pe_str (pv 9) (fun _ _ => rfl))))))
      (pss_cons (ps_set (i := 7) nd rfl (.inl rfl) (pe_op op_mod (pe_callTy call_int1 (by rfl) T.m_int (by decide +kernel) (pa_cons (pe_ix (r := rIxL K) ix_list (pv 2) pe_int (fun _ _ => rfl)) pa_nil)) (pe_op op_add (pe_callB call_len (by rfl) T.m_len (by decide +kernel) (pa_cons (pv 6) pa_nil)) pe_int)))
      (pss_cons (ps_set (i := 8) nd rfl (.inl rfl) (pe_ix ix_str pe_str (pe_op op_mod (pe_callTy call_int1 (by rfl) T.m_int (by decide +kernel) (pa_cons (pe_op op_add (pe_ix (r := rIxL K) ix_list (pv 2) pe_int (fun _ _ => rfl)) (pe_op op_mul pe_int (pv 4))) pa_nil)) pe_int) (fun _ _ => rfl)))
      (pss_one (ps_expr (pe_bm PySem.F.plainAttrs_list PySem.F.slot_list_append PySem.F.type_list_append mt_append (pv 3) (pa_cons (pe_op op_add_str (pe_op op_add_str (pe_slice sl_str (pv 6) po_none (po_some (pv 7))) (pv 8)) (pe_slice sl_str (pv 6) (po_some (pv 7)) po_none)) pa_nil))))))))))
      (pss_one (ps_ret (pv 3)))))), ?_⟩
    refine ⟨.int c, rfl, szl rfl, fun p1 n1 => ⟨szl rfl, fun p2 n2 => ⟨.int m, rfl, p2, m, [.int 6, .int 13, .int 13, .int 13, .int 13, .int 13], rfl, rfl, upd_same, by omega, by omega, smallE (by show 6 * (m : Int).toNat ≤ _; omega), fun p3 n3 => ?_⟩⟩⟩
    have em : (m : Int).toNat = m := Int.toNat_natCast m
    rw [em]
    have s1 := same_upd (o := .lst [.int 13, .int 2, .int 6]) n1
    have s2 := same_upd (o := .lst [.int 6, .int 13, .int 13, .int 13, .int 13, .int 13]) n2
    have s3 := same_upd (o := .lst (List.replicate m [V.int 6, .int 13, .int 13, .int 13, .int 13, .int 13]).flatten) n3
    refine ⟨p1, p3, [.int 13, .int 2, .int 6], _, rfl, rfl, s3 _ _ (s2 _ _ upd_same), upd_same, smallE (by rw [flat_len]; show 3 + 6 * m ≤ _; omega), fun p4 n4 => ?_⟩
    have s4 := (s1.trans (s2.trans s3)).trans (same_upd (o := .lst ([.int 13, .int 2, .int 6] ++ (List.replicate m [V.int 6, .int 13, .int 13, .int 13, .int 13, .int 13]).flatten)) n4)
    have e4 : (upd (upd (upd (upd H p1 (.lst [.int 13, .int 2, .int 6])) p2 (.lst [.int 6, .int 13, .int 13, .int 13, .int 13, .int 13])) p3 (.lst (List.replicate m [V.int 6, .int 13, .int 13, .int 13, .int 13, .int 13]).flatten)) p4 (.lst ([.int 13, .int 2, .int 6] ++ (List.replicate m [V.int 6, .int 13, .int 13, .int 13, .int 13, .int 13]).flatten))) p4 = some (.lst ((szN m).map V.int)) := by
      rw [upd_same, ← szN_map]; rfl
    generalize upd (upd (upd (upd H p1 (.lst [.int 13, .int 2, .int 6])) p2 (.lst [.int 6, .int 13, .int 13, .int 13, .int 13, .int 13])) p3 (.lst (List.replicate m [V.int 6, .int 13, .int 13, .int 13, .int 13, .int 13]).flatten)) p4 (.lst ([.int 13, .int 2, .int 6] ++ (List.replicate m [V.int 6, .int 13, .int 13, .int 13, .int 13, .int 13]).flatten)) = G at s4 e4
    refine ⟨c, p4, szN m, rfl, .inl (.inl e4), by rw [szN_len]; omega, fun x hx => szN_good hx, fun H1 R rs sm nR eR hrl hb => ?_⟩
    have sH : Same H H1 := s4.trans sm
    refine ⟨szl rfl, fun N nN => ?_⟩
    have s5 := same_upd (o := .lst []) nN
    have nNH : H N = none := sH.free nN
    have eR5 := s5 _ _ eR
    have nNR : R ≠ N := ne_of_none eR nN
    refine ⟨.int m, rfl, m, rfl, by omega, by omega, ?_⟩
    obtain ⟨r0, _, g0, l0, u0⟩ := row_at hrl hb (j := 0) (t := 13) rfl
    refine for_range (lo := 0) (fun i σ H' => ∃ (y4 y5 y6 y7 y8 : Option V) (zs : List Str), σ = [some (.int c), some (.int m), some (.ref R), some (.ref N), y4, y5, y6, y7, y8, none] ∧ Same H H' ∧ H' R = some (.lst (rs.map V.int)) ∧ H' N = some (.lst (zs.map V.str)) ∧ zs.length = i ∧ (∀ z ∈ zs, nameB (.str z) = true) ∧ ∀ (k : Nat) z, zs[k]? = some z → MkAt r0 k z)
      ⟨_, _, _, _, _, [], rfl, sH.trans s5, eR5, upd_same, rfl, (fun z hz => nomatch hz), (fun k z e => nomatch e)⟩ (fun i σ H' hi hP => ?_) (fun σ H' hP => ?_)
    · rw [em] at hi
      obtain ⟨y4, y5, y6, y7, y8, zs, rfl, S, eR, eN, lz, hz, hmk⟩ := hP
      have e0 : (0 : Int) + (i : Nat) = (i : Nat) := by omega
      rw [e0]
      have i0 : m ≠ 0 := by omega
      obtain ⟨r1, _, g1, l1, u1⟩ := row_at hrl hb (j := 1) (t := 2) rfl
      obtain ⟨r2, _, g2, l2, u2⟩ := row_at hrl hb (j := 2) (t := 6) rfl
      refine ⟨.ref R, rfl, .int (i : Nat), rfl, 6, (i : Nat), rfl, rfl, .inl ⟨by decide, by decide⟩, 3, _, rfl, rfl, _, rfl, .int (i : Nat), rfl, 6, (i : Nat), rfl, rfl, .inl ⟨by decide, by decide⟩, 9, _, rfl, rfl, _, rfl, R, rs.map V.int, rfl, .inl (.inl eR), fun w1 nw1 => ?_⟩
      have ec : cutV (rs.map V.int) (some (3 + 6 * ((i : Nat) : Int))) (some (9 + 6 * ((i : Nat) : Int))) = (((rs.drop (3 + 6 * i)).take 6)).map V.int := by
        rw [show (3 + 6 * ((i : Nat) : Int)) = ((3 + 6 * i : Nat) : Int) by omega, show (9 + 6 * ((i : Nat) : Int)) = ((9 + 6 * i : Nat) : Int) by omega, cut_nat, List.map_take, List.map_drop, show 9 + 6 * i - (3 + 6 * i) = 6 by omega]
      rw [ec]
      have sw1 := same_upd (o := .lst (((rs.drop (3 + 6 * i)).take 6).map V.int)) nw1
      have own1 := own_cut hrl hb hi
      refine KnC.asg_if (fun σ2 G => ∃ (wa : Addr) (os : List Int), σ2 = [some (.int c), some (.int m), some (.ref R), some (.ref N), some (.int (i : Nat)), some (.ref wa), y6, y7, y8, none] ∧ Same H' G ∧ G wa = some (.lst (os.map V.int)) ∧ Own os) (fun go => ?_) (fun σ2 G hT => ?_)
      · refine ⟨.ref R, rfl, R, rs.map V.int, 1, .int r1, rfl, rfl, .inl (.inl (sw1 _ _ eR)), atI_nat (j := 1) g1, rfl, _, rfl, ite2 (fun e => ?_) (fun e => ?_)⟩
        · refine ⟨.ref R, rfl, _, rfl, _, rfl, R, rs.map V.int, rfl, .inl (.inl (sw1 _ _ eR)), fun w2 nw2 => ?_⟩
          refine go _ _ ⟨w2, (rs.drop 3).take 6, rfl, sw1.trans (same_upd nw2), ?_, own_cut hrl hb (k := 0) (by omega)⟩
          rw [upd_same, show (some (3 : Int)) = some ((3 : Nat) : Int) from rfl, show (some (9 : Int)) = some ((9 : Nat) : Int) from rfl, cut_nat, List.map_take, List.map_drop]
        · exact go _ _ ⟨w1, _, rfl, sw1, upd_same, own1⟩
      · obtain ⟨wa, os, rfl, SG, ewa, lo, ow⟩ := hT
        obtain ⟨o0, go0, gV, l0', u0'⟩ := row_at (rs := os) (ss := [6, 13, 13, 13, 13, 13]) lo ow (j := 0) (t := 6) rfl
        have eRG := SG _ _ eR
        have eNG := SG _ _ eN
        refine ⟨⟨"", rfl⟩, .ref wa, rfl, 1, rfl, .ref wa, rfl, wa, os.map V.int, 0, .int o0, rfl, rfl, .inl (.inl ewa), atI_nat (j := 0) gV, 1, o0, rfl, rfl, _, rfl, wa, os.map V.int, rfl, .inl (.inl ewa), fun cc nc => ?_⟩
        have cs_ : cutV (os.map V.int) (some 1) (some (1 + o0)) = ((os.drop 1).take o0.toNat).map V.int := by
          rw [show (1 + o0) = ((1 + o0.toNat : Nat) : Int) by omega, show (some (1 : Int)) = some ((1 : Nat) : Int) from rfl, cut_nat, List.map_take, List.map_drop, show 1 + o0.toNat - 1 = o0.toNat by omega]
        rw [cs_]
        have scc := same_upd (o := .lst (((os.drop 1).take o0.toNat).map V.int)) nc
        have ecc : (upd G cc (.lst (((os.drop 1).take o0.toNat).map V.int))) cc = some (.lst (((os.drop 1).take o0.toNat).map V.int)) := upd_same
        have lcs : ((os.drop 1).take o0.toNat).length ≤ 5 := by rw [List.length_take, List.length_drop]; omega
        have mcs : ∀ (j : Nat) (r : Int), ((os.drop 1).take o0.toNat)[j]? = some r → 0 ≤ r ∧ r < 13 := fun j r e => by
          have hj : j < o0.toNat := by
            have := (List.getElem?_eq_some_iff.mp e).1
            rw [List.length_take] at this
            omega
          rw [List.getElem?_take_of_lt hj, List.getElem?_drop] at e
          refine ow (1 + j) r 13 e ?_
          have : j < 5 := by omega
          rcases j with _ | _ | _ | _ | _ | j
          · rfl
          · rfl
          · rfl
          · rfl
          · rfl
          · omega
        generalize (os.drop 1).take o0.toNat = cs at scc ecc lcs mcs
        generalize upd G cc (.lst (cs.map V.int)) = G1 at scc ecc
        refine ⟨cc, rfl, ⟨_, .inl (.inl ecc)⟩, fun D nD => lc_list (K := K) (a := cc) (xs := cs.map V.int) (fun i H' => Same G1 H' ∧ ∃ ys : List Str, H' D = some (.lst (ys.map V.str)) ∧ ys.length = i ∧ (∀ y ∈ ys, y.cps.size = 1) ∧ ∀ y ∈ ys, ∀ c ∈ y.cps.toList, c ∈ half1.cps.toList)
          ⟨same_upd nD, [], upd_same, rfl, (fun y hy => nomatch hy), fun y hy => nomatch hy⟩ (fun i H' _ hP => hP.1.seq (.inl (.inl ecc))) (fun i x H' hx hP => ?_) (fun H' hP => ?_)⟩
        · obtain ⟨sm', ys, eD, hl, h1, h2⟩ := hP
          rw [List.getElem?_map] at hx
          cases gx : cs[i]? with
          | none => rw [gx] at hx; cases hx
          | some r =>
          rw [gx] at hx
          cases hx
          obtain ⟨l, u⟩ := mcs i r gx
          have hi : i < cs.length := (List.getElem?_eq_some_iff.mp gx).1
          obtain ⟨j, rfl⟩ : ∃ j : Nat, r = (j : Int) := ⟨r.toNat, by omega⟩
          have hj : j < half1.cps.toList.length := by
            have : half1.cps.toList.length = 13 := by decide
            omega
          refine ⟨rfl, ?_⟩
          unfold tYes
          refine iteT ?_
          refine ⟨.int j, rfl, half1, (j : Int), half1.cps.toList[j], rfl, rfl, smallE (by decide), atI_nat (List.getElem?_eq_getElem hj), ys.map V.str, eD, ?_, same_set nD sm', ys ++ [⟨#[half1.cps.toList[j]]⟩], ?_, ?_, ?_, ?_⟩
          · rw [List.length_map]; exact small (by omega)
          · rw [upd_same, List.map_append]; rfl
          · rw [List.length_append, hl]; rfl
          · intro y hy
            rcases List.mem_append.mp hy with hy | hy
            · exact h1 y hy
            · rw [List.mem_singleton.mp hy]; rfl
          · intro y hy c hc
            rcases List.mem_append.mp hy with hy | hy
            · exact h2 y hy c hc
            · rw [List.mem_singleton.mp hy] at hc
              rw [List.mem_singleton.mp (show c ∈ [half1.cps.toList[j]] from hc)]
              exact List.getElem_mem hj
        · obtain ⟨sm', ys, eD, hl, h1, h2⟩ := hP
          rw [List.length_map] at hl
          have hz1 := join_size h1
          have hin := join_mem h2
          have hs : (ys.map (·.length)).sum + ys.length * ("" : Str).length ≤ 16777216 := by rw [join_sum h1]; omega
          have SG' : Same G H' := scc.trans sm'
          have eRF := SG' _ _ eRG
          have eNF := SG' _ _ eNG
          have SF := S.trans (SG.trans SG')
          refine ⟨"", D, ys, rfl, rfl, .inl (.inl (.inl eD)), hs, ?_⟩
          generalize Txt.join "" ys = z at hz1 hin ⊢
          have hz5 : z.cps.size ≤ 5 := by omega
          have hzl : z.length ≤ sizeLine := smallE (show z.cps.size ≤ 100000 by omega)
          refine ⟨.ref R, rfl, R, rs.map V.int, 2, .int r2, rfl, rfl, .inl (.inl eRF), atI_nat (j := 2) g2, .inl ⟨r2, rfl, .str z, rfl, .str z, z.cps.size, rfl, ⟨hzl, rfl⟩, (z.cps.size : Int), 1, rfl, rfl, r2, (z.cps.size : Int) + 1, rfl, rfl, (show (0 : Int) < (z.cps.size : Int) + 1 by omega), ?_⟩⟩
          obtain ⟨j, ej⟩ : ∃ j : Nat, (r0 + 5 * ((i : Nat) : Int)) % 13 = (j : Int) := ⟨((r0 + 5 * ((i : Nat) : Int)) % 13).toNat, by omega⟩
          have hj : j < half2.cps.toList.length := by
            have : half2.cps.toList.length = 13 := by decide
            omega
          refine ⟨.ref R, rfl, R, rs.map V.int, 0, .int r0, rfl, rfl, .inl (.inl eRF), atI_nat (j := 0) g0, .int (i : Nat), rfl, 5, (i : Nat), rfl, rfl, .inl ⟨by decide, by decide⟩, r0, _, rfl, rfl, .inl ⟨_, rfl, _, 13, rfl, rfl, (show (0 : Int) < 13 by decide), half2, _, half2.cps.toList[j], rfl, rfl, smallE (by decide), by rw [ej]; exact atI_nat (List.getElem?_eq_getElem hj), ?_⟩⟩
          refine ⟨.ref N, rfl, .inl ⟨rfl, _, .inl (.inl eNF)⟩, .str z, rfl, _, rfl, _, rfl, z, rfl, hzl, .str _, rfl, _, _, rfl, rfl, ?_, .str z, rfl, _, rfl, _, rfl, z, rfl, hzl, _, _, rfl, rfl, ?_, N, _, _, rfl, rfl, eNF, ?_, ?_⟩
          · refine smallE ?_
            have := cutS_length z none (some (r2 % ((z.cps.size : Int) + 1)))
            show (cutS z none _).cps.size + 1 ≤ 100000
            omega
          · refine smallE ?_
            have h1 := cutS_length z none (some (r2 % ((z.cps.size : Int) + 1)))
            have h2 := cutS_length z (some (r2 % ((z.cps.size : Int) + 1))) none
            show ((cutS z none _) ++ (⟨#[_]⟩ : Str)).cps.size + (cutS z _ none).cps.size ≤ 100000
            rw [app_size]
            show (cutS z none _).cps.size + 1 + _ ≤ _
            omega
          · exact small (by rw [List.length_map]; omega)
          · refine ⟨_, _, _, _, _, zs ++ [_], rfl, same_set nNH SF, (upd_ne nNR).trans eRF, by rw [upd_same, List.map_append]; rfl, by rw [List.length_append, lz]; rfl, fun y hy => ?_, fun k y e => ?_⟩
            rcases List.mem_append.mp hy with hy | hy
            · exact hz y hy
            · rw [List.mem_singleton.mp hy]
              have h1 := cutS_length z none (some (r2 % ((z.cps.size : Int) + 1)))
              have h2 := cutS_length z (some (r2 % ((z.cps.size : Int) + 1))) none
              have sz : (cutS z none (some (r2 % ((z.cps.size : Int) + 1))) ++ (⟨#[half2.cps.toList[j]]⟩ : Str) ++ cutS z (some (r2 % ((z.cps.size : Int) + 1))) none).cps.size = (cutS z none (some (r2 % ((z.cps.size : Int) + 1)))).cps.size + 1 + (cutS z (some (r2 % ((z.cps.size : Int) + 1))) none).cps.size := by
                rw [app_size, app_size]; rfl
              show (decide _ && decide _ && List.all _ inL) = true
              rw [sz, Bool.and_eq_true, Bool.and_eq_true, List.all_eq_true]
              refine ⟨⟨decide_eq_true (by omega), decide_eq_true (by omega)⟩, fun c hc => ?_⟩
              rcases app_mem hc with hc | hc
              · rcases app_mem hc with hc | hc
                · exact half1_in _ (hin c (cutS_mem hc))
                · rw [List.mem_singleton.mp (show c ∈ [half2.cps.toList[j]] from hc)]
                  exact half2_in _ (List.getElem_mem hj)
              · exact half1_in _ (hin c (cutS_mem hc))
            · rcases Nat.lt_or_ge k zs.length with lt | ge
              · rw [List.getElem?_append_left lt] at e
                exact hmk k y e
              · rw [List.getElem?_append_right ge] at e
                have k0 : k - zs.length = 0 := by
                  have := (List.getElem?_eq_some_iff.mp e).1
                  simp at this
                  omega
                rw [k0] at e
                cases Option.some.inj e
                obtain rfl : k = i := by omega
                unfold MkAt
                rw [mark_app, mark_app, mark_none fun c hc => hin c (cutS_mem hc), mark_none fun c hc => hin c (cutS_mem hc), mark_one (List.getElem_mem hj), ej, Int.toNat_natCast]
                rw [List.getD_eq_getElem?_getD, List.getElem?_eq_getElem hj]; rfl
    · rw [em] at hP
      obtain ⟨y4, y5, y6, y7, y8, zs, rfl, S, eR, eN, lz, hz, hmk⟩ := hP
      exact ⟨.ref N, rfl, q H' N zs S nNH eN lz hz (fun l => marks_nodup hmk (by omega)) fun z hz' => by
        obtain ⟨k, hk, ek⟩ := List.mem_iff_getElem.mp hz'
        have h1 : MkAt r0 k z := hmk k z (by rw [← ek]; exact List.getElem?_eq_getElem hk)
        unfold MkAt at h1
        have h2 := congrArg List.length h1
        exact ⟨fun e => absurd (show (markOf "zz").length = 1 from e ▸ h2) (by decide +kernel), fun e => absurd (show (markOf "zzz").length = 1 from e ▸ h2) (by decide +kernel)⟩⟩

/-! ### a drawn machine -/
theorem paired_take {α β : Type} {F : α → β → Prop} {l : List α} {m : List β} (h : Paired F l m) : ∀ n, Paired F (l.take n) (m.take n) := by
  induction h with
  | nil => intro n; rw [List.take_nil, List.take_nil]; exact .nil
  | cons r _ ih =>
    intro n
    cases n with
    | zero => exact .nil
    | succ n => exact .cons r (ih n)
theorem paired_drop {α β : Type} {F : α → β → Prop} {l : List α} {m : List β} (h : Paired F l m) : ∀ n, Paired F (l.drop n) (m.drop n) := by
  induction h with
  | nil => intro n; rw [List.drop_nil, List.drop_nil]; exact .nil
  | cons r k ih =>
    intro n
    cases n with
    | zero => exact .cons r k
    | succ n => exact ih n
theorem paired_app {α β : Type} {F : α → β → Prop} {l l' : List α} {m m' : List β} (h : Paired F l m) (h' : Paired F l' m') : Paired F (l ++ l') (m ++ m') := by
  induction h with
  | nil => exact h'
  | cons r _ ih => exact .cons r ih
/-- steps of a drawn machine: `most` the greatest number that leave one state -/
structure Drawn (ls : List Int) (names : List Str) (ss : List KnA.Stp) (most : Nat) : Prop where
  nd : ss.Nodup
  good : ∀ x ∈ ss, x.1 ∈ ls ∧ x.2.1 ∈ names ∧ x.2.2 ∈ ls
  few : ∀ s, cnt ss s ≤ most
theorem cnt_app (l m : List KnA.Stp) (s : Int) : cnt (l ++ m) s = cnt l s + cnt m s := by
  unfold cnt
  rw [List.filter_append, List.length_append]
theorem cnt_one (x : KnA.Stp) (s : Int) : cnt [x] s ≤ 1 := List.length_filter_le _ _
theorem Drawn.push {ls : List Int} {names : List Str} {ss : List KnA.Stp} {most : Nat} (h : Drawn ls names ss most) {x : KnA.Stp} (hx : x ∉ ss) (g : x.1 ∈ ls ∧ x.2.1 ∈ names ∧ x.2.2 ∈ ls) : Drawn ls names (ss ++ [x]) (most + 1) := by
  refine ⟨?_, fun y hy => ?_, fun s => ?_⟩
  · refine List.nodup_append.mpr ⟨h.nd, by simp, fun a ha b hb e => ?_⟩
    rw [List.mem_singleton] at hb
    exact hx (hb ▸ e ▸ ha)
  · rcases List.mem_append.mp hy with q | q
    · exact h.good y q
    · rw [List.mem_singleton.mp q]; exact g
  · rw [cnt_app]
    have := h.few s
    have := cnt_one x s
    omega
theorem Drawn.up {ls : List Int} {names : List Str} {ss : List KnA.Stp} {m n : Nat} (h : Drawn ls names ss m) (k : m ≤ n) : Drawn ls names ss n := ⟨h.nd, h.good, fun s => Nat.le_trans (h.few s) k⟩
theorem Drawn.turn {ls : List Int} {names : List Str} {ss : List KnA.Stp} {m : Nat} (h : Drawn ls names ss m) (t : Nat) : Drawn ls names (ss.drop t ++ ss.take t) m := by
  have p : (ss.drop t ++ ss.take t).Perm ss := by
    have := List.perm_append_comm (l₁ := ss.drop t) (l₂ := ss.take t)
    rwa [List.take_append_drop] at this
  refine ⟨p.symm.nodup h.nd, fun x hx => h.good x (p.mem_iff.mp hx), fun s => ?_⟩
  have e : cnt (ss.drop t ++ ss.take t) s = cnt ss s := (p.filter _).length_eq
  rw [e]
  exact h.few s
/-- the base: each label has one step -/
theorem cnt_base {ss : List KnA.Stp} (h : (ss.map (·.1)).Nodup) (s : Int) : cnt ss s ≤ 1 := by
  unfold cnt
  induction ss with
  | nil => exact Nat.zero_le _
  | cons x r ih =>
    rw [List.map_cons, List.nodup_cons] at h
    by_cases e : x.1 = s
    · rw [List.filter_cons_of_pos (by simp [e])]
      have : r.filter (fun y => decide (y.1 = s)) = [] := List.filter_eq_nil_iff.mpr fun y hy z => h.1 (by
        have e2 := of_decide_eq_true z
        exact List.mem_map.mpr ⟨y, hy, e2.trans e.symm⟩)
      rw [this]
      exact Nat.le_refl _
    · rw [List.filter_cons_of_neg (by simp [e])]
      exact ih h.2
theorem nodup_base {ss : List KnA.Stp} (h : (ss.map (·.1)).Nodup) : ss.Nodup := by
  have := List.pairwise_map.mp h
  exact this.imp fun hne e => hne (congrArg (·.1) e)
def strides : List Int := [1, 3, 7, 9, 11, 13, 17, 19]
def labs (r st : Int) (n : Nat) : List Int := (List.range n).map fun (k : Nat) => (r + st * (k : Int)) % 100
theorem labs_len (r st : Int) (n : Nat) : (labs r st n).length = n := by unfold labs; rw [List.length_map, List.length_range]
theorem labs_succ (r st : Int) (n : Nat) : labs r st (n + 1) = labs r st n ++ [(r + st * (n : Int)) % 100] := by
  unfold labs
  rw [List.range_succ, List.map_append]; rfl
theorem labs_in {r st : Int} {n : Nat} {x : Int} (h : x ∈ labs r st n) : 0 ≤ x ∧ x ≤ 99 := by
  obtain ⟨k, _, rfl⟩ := List.mem_map.mp h
  have h1 := Int.emod_nonneg (r + st * (k : Int)) (show (100 : Int) ≠ 0 by decide)
  have h2 := Int.emod_lt_of_pos (r + st * (k : Int)) (show (0 : Int) < 100 by decide)
  omega
theorem labs_nd {r st : Int} {n : Nat} (hs : st ∈ strides) (hn : n ≤ 100) : (labs r st n).Nodup := by
  unfold labs
  refine List.pairwise_map.mpr (List.nodup_range.imp_of_mem fun {a b} ha hb ne e => ne ?_)
  have ha := List.mem_range.mp ha
  have hb := List.mem_range.mp hb
  unfold strides at hs
  simp only [List.mem_cons, List.not_mem_nil, or_false] at hs
  rcases hs with rfl | rfl | rfl | rfl | rfl | rfl | rfl | rfl <;> omega
theorem stateB_of {x : Int} (h : 0 ≤ x ∧ x ≤ 99) : stateB (.int x) = true := by
  show (decide (0 ≤ x) && decide (x ≤ 99)) = true
  rw [decide_eq_true h.1, decide_eq_true h.2]; rfl
/-- a drawn machine: its labels, the steps of each, a word that is used -/
structure DrawnM (ls : List Int) (names : List Str) (ss : List KnA.Stp) : Prop where
  ne : ls ≠ []
  few : ls.length ≤ 8
  st : ∀ x ∈ ls, stateB (.int x) = true
  dr : Drawn ls names ss 8
  all : ∀ x ∈ ls, ∃ w y, (x, w, y) ∈ ss
  hi : ss.length ≤ 80
  w0 : ∀ x, names[0]? = some x → x ∈ ss.map (·.2.1)
theorem DrawnM.steps {ls : List Int} {names : List Str} {ss : List KnA.Stp} (h : DrawnM ls names ss) (hn : ∀ z ∈ names, nameB (.str z) = true) : GoodSteps ss := by
  refine ⟨?_, h.hi, fun x hx => ⟨h.st _ (h.dr.good x hx).1, hn _ (h.dr.good x hx).2.1, h.st _ (h.dr.good x hx).2.2⟩, h.dr.nd, h.dr.few⟩
  obtain ⟨l, hl⟩ := List.exists_mem_of_ne_nil _ h.ne
  obtain ⟨w, y, hm⟩ := h.all l hl
  exact List.length_pos_of_mem hm
theorem DrawnM.live {ls : List Int} {names : List Str} {ss : List KnA.Stp} (h : DrawnM ls names ss) {s0 : Int} (hs : s0 ∈ ls) (x : Int) (r : KnA.Reach ss s0 x) : ∃ w y, (x, w, y) ∈ ss := by
  refine h.all x ?_
  induction r with
  | start => exact hs
  | step _ m _ => exact (h.dr.good _ m).2.2
def szM (n mo ex : Nat) : List Int := [(mo : Int), (ex : Int) + 1, 100, 8, 64] ++ (List.replicate mo [(n : Int) - 1, (mo : Int)]).flatten ++ (List.replicate ex [(mo : Int), (n : Int) + 2, (mo : Int)]).flatten
theorem szM_len (n mo ex : Nat) : (szM n mo ex).length = 5 + 2 * mo + 3 * ex := by
  unfold szM
  rw [List.length_append, List.length_append, flat_len, flat_len]; rfl
theorem szM_base {n mo ex k j : Nat} (hk : k < mo) (hj : j < 2) : (szM n mo ex)[5 + 2 * k + j]? = ([(n : Int) - 1, (mo : Int)] : List Int)[j]? := by
  unfold szM
  have l5 : ([(mo : Int), (ex : Int) + 1, 100, 8, 64] : List Int).length = 5 := rfl
  have l2 : (List.replicate mo [(n : Int) - 1, (mo : Int)]).flatten.length = 2 * mo := flat_len _ _
  rw [List.getElem?_append_left (by rw [List.length_append, l5, l2]; omega), List.getElem?_append_right (by rw [l5]; omega), l5, show 5 + 2 * k + j - 5 = 2 * k + j by omega]
  exact flat_get (l := ([(n : Int) - 1, (mo : Int)] : List Int)) (j := j) hj hk
theorem szM_more {n mo ex k j : Nat} (hk : k < ex) (hj : j < 3) : (szM n mo ex)[5 + 2 * mo + 3 * k + j]? = ([(mo : Int), (n : Int) + 2, (mo : Int)] : List Int)[j]? := by
  unfold szM
  have l5 : ([(mo : Int), (ex : Int) + 1, 100, 8, 64] : List Int).length = 5 := rfl
  have l2 : (List.replicate mo [(n : Int) - 1, (mo : Int)]).flatten.length = 2 * mo := flat_len _ _
  rw [List.getElem?_append_right (by rw [List.length_append, l5, l2]; omega), List.length_append, l5, l2, show 5 + 2 * mo + 3 * k + j - (5 + 2 * mo) = 3 * k + j by omega]
  exact flat_get (l := ([(mo : Int), (n : Int) + 2, (mo : Int)] : List Int)) (j := j) hj hk
theorem szM_good {n mo ex : Nat} (h1 : 2 ≤ n) (h2 : n ≤ 100) (h3 : 1 ≤ mo) (h4 : mo ≤ 100) (h5 : ex ≤ 100) {x : Int} (h : x ∈ szM n mo ex) : 0 < x ∧ x < 1073741824 := by
  unfold szM at h
  rcases List.mem_append.mp h with h | h
  · rcases List.mem_append.mp h with h | h
    · simp at h; omega
    · have := flat_mem h
      simp at this; omega
  · have := flat_mem h
    simp at this; omega
/-- steps as data -/
def dat (x : KnA.Stp) : PyData := .tuple [.int x.1, .str x.2.1, .int x.2.2]
theorem dat_eq (x y : KnA.Stp) : PyData.eqv (dat x) (dat y) = decide (x = y) := by
  obtain ⟨a, b, c⟩ := x
  obtain ⟨a', b', c'⟩ := y
  show ((a == a') && ((b == b') && ((c == c') && true))) = decide ((a, b, c) = (a', b', c'))
  by_cases e1 : a = a' <;> by_cases e2 : b = b' <;> by_cases e3 : c = c' <;> simp [e1, e2, e3]
theorem dat_any (ss : List KnA.Stp) (x : KnA.Stp) : ((ss.map dat).any fun z => PyData.eqv z (dat x)) = decide (x ∈ ss) := by
  induction ss with
  | nil => rfl
  | cons y r ih =>
    rw [List.map_cons, List.any_cons, ih, dat_eq]
    by_cases e : y = x
    · subst e; simp
    · have e' : ¬ x = y := fun q => e q.symm
      simp [e, e']
theorem strOk_name {z : Str} (h : nameB (.str z) = true) : PyData.strOk z = true := by
  have h' : (decide (1 ≤ z.cps.size) && decide (z.cps.size ≤ 12) && z.cps.toList.all inL) = true := h
  rw [Bool.and_eq_true] at h'
  have hl : ∀ c ∈ letters.cps.toList, c < 0x110000 := by decide +kernel
  unfold PyData.strOk
  rw [Array.all_eq_true]
  intro i hi
  have hm : z.cps[i] ∈ z.cps.toList := Array.getElem_mem_toList hi
  exact decide_eq_true (hl _ (of_decide_eq_true (List.all_eq_true.mp h'.2 _ hm)))
theorem dat_shaped {x : KnA.Stp} (h : nameB (.str x.2.1) = true) : SeqAt.shaped (dat x) = true := by
  unfold SeqAt.shaped
  have h1 : (dat x).canLay0 = true := by
    show (true && (PyData.strOk x.2.1 && (true && true))) = true
    rw [strOk_name h]; rfl
  have h2 : (dat x).depth = 1 := by
    show max 0 (max 0 (max 0 0)) + 1 = 1
    rfl
  rw [h1, h2]; rfl
theorem dats_shaped {ss : List KnA.Stp} (h : ∀ x ∈ ss, nameB (.str x.2.1) = true) : SeqAt.shaped (.list (ss.map dat)) = true := by
  have h1 : PyData.canLayAll0 (ss.map dat) = true ∧ PyData.depthAll (ss.map dat) ≤ 1 := by
    induction ss with
    | nil => exact ⟨rfl, Nat.zero_le _⟩
    | cons x r ih =>
      obtain ⟨a, b⟩ := ih fun y hy => h y (List.mem_cons_of_mem _ hy)
      refine ⟨?_, ?_⟩
      · show ((true && (PyData.strOk x.2.1 && (true && true))) && PyData.canLayAll0 (r.map dat)) = true
        rw [strOk_name (h x List.mem_cons_self), a]; rfl
      · show max (max 0 (max 0 (max 0 0)) + 1) (PyData.depthAll (r.map dat)) ≤ 1
        omega
  unfold SeqAt.shaped
  have h2 : (PyData.list (ss.map dat)).canLay0 = true := h1.1
  have h3 : (PyData.list (ss.map dat)).depth ≤ 64 := by
    show PyData.depthAll (ss.map dat) + 1 ≤ 64
    omega
  rw [h2, decide_eq_true h3]; rfl
theorem dps {K : PySem.W.Frag} {H : Hp} {as : List Addr} {ss : List KnA.Stp} (h : Stps H as ss) : DpAll K H (as.map V.ref) (ss.map dat) := by
  induction h with
  | nil => exact .nil
  | cons r _ ih => exact .cons (.tup (.inl (.inl r)) (.cons (.int _) (.cons (.str _) (.cons (.int _) .nil)))) ih
theorem cut_from {xs : List V} {a : Nat} : cutV xs (some (a : Int)) none = xs.drop a := by
  unfold cutV
  rw [HT.sIx_nat, HT.sIx_none]
  by_cases h : a ≤ xs.length
  · rw [Nat.min_eq_left h, List.take_of_length_le (by rw [List.length_drop]; omega)]
  · rw [Nat.min_eq_right (by omega : xs.length ≤ a), List.drop_of_length_le (Nat.le_refl _), List.drop_of_length_le (by omega), List.take_nil]
theorem cut_to {xs : List V} {a : Nat} : cutV xs none (some (a : Int)) = xs.take a := by
  unfold cutV
  rw [HT.sIx_nat, HT.sIx_none, List.drop_zero, Nat.sub_zero]
  by_cases h : a ≤ xs.length
  · rw [Nat.min_eq_left h]
  · rw [Nat.min_eq_right (by omega : xs.length ≤ a), List.take_of_length_le (Nat.le_refl _), List.take_of_length_le (by omega)]
theorem str_dec {a b : Str} : decide (V.str a = V.str b) = decide (a = b) := by
  by_cases e : a = b
  · subst e; simp
  · rw [decide_eq_false e, decide_eq_false fun z => e (V.str.inj z)]

def sp__law_machine (_ : PySem.W.Frag) : Sp := fun vs H Q _ => ∃ (c : Int) (n : Addr) (names : List Str) (mo ex : Nat), vs = [.int c, .ref n, .int (mo : Int), .int (ex : Int)] ∧ H n = some (.lst (names.map V.str)) ∧
  2 ≤ names.length ∧ names.length ≤ 14 ∧ (∀ z ∈ names, nameB (.str z) = true) ∧ 1 ≤ mo ∧ mo ≤ 8 ∧ ex ≤ 6 ∧
  ∀ H' t lb sl (ls : List Int) as ss, Same H H' → H' t = some (.lst [.ref lb, .ref sl]) → H lb = none → H sl = none → lb ≠ sl → H' lb = some (.lst (ls.map V.int)) → H' sl = some (.lst (as.map V.ref)) → Stps H' as ss → DrawnM ls names ss → Q (.ref t) H'
theorem ok__law_machine {f : Addr} {C D S : Addr} {fd : FuncData} (T : Txt K mg C D S) (F : Fun K "_law_machine" "_law_machine" s__law_machine f fd) (c__law_row : Cal P w K mg base 2 "_law_row" (sp__law_row K) []) : FnOk P w K mg base CX0 3 f fd ["_law_cell_here", "_law_names_here", "_law_most", "_law_extra"] (sp__law_machine K) := by
  have nd := sc__law_machine.nd
  refine F.ok sc__law_machine (fun vs H Q E h => ?_) (fun cdv A outer s H vs Q E hr h => ?_)
  · obtain ⟨c, n, names, mo, ex, rfl, _⟩ := h
    rfl
  · obtain ⟨c, n, names, mo, ex, rfl, hn, ln2, ln14, hnm, mo1, mo8, ex6, q⟩ := h
    refine ⟨_, (pss_cons (ps_set (i := 4) nd rfl (.inl rfl) (pe_op op_cat (pe_lst (pa_cons (pv 2) (pa_cons (pe_op op_add (pv 3) pe_int) (pa_cons pe_int (pa_cons pe_int (pa_cons pe_int pa_nil)))))) (pe_op op_rep (pe_lst (pa_cons (pe_op op_sub (pe_callB call_len (by rfl) T.m_len (by decide +kernel) (pa_cons (pv 1) pa_nil)) pe_int) (pa_cons (pv 2) pa_nil))) (pv 2))))
      (pss_cons (ps_set (i := 5) nd rfl (.inr rfl) (pe_c c__law_row hr (by omega) (by rfl) (pa_cons (pv 0) (pa_cons (pe_op op_cat (pv 4) (pe_op op_rep (pe_lst (pa_cons (pv 2) (pa_cons (pe_op op_add (pe_callB call_len (by rfl) T.m_len (by decide +kernel) (pa_cons (pv 1) pa_nil)) pe_int) (pa_cons (pv 2) pa_nil)))) (pv 3))) pa_nil))))
      (pss_cons (ps_set (i := 6) nd rfl (.inl rfl) (pe_op op_add pe_int (pe_ix (r := rIxL K) ix_list (pv 5) pe_int (fun _ _ => rfl))))
      (pss_cons (ps_set (i := 7) nd rfl (.inr rfl) (pe_ix (r := rIxL K) ix_list (pe_lst (pa_cons pe_int (pa_cons pe_int (pa_cons pe_int (pa_cons pe_int (pa_cons pe_int (pa_cons pe_int (pa_cons pe_int (pa_cons pe_int pa_nil))))))))) (pe_ix (r := rIxL K) ix_list (pv 5) pe_int (fun _ _ => rfl)) (fun _ _ => rfl)))
      (pss_cons (ps_setLc (i := 8) (own := [("_law_k", 10)]) (g := gName 10) (tt := tYes) rfl nd rfl rfl (sw_true rfl rfl rfl (by decide +kernel)) (pi_range1 (by rfl) T.m_range (pa_cons (pv 6) pa_nil)) (blkOk_by (N := ["_law_cell_here", "_law_names_here", "_law_most", "_law_extra", "_law_sizes", "_law_row_here", "_law_many", "_law_stride", "_law_labels", "_law_steps", "_law_k", "_law_word", "_law_at", "_law_step", "_law_target", "_law_turn"]) (sc := defScope s__law_machine) (by decide +kernel)) (fun _ _ _ _ _ => (pg_name (i := 10) nd rfl (.inl rfl))) (fun _ _ _ _ _ => pts_nil) (fun _ _ _ _ _ => (pe_op op_mod (pe_callTy call_int1 (by rfl) T.m_int (by decide +kernel) (pa_cons (pe_op op_add (pe_ix (r := rIxL K) ix_list (pv 5) pe_int (fun _ _ => rfl)) (pe_op op_mul (pv 7) (pv 10))) pa_nil)) pe_int)))
      (pss_cons (ps_set (i := 9) nd rfl (.inl rfl) (pe_lst pa_nil))
      (pss_cons (ps_for PassesOwn.never rfl (pi_range1 (by rfl) T.m_range (pa_cons (pv 6) pa_nil)) (pg_name (i := 10) nd rfl (.inl rfl)) (pss_cons (ps_set (i := 11) nd rfl (.inl rfl) (pe_ix (r := rIxL K) ix_list (pv 1) (pe_op op_add pe_int (pe_ix (r := rIxL K) ix_list (pv 5) (pe_op op_add pe_int (pe_op op_mul pe_int (pv 10))) (fun _ _ => rfl))) (fun _ _ => rfl)))
      (pss_one (ps_expr (pe_bm PySem.F.plainAttrs_list PySem.F.slot_list_append PySem.F.type_list_append mt_append (pv 9) (pa_cons (pe_tup (pa_cons (pe_ix (r := rIxL K) ix_list (pv 8) (pv 10) (fun _ _ => rfl)) (pa_cons (pv 11) (pa_cons (pe_ix (r := rIxL K) ix_list (pv 8) (pe_op op_mod (pe_callTy call_int1 (by rfl) T.m_int (by decide +kernel) (pa_cons (pe_ix (r := rIxL K) ix_list (pv 5) (pe_op op_add pe_int (pe_op op_mul pe_int (pv 10))) (fun _ _ => rfl)) pa_nil)) (pv 6)) (fun _ _ => rfl)) pa_nil)))) pa_nil))))))
      (pss_cons (ps_for PassesOwn.never rfl (pi_range1 (by rfl) T.m_range (pa_cons (pe_ix (r := rIxL K) ix_list (pv 5) pe_int (fun _ _ => rfl)) pa_nil)) (pg_name (i := 10) nd rfl (.inl rfl)) (pss_cons (ps_set (i := 12) nd rfl (.inl rfl) (pe_op op_add (pe_callB call_len (by rfl) T.m_len (by decide +kernel) (pa_cons (pv 4) pa_nil)) (pe_op op_mul pe_int (pv 10))))
      (pss_cons (ps_set (i := 11) nd rfl (.inl rfl) (pe_ix (r := rIxL K) ix_list (pv 1) (pe_op op_mod (pe_callTy call_int1 (by rfl) T.m_int (by decide +kernel) (pa_cons (pe_ix (r := rIxL K) ix_list (pv 5) (pe_op op_add (pv 12) pe_int) (fun _ _ => rfl)) pa_nil)) (pe_callB call_len (by rfl) T.m_len (by decide +kernel) (pa_cons (pv 1) pa_nil))) (fun _ _ => rfl)))
      (pss_cons (ps_set (i := 13) nd rfl (.inl rfl) (pe_tup (pa_cons (pe_ix (r := rIxL K) ix_list (pv 8) (pe_op op_mod (pe_callTy call_int1 (by rfl) T.m_int (by decide +kernel) (pa_cons (pe_ix (r := rIxL K) ix_list (pv 5) (pv 12) (fun _ _ => rfl)) pa_nil)) (pv 6)) (fun _ _ => rfl)) (pa_cons (pv 11) pa_nil))))
      (pss_cons (ps_set (i := 13) nd rfl (.inl rfl) (pe_op op_catT (pv 13) (pe_tup (pa_cons (pe_ix (r := rIxL K) ix_list (pv 8) (pe_op op_mod (pe_callTy call_int1 (by rfl) T.m_int (by decide +kernel) (pa_cons (pe_ix (r := rIxL K) ix_list (pv 5) (pe_op op_add (pv 12) pe_int) (fun _ _ => rfl)) pa_nil)) (pv 6)) (fun _ _ => rfl)) pa_nil))))
      (pss_one (ps_if (pt_cmpR (op_notInD (KnC.un65 hr)) (pv 13) (pv 9) (by with_unfolding_all rfl)) (pss_one (ps_expr (pe_bm PySem.F.plainAttrs_list PySem.F.slot_list_append PySem.F.type_list_append mt_append (pv 9) (pa_cons (pv 13) pa_nil)))) pss_nil)))))))
      (pss_cons (ps_if (pt_cmpR op_eq (pe_callB call_len (by rfl) T.m_len (by decide +kernel) (pa_cons (pe_lc (own := [("_law_step", 13)]) (g := gName 13) rfl nd (pi_list (pv 9)) (blkOk_by (N := ["_law_cell_here", "_law_names_here", "_law_most", "_law_extra", "_law_sizes", "_law_row_here", "_law_many", "_law_stride", "_law_labels", "_law_steps", "_law_k", "_law_word", "_law_at", "_law_step", "_law_target", "_law_turn"]) (sc := defScope s__law_machine) (by decide +kernel)) (fun _ _ _ _ _ => (pg_name (i := 13) nd rfl (.inl rfl))) (fun _ _ _ _ _ => (pts_one (pt_cmpR op_eq (pe_ix (r := rIxT K) ix_tup (pv 13) pe_int (fun _ _ => rfl)) (pe_ix (r := rIxL K) ix_list (pv 1) pe_int (fun _ _ => rfl)) (nomark _)))) (fun _ _ _ _ _ => (pv 13))) pa_nil)) pe_int (nomark _)) (pss_cons (ps_set (i := 14) nd rfl (.inl rfl) (pe_ix (r := rIxL K) ix_list (pv 8) (pe_op op_mod (pe_callTy call_int1 (by rfl) T.m_int (by decide +kernel) (pa_cons (pe_op op_fdiv (pe_ix (r := rIxL K) ix_list (pv 5) pe_int (fun _ _ => rfl)) pe_int) pa_nil)) (pv 6)) (fun _ _ => rfl)))
      (pss_one (ps_expr (pe_bm PySem.F.plainAttrs_list PySem.F.slot_list_append PySem.F.type_list_append mt_append (pv 9) (pa_cons (pe_tup (pa_cons (pe_ix (r := rIxL K) ix_list (pv 8) (pe_op op_mod (pe_callTy call_int1 (by rfl) T.m_int (by decide +kernel) (pa_cons (pe_ix (r := rIxL K) ix_list (pv 5) pe_int (fun _ _ => rfl)) pa_nil)) (pv 6)) (fun _ _ => rfl)) (pa_cons (pe_ix (r := rIxL K) ix_list (pv 1) pe_int (fun _ _ => rfl)) (pa_cons (pv 14) pa_nil)))) pa_nil))))) pss_nil)
      (pss_cons (ps_set (i := 15) nd rfl (.inl rfl) (pe_op op_mod (pe_callTy call_int1 (by rfl) T.m_int (by decide +kernel) (pa_cons (pe_ix (r := rIxL K) ix_list (pv 5) pe_int (fun _ _ => rfl)) pa_nil)) (pe_callB call_len (by rfl) T.m_len (by decide +kernel) (pa_cons (pv 9) pa_nil))))
      (pss_one (ps_ret (pe_lst (pa_cons (pv 8) (pa_cons (pe_op op_cat (pe_slice sl_list (pv 9) (po_some (pv 15)) po_none) (pe_slice sl_list (pv 9) po_none (po_some (pv 15)))) pa_nil))))))))))))))), ?_⟩
    have lenN : ∀ {G : Hp}, Same H G → LenV K (.ref n) G names.length := fun s => .inl ⟨_, .inl (.inl (s _ _ hn)), (List.length_map _).symm⟩
    refine ⟨.int mo, rfl, .int ex, rfl, ex, 1, rfl, rfl, szl rfl, fun p1 n1 => ?_⟩
    have s1 := same_upd (o := .lst [.int mo, .int ((ex : Int) + 1), .int 100, .int 8, .int 64]) n1
    refine ⟨.ref n, rfl, .ref n, names.length, rfl, lenN s1, (names.length : Int), 1, rfl, rfl, .int mo, rfl, szl rfl, fun p2 n2 => ?_⟩
    have s2 := s1.trans (same_upd (o := .lst [.int ((names.length : Int) - 1), .int mo]) n2)
    refine ⟨.int mo, rfl, p2, mo, _, rfl, rfl, upd_same, by omega, by omega, smallE (by show 2 * (mo : Int).toNat ≤ _; omega), fun p3 n3 => ?_⟩
    have emo : (mo : Int).toNat = mo := Int.toNat_natCast mo
    have eex : (ex : Int).toNat = ex := Int.toNat_natCast ex
    rw [emo]
    have s3 := same_upd (o := .lst (List.replicate mo [V.int ((names.length : Int) - 1), .int mo]).flatten) n3
    have e1 : (upd (upd (upd H p1 (.lst [.int mo, .int ((ex : Int) + 1), .int 100, .int 8, .int 64])) p2 (.lst [.int ((names.length : Int) - 1), .int mo])) p3 (.lst (List.replicate mo [V.int ((names.length : Int) - 1), .int mo]).flatten)) p1 = some (.lst [.int mo, .int ((ex : Int) + 1), .int 100, .int 8, .int 64]) := s3 _ _ (same_upd n2 _ _ upd_same)
    refine ⟨p1, p3, _, _, rfl, rfl, e1, upd_same, smallE (by rw [flat_len]; show 5 + 2 * mo ≤ _; omega), fun p4 n4 => ?_⟩
    have s4 := (s2.trans s3).trans (same_upd (o := .lst ([V.int mo, .int ((ex : Int) + 1), .int 100, .int 8, .int 64] ++ (List.replicate mo [V.int ((names.length : Int) - 1), .int mo]).flatten)) n4)
    have e4 : (upd (upd (upd (upd H p1 (.lst [.int mo, .int ((ex : Int) + 1), .int 100, .int 8, .int 64])) p2 (.lst [.int ((names.length : Int) - 1), .int mo])) p3 (.lst (List.replicate mo [V.int ((names.length : Int) - 1), .int mo]).flatten)) p4 (.lst ([V.int mo, .int ((ex : Int) + 1), .int 100, .int 8, .int 64] ++ (List.replicate mo [V.int ((names.length : Int) - 1), .int mo]).flatten))) p4 = some (.lst ([V.int mo, .int ((ex : Int) + 1), .int 100, .int 8, .int 64] ++ (List.replicate mo [V.int ((names.length : Int) - 1), .int mo]).flatten)) := upd_same
    generalize upd (upd (upd (upd H p1 (.lst [.int mo, .int ((ex : Int) + 1), .int 100, .int 8, .int 64])) p2 (.lst [.int ((names.length : Int) - 1), .int mo])) p3 (.lst (List.replicate mo [V.int ((names.length : Int) - 1), .int mo]).flatten)) p4 (.lst ([V.int mo, .int ((ex : Int) + 1), .int 100, .int 8, .int 64] ++ (List.replicate mo [V.int ((names.length : Int) - 1), .int mo]).flatten)) = G4 at s4 e4
    refine ⟨.int c, rfl, .ref p4, rfl, .int mo, rfl, .ref n, rfl, .ref n, names.length, rfl, lenN s4, (names.length : Int), 2, rfl, rfl, .int mo, rfl, szl rfl, fun p5 n5 => ?_⟩
    refine ⟨.int ex, rfl, p5, ex, _, rfl, rfl, upd_same, by omega, by omega, smallE (by show 3 * (ex : Int).toNat ≤ _; omega), fun p6 n6 => ?_⟩
    rw [eex]
    have s5 := same_upd (o := .lst [.int mo, .int ((names.length : Int) + 2), .int mo]) n5
    have s6 := same_upd (o := .lst (List.replicate ex [V.int mo, .int ((names.length : Int) + 2), .int mo]).flatten) n6
    refine ⟨p4, p6, _, _, rfl, rfl, s6 _ _ (s5 _ _ e4), upd_same, smallE (by rw [flat_len, List.length_append, flat_len]; show 5 + 2 * mo + 3 * ex ≤ _; omega), fun p7 n7 => ?_⟩
    have s7 := (s4.trans (s5.trans s6)).trans (same_upd (o := .lst (([V.int mo, .int ((ex : Int) + 1), .int 100, .int 8, .int 64] ++ (List.replicate mo [V.int ((names.length : Int) - 1), .int mo]).flatten) ++ (List.replicate ex [V.int mo, .int ((names.length : Int) + 2), .int mo]).flatten)) n7)
    have e47 := same_upd (o := .lst (([V.int mo, .int ((ex : Int) + 1), .int 100, .int 8, .int 64] ++ (List.replicate mo [V.int ((names.length : Int) - 1), .int mo]).flatten) ++ (List.replicate ex [V.int mo, .int ((names.length : Int) + 2), .int mo]).flatten)) n7 _ _ (s6 _ _ (s5 _ _ e4))
    have e7 : (upd (upd (upd G4 p5 (.lst [.int mo, .int ((names.length : Int) + 2), .int mo])) p6 (.lst (List.replicate ex [V.int mo, .int ((names.length : Int) + 2), .int mo]).flatten)) p7 (.lst (([V.int mo, .int ((ex : Int) + 1), .int 100, .int 8, .int 64] ++ (List.replicate mo [V.int ((names.length : Int) - 1), .int mo]).flatten) ++ (List.replicate ex [V.int mo, .int ((names.length : Int) + 2), .int mo]).flatten))) p7 = some (.lst ((szM names.length mo ex).map V.int)) := by
      rw [upd_same]
      unfold szM
      rw [List.map_append, List.map_append, List.map_flatten, List.map_flatten, List.map_replicate, List.map_replicate]; rfl
    generalize upd (upd (upd G4 p5 (.lst [.int mo, .int ((names.length : Int) + 2), .int mo])) p6 (.lst (List.replicate ex [V.int mo, .int ((names.length : Int) + 2), .int mo]).flatten)) p7 (.lst (([V.int mo, .int ((ex : Int) + 1), .int 100, .int 8, .int 64] ++ (List.replicate mo [V.int ((names.length : Int) - 1), .int mo]).flatten) ++ (List.replicate ex [V.int mo, .int ((names.length : Int) + 2), .int mo]).flatten)) = G7 at s7 e47 e7
    refine ⟨c, p7, szM names.length mo ex, rfl, .inl (.inl e7), by rw [szM_len]; omega, fun x hx => szM_good ln2 (by omega) mo1 (by omega) (by omega) hx, fun H1 R rs sm nR eR hrl hb => ?_⟩
    have sH : Same H H1 := s7.trans sm
    have e4H := sm _ _ e47
    have len4 : ([V.int mo, .int ((ex : Int) + 1), .int 100, .int 8, .int 64] ++ (List.replicate mo [V.int ((names.length : Int) - 1), .int mo]).flatten).length = 5 + 2 * mo := by
      rw [List.length_append, flat_len]; rfl
    obtain ⟨r0, _, g0, l0, u0⟩ := row_at hrl hb (j := 0) (t := (mo : Int)) rfl
    obtain ⟨r1, _, g1, l1, u1⟩ := row_at hrl hb (j := 1) (t := (ex : Int) + 1) rfl
    obtain ⟨r2, _, g2, l2, u2⟩ := row_at hrl hb (j := 2) (t := 100) rfl
    obtain ⟨r3, _, g3, l3, u3⟩ := row_at hrl hb (j := 3) (t := 8) rfl
    obtain ⟨r4, _, g4, l4, u4⟩ := row_at hrl hb (j := 4) (t := 64) rfl
    obtain ⟨ma, ema⟩ : ∃ ma : Nat, 1 + r0 = (ma : Int) := ⟨(1 + r0).toNat, by omega⟩
    -- many, stride
    refine ⟨.ref R, rfl, R, rs.map V.int, 0, .int r0, rfl, rfl, .inl (.inl eR), atI_nat (j := 0) g0, 1, r0, rfl, rfl, ?_⟩
    refine ⟨szl rfl, fun p8 n8 => ?_⟩
    have s8 := same_upd (o := .lst [.int 1, .int 3, .int 7, .int 9, .int 11, .int 13, .int 17, .int 19]) n8
    obtain ⟨k3, rfl⟩ : ∃ k3 : Nat, r3 = (k3 : Int) := ⟨r3.toNat, by omega⟩
    have hk3 : k3 < strides.length := by show k3 < 8; omega
    have hst : strides[k3] ∈ strides := List.getElem_mem hk3
    have gst : (strides.map V.int)[k3]? = some (.int strides[k3]) := by rw [List.getElem?_map, List.getElem?_eq_getElem hk3]; rfl
    refine ⟨.ref R, rfl, R, rs.map V.int, 3, .int k3, rfl, rfl, .inl (.inl (s8 _ _ eR)), atI_nat (j := 3) g3, p8, strides.map V.int, (k3 : Int), .int strides[k3], rfl, rfl, .inl (.inl upd_same), atI_nat gst, ?_⟩
    generalize strides[k3] = st at hst gst
    have s8' := sH.trans s8
    have eR8 := s8 _ _ eR
    have e48 := s8 _ _ e4H
    generalize upd H1 p8 (.lst [.int 1, .int 3, .int 7, .int 9, .int 11, .int 13, .int 17, .int 19]) = G8 at s8' eR8 e48
    have st20 : 0 < st ∧ st < 20 := by
      unfold strides at hst
      simp only [List.mem_cons, List.not_mem_nil, or_false] at hst
      omega
    -- labels
    refine ⟨.int (1 + r0), rfl, 1 + r0, rfl, by omega, by omega, fun LB nLB => ?_⟩
    have ema2 : (1 + r0).toNat = ma := by omega
    rw [ema2]
    refine lc_range (lo := 0) (n := ma) (fun i H' => Same G8 H' ∧ H' LB = some (.lst ((labs r2 st i).map V.int))) ⟨same_upd nLB, upd_same⟩ (fun i H' hi hP => ?_) (fun H' hP => ?_)
    · obtain ⟨S, eL⟩ := hP
      refine ⟨rfl, ?_⟩
      unfold tYes
      refine iteT ?_
      have e0 : (0 : Int) + (i : Nat) = (i : Nat) := by omega
      rw [e0]
      refine ⟨.ref R, rfl, R, rs.map V.int, 2, .int r2, rfl, rfl, .inl (.inl (S _ _ eR8)), atI_nat (j := 2) g2, .int st, rfl, .int (i : Nat), rfl, st, (i : Nat), rfl, rfl, .inl ⟨by omega, by omega⟩, r2, _, rfl, rfl, .inl ⟨_, rfl, _, 100, rfl, rfl, (show (0 : Int) < 100 by decide), _, eL, small (by rw [List.length_map, labs_len]; omega), same_set nLB S, ?_⟩⟩
      rw [upd_same, labs_succ, List.map_append]; rfl
    · obtain ⟨S9, eL9⟩ := hP
      have sL : Same H H' := s8'.trans S9
      have nLBH : H LB = none := s8'.free nLB
      have ndl := labs_nd (r := r2) hst (n := ma) (by omega)
      have inl : ∀ x ∈ labs r2 st ma, 0 ≤ x ∧ x ≤ 99 := fun x hx => labs_in hx
      have lenl := labs_len r2 st ma
      have eR9 := S9 _ _ eR8
      have e49 := S9 _ _ e48
      generalize labs r2 st ma = ls at eL9 ndl inl lenl
      have nlbn : LB ≠ n := (ne_of_none hn nLBH).symm
      have sL' := sL
      have hn9 := sL _ _ hn
      have lenL : (ls.map V.int).length = ma := by rw [List.length_map, lenl]
      have latx : ∀ (z : Int), 0 ≤ z → z < 1 + r0 → ∃ x, x ∈ ls ∧ atI (ls.map V.int) z = some (.int x) := fun z h1 h2 => by
        obtain ⟨k, rfl⟩ : ∃ k : Nat, z = (k : Int) := ⟨z.toNat, by omega⟩
        have hk : k < ls.length := by omega
        exact ⟨ls[k], List.getElem_mem hk, atI_nat (by rw [List.getElem?_map, List.getElem?_eq_getElem hk]; rfl)⟩
      have nat_ : ∀ (z : Int), 0 ≤ z → z < (names.length : Int) → ∃ x, x ∈ names ∧ atI (names.map V.str) z = some (.str x) := fun z h1 h2 => by
        obtain ⟨k, rfl⟩ : ∃ k : Nat, z = (k : Int) := ⟨z.toNat, by omega⟩
        have hk : k < names.length := by omega
        exact ⟨names[k], List.getElem_mem hk, atI_nat (by rw [List.getElem?_map, List.getElem?_eq_getElem hk]; rfl)⟩
      have rat : ∀ (z : Int) (k : Nat) (t : Int), z = (k : Int) → (szM names.length mo ex)[k]? = some t → ∃ r, atI (rs.map V.int) z = some (.int r) ∧ 0 ≤ r ∧ r < t := fun z k t e h => by
        obtain ⟨r, _, g, a, b⟩ := row_at hrl hb h
        rw [e]
        exact ⟨r, atI_nat g, a, b⟩
      refine ⟨szl rfl, fun S nS => ?_⟩
      have nSH : H S = none := sL.free nS
      have sS := same_upd (o := .lst []) nS
      refine ⟨.int (1 + r0), rfl, 1 + r0, rfl, by omega, by omega, ?_⟩
      rw [ema2]
      refine for_range (lo := 0) (n := ma) (fun i σ G => ∃ (y10 y11 : Option V) (as : List Addr) (ss : List KnA.Stp), σ = [some (.int c), some (.ref n), some (.int mo), some (.int ex), some (.ref p4), some (.ref R), some (.int (1 + r0)), some (.int st), some (.ref LB), some (.ref S), y10, y11, none, none, none, none] ∧
          Same H' G ∧ G S = some (.lst (as.map V.ref)) ∧ Stps G as ss ∧ ss.map (·.1) = ls.take i ∧ ∀ x ∈ ss, x.2.1 ∈ names ∧ x.2.2 ∈ ls)
        ⟨none, none, [], [], rfl, sS, upd_same, .nil, rfl, fun x hx => nomatch hx⟩ (fun i σ G hi hP => ?_) (fun σ G hP => ?_)
      · obtain ⟨y10, y11, as, ss, rfl, SG, eS, hst', hf, hg⟩ := hP
        have e0 : (0 : Int) + (i : Nat) = (i : Nat) := by omega
        rw [e0]
        have hi8 : i < mo := by omega
        obtain ⟨ra, ga, la0, ua⟩ := rat (5 + 2 * ((i : Nat) : Int)) (5 + 2 * i + 0) _ (by omega) ((szM_base (n := names.length) (ex := ex) hi8 (j := 0) (by omega)).trans rfl)
        obtain ⟨rb, gb, lb0, ub⟩ := rat (6 + 2 * ((i : Nat) : Int)) (5 + 2 * i + 1) _ (by omega) ((szM_base (n := names.length) (ex := ex) hi8 (j := 1) (by omega)).trans rfl)
        obtain ⟨wd, hwd, gwd⟩ := nat_ (1 + ra) (by omega) (by omega)
        have hil : i < ls.length := by omega
        have gl : ls[i]? = some ls[i] := List.getElem?_eq_getElem hil
        have gla : atI (ls.map V.int) ((i : Nat) : Int) = some (.int ls[i]) := atI_nat (by rw [List.getElem?_map, gl]; rfl)
        have h1 := Int.emod_nonneg rb (show 1 + r0 ≠ 0 by omega)
        have h2 := Int.emod_lt_of_pos rb (show 0 < 1 + r0 by omega)
        obtain ⟨tg, htg, gtg⟩ := latx (rb % (1 + r0)) h1 h2
        have eLG := SG _ _ eL9
        have eRG := SG _ _ eR9
        have enG := SG _ _ hn9
        refine ⟨.ref n, rfl, .ref R, rfl, .int (i : Nat), rfl, 2, (i : Nat), rfl, rfl, .inl ⟨by decide, by decide⟩, 5, _, rfl, rfl, R, rs.map V.int, _, .int ra, rfl, rfl, .inl (.inl eRG), ga, 1, ra, rfl, rfl, n, names.map V.str, _, .str wd, rfl, rfl, .inl (.inl enG), gwd, ?_⟩
        refine ⟨.ref S, rfl, .inl ⟨rfl, _, .inl (.inl eS)⟩, .ref LB, rfl, .int (i : Nat), rfl, LB, ls.map V.int, _, .int ls[i], rfl, rfl, .inl (.inl eLG), gla, .str wd, rfl, .ref LB, rfl, .ref R, rfl, .int (i : Nat), rfl, 2, (i : Nat), rfl, rfl, .inl ⟨by decide, by decide⟩, 6, _, rfl, rfl, R, rs.map V.int, _, .int rb, rfl, rfl, .inl (.inl eRG), gb,
          .inl ⟨rb, rfl, .int (1 + r0), rfl, rb, 1 + r0, rfl, rfl, (by omega : (0 : Int) < 1 + r0), LB, ls.map V.int, _, .int tg, rfl, rfl, .inl (.inl eLG), gtg, szl rfl, fun TT nT => ?_⟩⟩
        have sT := same_upd (o := .tup [.int ls[i], .str wd, .int tg]) nT
        have lss : ss.length ≤ i := by
          have := congrArg List.length hf
          rw [List.length_map, List.length_take] at this
          omega
        refine ⟨S, as.map V.ref, .ref TT, rfl, rfl, sT _ _ eS, small (by rw [List.length_map, hst'.length]; omega), ?_⟩
        refine ⟨_, _, as ++ [TT], ss ++ [(ls[i], wd, tg)], rfl, same_set nS (SG.trans sT), by rw [upd_same, List.map_append]; rfl, ?_, ?_, fun x hx => ?_⟩
        · exact Paired.mapP ((hst'.mono sT).snoc (show (upd G TT (.tup [.int ls[i], .str wd, .int tg])) TT = some (tup3 (ls[i], wd, tg)) from upd_same)) fun b _ e => (upd_ne (ne_of e (sT _ _ eS) (fun z => by cases z))).trans e
        · rw [List.map_append, hf, take_more gl]; rfl
        · rcases List.mem_append.mp hx with hx | hx
          · exact hg x hx
          · rw [List.mem_singleton.mp hx]; exact ⟨hwd, htg⟩
      · obtain ⟨y10, y11, as, ss, rfl, SG, eS, hst', hf, hg⟩ := hP
        have hfull : ss.map (·.1) = ls := by rw [hf, List.take_of_length_le (by omega)]
        have hlen0 : ss.length = ma := by
          have := congrArg List.length hfull
          rw [List.length_map] at this
          omega
        have ndss : (ss.map (·.1)).Nodup := by rw [hfull]; exact ndl
        have dr0 : Drawn ls names ss 1 := ⟨nodup_base ndss, fun x hx => ⟨by rw [← hfull]; exact List.mem_map.mpr ⟨x, hx, rfl⟩, hg x hx⟩, fun s => cnt_base ndss s⟩
        have all0 : ∀ x ∈ ls, ∃ w y, (x, w, y) ∈ ss := fun x hx => by
          rw [← hfull] at hx
          obtain ⟨u, hu, e⟩ := List.mem_map.mp hx
          exact ⟨u.2.1, u.2.2, by rw [← e]; exact hu⟩
        refine ⟨.ref R, rfl, R, rs.map V.int, 1, .int r1, rfl, rfl, .inl (.inl (SG _ _ eR9)), atI_nat (j := 1) g1, r1, rfl, by omega, by omega, ?_⟩
        refine for_range (lo := 0) (n := r1.toNat) (fun i σ G => ∃ (y10 y11 y12 y13 : Option V) (as : List Addr) (ss : List KnA.Stp), σ = [some (.int c), some (.ref n), some (.int mo), some (.int ex), some (.ref p4), some (.ref R), some (.int (1 + r0)), some (.int st), some (.ref LB), some (.ref S), y10, y11, y12, y13, none, none] ∧
          Same H' G ∧ G S = some (.lst (as.map V.ref)) ∧ Stps G as ss ∧ Drawn ls names ss (1 + i) ∧ (∀ x ∈ ls, ∃ w y, (x, w, y) ∈ ss) ∧ ss.length ≤ ma + i)
          ⟨_, _, _, _, as, ss, rfl, SG, eS, hst', dr0, all0, by omega⟩ (fun i σ G hi hP => ?_) (fun σ G hP => ?_)
        · obtain ⟨y10, y11, y12, y13, as, ss, rfl, SG, eS, hst', dr, al, lss⟩ := hP
          have e0 : (0 : Int) + (i : Nat) = (i : Nat) := by omega
          rw [e0]
          have hi6 : i < ex := by omega
          have eLG := SG _ _ eL9
          have eRG := SG _ _ eR9
          have enG := SG _ _ hn9
          have e4G := SG _ _ e49
          have lat : ∀ (j : Nat) (t : Int), ([(mo : Int), (names.length : Int) + 2, (mo : Int)] : List Int)[j]? = some t → ∃ r, atI (rs.map V.int) (((5 + 2 * mo : Nat) : Int) + 3 * ((i : Nat) : Int) + (j : Nat)) = some (.int r) ∧ 0 ≤ r := fun j t e => by
            have hj : j < 3 := (List.getElem?_eq_some_iff.mp e).1
            obtain ⟨r, a, b, _⟩ := rat (((5 + 2 * mo : Nat) : Int) + 3 * ((i : Nat) : Int) + (j : Nat)) (5 + 2 * mo + 3 * i + j) t (by omega) ((szM_more hi6 hj).trans e)
            exact ⟨r, a, b⟩
          obtain ⟨ru, gu, lu⟩ := lat 0 _ rfl
          obtain ⟨rw_, gw, lw⟩ := lat 1 _ rfl
          obtain ⟨rv, gv, lv⟩ := lat 2 _ rfl
          have gu' : atI (rs.map V.int) (((5 + 2 * mo : Nat) : Int) + 3 * ((i : Nat) : Int)) = some (.int ru) := by
            have z : ((5 + 2 * mo : Nat) : Int) + 3 * ((i : Nat) : Int) + ((0 : Nat) : Int) = ((5 + 2 * mo : Nat) : Int) + 3 * ((i : Nat) : Int) := by omega
            rw [z] at gu; exact gu
          obtain ⟨wd, hwd, gwd⟩ := nat_ (rw_ % (names.length : Int)) (Int.emod_nonneg _ (by omega)) (Int.emod_lt_of_pos _ (by omega))
          obtain ⟨xu, hxu, gxu⟩ := latx (ru % (1 + r0)) (Int.emod_nonneg _ (by omega)) (Int.emod_lt_of_pos _ (by omega))
          obtain ⟨xv, hxv, gxv⟩ := latx (rv % (1 + r0)) (Int.emod_nonneg _ (by omega)) (Int.emod_lt_of_pos _ (by omega))
          refine ⟨.ref p4, rfl, .ref p4, 5 + 2 * mo, rfl, .inl ⟨_, .inl (.inl e4G), len4.symm⟩, .int (i : Nat), rfl, 3, (i : Nat), rfl, rfl, .inl ⟨by decide, by decide⟩, ((5 + 2 * mo : Nat) : Int), _, rfl, rfl, ?_⟩
          refine ⟨.ref n, rfl, .ref R, rfl, .int (((5 + 2 * mo : Nat) : Int) + 3 * ((i : Nat) : Int)), rfl, _, 1, rfl, rfl, R, rs.map V.int, _, .int rw_, rfl, rfl, .inl (.inl eRG), gw, .inl ⟨rw_, rfl, .ref n, rfl, .ref n, names.length, rfl, lenN (sL.trans SG), rw_, (names.length : Int), rfl, rfl, (show (0 : Int) < (names.length : Int) by omega), n, names.map V.str, _, .str wd, rfl, rfl, .inl (.inl enG), gwd, ?_⟩⟩
          refine ⟨.ref LB, rfl, .ref R, rfl, .int (((5 + 2 * mo : Nat) : Int) + 3 * ((i : Nat) : Int)), rfl, R, rs.map V.int, _, .int ru, rfl, rfl, .inl (.inl eRG), gu', .inl ⟨ru, rfl, .int (1 + r0), rfl, ru, 1 + r0, rfl, rfl, (show (0 : Int) < 1 + r0 by omega), LB, ls.map V.int, _, .int xu, rfl, rfl, .inl (.inl eLG), gxu, .str wd, rfl, szl rfl, fun T1 nT1 => ?_⟩⟩
          have sT1 := same_upd (o := .tup [.int xu, .str wd]) nT1
          refine ⟨.ref T1, rfl, .ref LB, rfl, .ref R, rfl, .int (((5 + 2 * mo : Nat) : Int) + 3 * ((i : Nat) : Int)), rfl, _, 2, rfl, rfl, R, rs.map V.int, _, .int rv, rfl, rfl, .inl (.inl (sT1 _ _ eRG)), gv, .inl ⟨rv, rfl, .int (1 + r0), rfl, rv, 1 + r0, rfl, rfl, (show (0 : Int) < 1 + r0 by omega), LB, ls.map V.int, _, .int xv, rfl, rfl, .inl (.inl (sT1 _ _ eLG)), gxv, szl rfl, fun T2 nT2 => ?_⟩⟩
          have sT2 := same_upd (o := .tup [.int xv]) nT2
          refine ⟨T1, T2, [.int xu, .str wd], [.int xv], rfl, rfl, .inl (.inl (sT2 _ _ upd_same)), .inl (.inl upd_same), (fun z => by cases z), smallE (by show 2 + 1 ≤ 100000; decide), (fun z => by cases z), fun _ T3 nT3 => ?_⟩
          have sT3 := same_upd (o := .tup ([.int xu, .str wd] ++ [.int xv])) nT3
          have S3 := sT1.trans (sT2.trans sT3)
          have eT3 : (upd (upd (upd G T1 (.tup [.int xu, .str wd])) T2 (.tup [.int xv])) T3 (.tup ([.int xu, .str wd] ++ [.int xv]))) T3 = some (tup3 (xu, wd, xv)) := upd_same
          generalize upd (upd (upd G T1 (.tup [.int xu, .str wd])) T2 (.tup [.int xv])) T3 (.tup ([.int xu, .str wd] ++ [.int xv])) = G3 at S3 eT3
          have eS3 := S3 _ _ eS
          have hst3 := hst'.mono S3
          have names_ : ∀ x ∈ ss, nameB (.str x.2.1) = true := fun x hx => hnm _ (dr.good x hx).2.1
          refine ⟨.ref T3, rfl, .ref S, rfl, dat (xu, wd, xv), ss.map dat, .tup (.inl (.inl eT3)) (.cons (.int _) (.cons (.str _) (.cons (.int _) .nil))), .lst (.inl (.inl eS3)) (dps hst3), dat_shaped (x := (xu, wd, xv)) (hnm _ hwd), dats_shaped names_, _, rfl, ?_⟩
          show if (!((ss.map dat).any fun z => PyData.eqv z (dat (xu, wd, xv)))) = true then _ else _
          rw [dat_any]
          by_cases z : (xu, wd, xv) ∈ ss
          · rw [decide_eq_true z]
            exact iteF ⟨_, _, _, _, as, ss, rfl, SG.trans S3, eS3, hst3, dr.up (by omega), al, by omega⟩
          · rw [decide_eq_false z]
            refine iteT ⟨.ref S, rfl, .inl ⟨rfl, _, .inl (.inl eS3)⟩, .ref T3, rfl, S, as.map V.ref, .ref T3, rfl, rfl, eS3, small (by rw [List.length_map, hst3.length]; omega), ?_⟩
            refine ⟨_, _, _, _, as ++ [T3], ss ++ [(xu, wd, xv)], rfl, same_set nS (SG.trans S3), by rw [upd_same, List.map_append]; rfl, ?_, dr.push z ⟨hxu, hwd, hxv⟩, fun x hx => ?_, ?_⟩
            · exact Paired.mapP (hst3.snoc eT3) fun b _ e => (upd_ne (ne_of e eS3 (fun z => by cases z))).trans e
            · obtain ⟨w, y, hm⟩ := al x hx
              exact ⟨w, y, List.mem_append.mpr (.inl hm)⟩
            · rw [List.length_append]; show ss.length + 1 ≤ _; omega
        · obtain ⟨y10, y11, y12, y13, as, ss, rfl, SG, eS, hst', dr, al, lss⟩ := hP
          obtain ⟨w0, hw0, gw0⟩ := nat_ 0 (by omega) (by omega)
          have iw0 : names[0]? = some w0 := by
            have g : (names.map V.str)[0]? = some (.str names[0]) := by rw [List.getElem?_map, List.getElem?_eq_getElem (by omega)]; rfl
            rw [show (0 : Int) = ((0 : Nat) : Int) from rfl, atI_nat g] at gw0
            rw [List.getElem?_eq_getElem (by omega)]
            exact congrArg some (V.str.inj (Option.some.inj gw0))
          refine KnC.nx_if (fun σ2 G => ∃ (y10 y11 y12 y13 y14 : Option V) (as : List Addr) (ss : List KnA.Stp), σ2 = [some (.int c), some (.ref n), some (.int mo), some (.int ex), some (.ref p4), some (.ref R), some (.int (1 + r0)), some (.int st), some (.ref LB), some (.ref S), y10, y11, y12, y13, y14, none] ∧
            Same H' G ∧ G S = some (.lst (as.map V.ref)) ∧ Stps G as ss ∧ Drawn ls names ss 8 ∧ (∀ x ∈ ls, ∃ w y, (x, w, y) ∈ ss) ∧ ss.length ≤ ma + r1.toNat + 1 ∧ w0 ∈ ss.map (·.2.1)) (fun go => ?_) (fun σ2 G hT => ?_)
          · refine ⟨.ref S, rfl, S, rfl, ⟨_, .inl (.inl eS)⟩, fun D nD => ?_⟩
            refine lc_list (K := K) (xs := as.map V.ref) (fun i G' => Same G G' ∧ ∃ vs : List V, G' D = some (.lst vs) ∧ vs.length = ((ss.take i).filter fun x => decide (x.2.1 = w0)).length) ⟨same_upd nD, [], upd_same, rfl⟩ (fun i G' _ hP => .inl (.inl (hP.1 _ _ eS))) (fun i x G' hx hP => ?_) (fun G' hP => ?_)
            · obtain ⟨S1, vs, eD, lvs⟩ := hP
              obtain ⟨ai, u, rfl, gi, g, hai⟩ := ref_get (hst'.mono S1) hx
              have hi : i < ss.length := (List.getElem?_eq_some_iff.mp g).1
              refine ⟨rfl, .ref ai, rfl, ai, [.int u.1, .str u.2.1, .int u.2.2], 1, .str u.2.1, rfl, rfl, .inl (.inl hai), atI_nat (j := 1) rfl, .ref n, rfl, n, names.map V.str, 0, .str w0, rfl, rfl, .inl (.inl (S1 _ _ (SG _ _ hn9))), gw0, rfl, _, rfl, ?_⟩
              rw [str_dec]
              by_cases z : u.2.1 = w0
              · rw [decide_eq_true z]
                refine iteT ⟨.ref ai, rfl, vs, eD, small (by have := List.length_filter_le (fun x : KnA.Stp => decide (x.2.1 = w0)) (ss.take i); rw [List.length_take] at this; omega), same_set nD S1, vs ++ [.ref ai], upd_same, ?_⟩
                rw [List.length_append, lvs, take_more g, List.filter_append, List.length_append, List.filter_cons_of_pos (by simp [z])]; rfl
              · rw [decide_eq_false z]
                refine iteF ⟨S1, vs, eD, ?_⟩
                rw [lvs, take_more g, List.filter_append, List.length_append, List.filter_cons_of_neg (by simp [z])]; rfl
            · obtain ⟨S1, vs, eD, lvs⟩ := hP
              rw [List.length_map, hst'.length, List.take_length] at lvs
              refine ⟨.ref D, vs.length, rfl, .inl ⟨vs, .inl (.inl eD), rfl⟩, rfl, _, rfl, ?_⟩
              have stay := SG.trans S1
              by_cases z : vs.length = 0
              · have no : ∀ u ∈ ss, u.2.1 ≠ w0 := fun u hu e => by
                  have hm : u ∈ ss.filter fun x => decide (x.2.1 = w0) := List.mem_filter.mpr ⟨hu, decide_eq_true e⟩
                  have := List.length_pos_of_mem hm
                  omega
                rw [decide_eq_true (show V.int (vs.length : Nat) = V.int 0 by rw [z]; rfl)]
                obtain ⟨xu, hxu, gxu⟩ := latx (r4 / 8 % (1 + r0)) (Int.emod_nonneg _ (by omega)) (Int.emod_lt_of_pos _ (by omega))
                obtain ⟨xv, hxv, gxv⟩ := latx (r4 % (1 + r0)) (Int.emod_nonneg _ (by omega)) (Int.emod_lt_of_pos _ (by omega))
                have eLG := stay _ _ eL9
                have eRG := stay _ _ eR9
                have enG := stay _ _ hn9
                refine iteT ⟨.ref LB, rfl, .ref R, rfl, R, rs.map V.int, 4, .int r4, rfl, rfl, .inl (.inl eRG), atI_nat (j := 4) g4, r4, 8, rfl, rfl, ⟨by decide, by decide⟩, .inl ⟨_, rfl, .int (1 + r0), rfl, _, 1 + r0, rfl, rfl, (show (0 : Int) < 1 + r0 by omega), LB, ls.map V.int, _, .int xu, rfl, rfl, .inl (.inl eLG), gxu, ?_⟩⟩
                refine ⟨.ref S, rfl, .inl ⟨rfl, _, .inl (.inl (S1 _ _ eS))⟩, .ref LB, rfl, .ref R, rfl, R, rs.map V.int, 4, .int r4, rfl, rfl, .inl (.inl eRG), atI_nat (j := 4) g4, .inl ⟨r4, rfl, .int (1 + r0), rfl, r4, 1 + r0, rfl, rfl, (show (0 : Int) < 1 + r0 by omega), LB, ls.map V.int, _, .int xv, rfl, rfl, .inl (.inl eLG), gxv, .ref n, rfl, n, names.map V.str, 0, .str w0, rfl, rfl, .inl (.inl enG), gw0, .int xu, rfl, szl rfl, fun TT nT => ?_⟩⟩
                have sT := same_upd (o := .tup [.int xv, .str w0, .int xu]) nT
                refine ⟨S, as.map V.ref, .ref TT, rfl, rfl, sT _ _ (S1 _ _ eS), small (by rw [List.length_map, hst'.length]; omega), ?_⟩
                refine go _ _ ⟨_, _, _, _, _, as ++ [TT], ss ++ [(xv, w0, xu)], rfl, same_set nS (stay.trans sT), by rw [upd_same, List.map_append]; rfl, ?_, (dr.push (fun hm => no _ hm rfl) ⟨hxv, hw0, hxu⟩).up (by omega), fun x hx => ?_, ?_, ?_⟩
                · exact Paired.mapP ((hst'.mono (S1.trans sT)).snoc (show (upd G' TT (.tup [.int xv, .str w0, .int xu])) TT = some (tup3 (xv, w0, xu)) from upd_same)) fun b _ e => (upd_ne (ne_of e (sT _ _ (S1 _ _ eS)) (fun z => by cases z))).trans e
                · obtain ⟨w, y, hm⟩ := al x hx
                  exact ⟨w, y, List.mem_append.mpr (.inl hm)⟩
                · rw [List.length_append]; show ss.length + 1 ≤ _; omega
                · rw [List.map_append]; exact List.mem_append.mpr (.inr (List.mem_singleton.mpr rfl))
              · rw [decide_eq_false (show ¬ V.int (vs.length : Nat) = V.int 0 from fun e => z (by have := V.int.inj e; omega))]
                have some_ : ∃ u ∈ ss, u.2.1 = w0 := by
                  obtain ⟨u, hu⟩ := List.exists_mem_of_length_pos (l := ss.filter fun x => decide (x.2.1 = w0)) (by omega)
                  obtain ⟨h1, h2⟩ := List.mem_filter.mp hu
                  exact ⟨u, h1, of_decide_eq_true h2⟩
                obtain ⟨u, hu, eu⟩ := some_
                exact iteF (go _ _ ⟨_, _, _, _, _, as, ss, rfl, stay, S1 _ _ eS, hst'.mono S1, dr.up (by omega), al, by omega, List.mem_map.mpr ⟨u, hu, eu⟩⟩)
          · obtain ⟨y10, y11, y12, y13, y14, as, ss, rfl, SG, eS, hst', dr, al, lss, hw⟩ := hT
            have pos : 0 < ss.length := by
              obtain ⟨u, hu, _⟩ := List.mem_map.mp hw
              exact List.length_pos_of_mem hu
            have la : (as.map V.ref).length = ss.length := by rw [List.length_map, hst'.length]
            refine ⟨.ref R, rfl, R, rs.map V.int, 4, .int r4, rfl, rfl, .inl (.inl (SG _ _ eR9)), atI_nat (j := 4) g4, .inl ⟨r4, rfl, .ref S, rfl, .ref S, ss.length, rfl, .inl ⟨_, .inl (.inl eS), la.symm⟩, r4, (ss.length : Int), rfl, rfl, (show (0 : Int) < (ss.length : Int) by omega), ?_⟩⟩
            obtain ⟨tu, etu⟩ : ∃ tu : Nat, r4 % (ss.length : Int) = (tu : Int) := ⟨(r4 % (ss.length : Int)).toNat, by have := Int.emod_nonneg r4 (show (ss.length : Int) ≠ 0 by omega); omega⟩
            refine ⟨.ref LB, rfl, .ref S, rfl, _, rfl, _, rfl, S, as.map V.ref, rfl, .inl (.inl eS), fun A1 nA1 => ?_⟩
            rw [etu, cut_from]
            have sA1 := same_upd (o := .lst ((as.map V.ref).drop tu)) nA1
            refine ⟨.ref S, rfl, _, rfl, _, rfl, S, as.map V.ref, rfl, .inl (.inl (sA1 _ _ eS)), fun A2 nA2 => ?_⟩
            rw [etu, cut_to]
            have sA2 := same_upd (o := .lst ((as.map V.ref).take tu)) nA2
            refine ⟨A1, A2, _, _, rfl, rfl, sA2 _ _ upd_same, upd_same, smallE (by rw [List.length_drop, List.length_take]; omega), fun SL nSL => ⟨szl rfl, fun t nt => ?_⟩⟩
            have sSL := same_upd (o := .lst ((as.map V.ref).drop tu ++ (as.map V.ref).take tu)) nSL
            have st_ := same_upd (o := .lst [.ref LB, .ref SL]) nt
            have S12 := sA1.trans (sA2.trans sSL)
            have Sall := S12.trans st_
            have nSLH : H SL = none := (sL.trans (SG.trans (sA1.trans sA2))).free nSL
            have nls : LB ≠ SL := ne_of_none (sA2 _ _ (sA1 _ _ (SG _ _ eL9))) nSL
            refine q _ t LB SL ls (as.drop tu ++ as.take tu) (ss.drop tu ++ ss.take tu) (sL.trans (SG.trans Sall)) upd_same nLBH nSLH nls (Sall _ _ (SG _ _ eL9)) (by rw [st_ _ _ upd_same, List.map_append, List.map_drop, List.map_take]) (paired_app (paired_drop (hst'.mono Sall) tu) (paired_take (hst'.mono Sall) tu)) ?_
            have pm : (ss.drop tu ++ ss.take tu).Perm ss := by
              have := List.perm_append_comm (l₁ := ss.drop tu) (l₂ := ss.take tu)
              rwa [List.take_append_drop] at this
            refine ⟨fun z => by rw [z] at lenl; have : (0 : Nat) = ma := lenl; omega, by omega, fun x hx => stateB_of (inl x hx), dr.turn tu, fun x hx => ?_, ?_, fun x hx => ?_⟩
            · obtain ⟨w, y, hm⟩ := al x hx
              exact ⟨w, y, pm.mem_iff.mpr hm⟩
            · rw [pm.length_eq]; omega
            · rw [iw0] at hx
              cases hx
              exact (pm.map _).mem_iff.mpr hw

theorem in_names {names : List Str} {i : Nat} {x : Str} (h : names[i]? = some x) : (names.map V.str)[i]? = some (.str x) := by rw [List.getElem?_map, h]; rfl
/-- one or two faults -/
structure FewF (fs : List (Str × Str)) (names words marks : List Str) : Prop where
  nd : (fs.map (·.1)).Nodup
  len : fs.length ≤ 2
  mem : ∀ p ∈ fs, p.1 ∈ names ∧ p.1 ∈ words ∧ p.2 ∈ marks
  f0 : ∀ x, names[0]? = some x → ∃ y, (x, y) ∈ fs
def sp__law_faults (_ : PySem.W.Frag) : Sp := fun vs H Q _ => ∃ (dg : Int) (l n k : Addr) (as : List Addr) (ss : List KnA.Stp) (names marks : List Str), vs = [.int dg, .ref l, .ref n, .ref k] ∧ H l = some (.lst (as.map V.ref)) ∧ Stps H as ss ∧ ss.length ≤ 1000 ∧ H n = some (.lst (names.map V.str)) ∧ H k = some (.lst (marks.map V.str)) ∧ 2 ≤ names.length ∧ marks.length = 2 ∧
  (∀ x, names[0]? = some x → x ∈ ss.map (·.2.1)) ∧ ∀ H' d fs, Same H H' → H d = none → H' d = some (.dK (fkv fs)) → FewF fs names (ss.map (·.2.1)) marks → Q (.ref d) H'
theorem ok__law_faults {f : Addr} {C D S : Addr} {fd : FuncData} (T : Txt K mg C D S) (F : Fun K "_law_faults" "_law_faults" s__law_faults f fd)  : FnOk P w K mg base CX0 1 f fd ["_law_digit", "_law_steps", "_law_names_here", "_law_marks"] (sp__law_faults K) := by
  have nd := sc__law_faults.nd
  refine F.ok sc__law_faults (fun vs H Q E h => ?_) (fun cdv A outer s H vs Q E hr h => ?_)
  · obtain ⟨dg, l, n, k, as, ss, names, marks, rfl, _⟩ := h
    rfl
  · obtain ⟨dg, l, n, k, as, ss, names, marks, rfl, hl, hst, lss, hn, hk, ln, lk, h0, q⟩ := h
    refine ⟨_, (pss_cons (ps_set (i := 4) nd rfl (.inl rfl) (pe_disp (pps_cons (pe_ix (r := rIxL K) ix_list (pv 2) pe_int (fun _ _ => rfl)) (pe_ix (r := rIxL K) ix_list (pv 3) pe_int (fun _ _ => rfl)) pps_nil) (by rfl) (by rfl) (fun z => by cases z) (by decide)))
      (pss_cons (ps_if (PW.pt (pw_and (pt_cmpR op_gt (pe_op op_mod (pe_callTy call_int1 (by rfl) T.m_int (by decide +kernel) (pa_cons (pv 0) pa_nil)) pe_int) pe_int (nomark _)) (pw_and1 (pt_cmpR op_in_seq (pe_ix (r := rIxL K) ix_list (pv 2) pe_int (fun _ _ => rfl)) (pe_lc (own := [("_law_step", 5)]) (g := gName 5) (tt := tYes) rfl nd (pi_list (pv 1)) (blkOk_by (N := ["_law_digit", "_law_steps", "_law_names_here", "_law_marks", "_law_faults_here", "_law_step"]) (sc := defScope s__law_faults) (by decide +kernel)) (fun _ _ _ _ _ => (pg_name (i := 5) nd rfl (.inl rfl))) (fun _ _ _ _ _ => pts_nil) (fun _ _ _ _ _ => (pe_ix (r := rIxT K) ix_tup (pv 5) pe_int (fun _ _ => rfl)))) (by with_unfolding_all rfl))))) (pss_one (ps_dput (hu_of hr) (pv 4) (pe_ix (r := rIxL K) ix_list (pv 2) pe_int (fun _ _ => rfl)) (pe_ix (r := rIxL K) ix_list (pv 3) (pe_op op_sub (pe_op op_mod (pe_callTy call_int1 (by rfl) T.m_int (by decide +kernel) (pa_cons (pv 0) pa_nil)) pe_int) pe_int) (fun _ _ => rfl)) rfl)) pss_nil)
      (pss_one (ps_ret (pv 4))))), ?_⟩
    obtain ⟨x0, g0⟩ : ∃ x, names[0]? = some x := ⟨_, List.getElem?_eq_getElem (by omega)⟩
    obtain ⟨x1, g1⟩ : ∃ x, names[1]? = some x := ⟨_, List.getElem?_eq_getElem (by omega)⟩
    obtain ⟨m0, k0⟩ : ∃ x, marks[0]? = some x := ⟨_, List.getElem?_eq_getElem (by omega)⟩
    refine fun d nD => ?_
    have s1 := same_upd (o := .dK []) nD
    refine ⟨.ref n, rfl, n, _, 0, .str x0, rfl, rfl, .inl (.inl (s1 _ _ hn)), atI_nat (j := 0) (in_names g0), .ref k, rfl, k, _, 0, .str m0, rfl, rfl, .inl (.inl (s1 _ _ hk)), atI_nat (j := 0) (in_names k0), upd_same, [(.inr x0, .str m0)], rfl, Nat.le_of_ble_eq_true rfl, ?_⟩
    rw [upd_upd]
    have S : Same H (upd H d (.dK (mergeK [] [((.inr x0 : Key), V.str m0)]))) := same_upd nD
    have ed : (upd H d (.dK (mergeK [] [((.inr x0 : Key), V.str m0)]))) d = some (.dK (fkv [(x0, m0)])) := upd_same
    generalize upd H d (.dK (mergeK [] [((.inr x0 : Key), V.str m0)])) = H1 at S ed
    have base : FewF [(x0, m0)] names (ss.map (·.2.1)) marks := ⟨by simp, by simp, fun p hp => by rw [List.mem_singleton.mp hp]; exact ⟨List.mem_of_getElem? g0, h0 x0 g0, List.mem_of_getElem? k0⟩, fun x e => by rw [g0] at e; cases e; exact ⟨m0, List.mem_singleton.mpr rfl⟩⟩
    refine ⟨.int dg, rfl, .inl ⟨dg, rfl, dg, 3, rfl, rfl, (by show (0 : Int) < 3; decide), dg % 3, 0, rfl, rfl, _, rfl, ?_⟩⟩
    by_cases z : 0 < dg % 3
    · rw [decide_eq_true z]
      refine iteT ⟨.ref n, rfl, n, _, 1, .str x1, rfl, rfl, .inl (.inl (S _ _ hn)), atI_nat (j := 1) (in_names g1), .ref l, rfl, l, rfl, ⟨_, .inl (.inl (S _ _ hl))⟩, fun D nD1 => ?_⟩
      refine lc_list (K := K) (xs := as.map V.ref) (fun i H' => Same H1 H' ∧ H' D = some (.lst (((ss.take i).map (·.2.1)).map V.str))) ⟨same_upd nD1, upd_same⟩ (fun i H' _ hP => .inl (.inl (hP.1 _ _ (S _ _ hl)))) (fun i x H' hx hP => ?_) (fun H' hP => ?_)
      · obtain ⟨S1, eD⟩ := hP
        obtain ⟨ai, st, rfl, gi, g, hai⟩ := ref_get (hst.mono (S.trans S1)) hx
        refine ⟨rfl, ?_⟩
        unfold tYes
        refine iteT ?_
        refine ⟨.ref ai, rfl, ai, [.int st.1, .str st.2.1, .int st.2.2], 1, .str st.2.1, rfl, rfl, .inl (.inl hai), atI_nat (j := 1) rfl, _, eD, small (by rw [List.length_map, List.length_map, List.length_take]; omega), same_set nD1 S1, ?_⟩
        rw [upd_same, take_more g, List.map_append, List.map_append]; rfl
      · obtain ⟨S1, eD⟩ := hP
        rw [List.length_map, hst.length, List.take_length] at eD
        refine ⟨D, _, rfl, .inl (.inl (.inl eD)), rfl, flat_ws _, _, rfl, ?_⟩
        show if inV (.str x1) ((ss.map (·.2.1)).map V.str) = true then _ else _
        rw [inV_strs]
        have S2 := S.trans S1
        by_cases y : x1 ∈ ss.map (·.2.1)
        · rw [decide_eq_true y]
          obtain ⟨m1, k1⟩ : ∃ x, marks[(dg % 3 - 1).toNat]? = some x := ⟨_, List.getElem?_eq_getElem (by omega)⟩
          have ej : dg % 3 - 1 = ((dg % 3 - 1).toNat : Nat) := by omega
          refine iteT ⟨.ref k, rfl, .int dg, rfl, .inl ⟨dg, rfl, dg, 3, rfl, rfl, (by show (0 : Int) < 3; decide), dg % 3, 1, rfl, rfl, k, _, dg % 3 - 1, .str m1, rfl, rfl, .inl (.inl (S2 _ _ hk)), by rw [ej]; exact atI_nat (in_names k1), ?_⟩⟩
          refine ⟨.ref d, rfl, .ref n, rfl, n, _, 1, .str x1, rfl, rfl, .inl (.inl (S2 _ _ hn)), atI_nat (j := 1) (in_names g1), d, _, rfl, DPut.k (k := .inr x1) (S1 _ _ ed) (small (by unfold fkv; simp)), ?_⟩
          refine ⟨.ref d, rfl, ?_⟩
          by_cases e : x0 = x1
          · subst e
            refine q _ d [(x0, m1)] (same_set nD S2) nD ?_ ⟨by simp, by simp, fun p hp => by rw [List.mem_singleton.mp hp]; exact ⟨List.mem_of_getElem? g0, y, List.mem_of_getElem? k1⟩, fun x e => by rw [g0] at e; cases e; exact ⟨m1, List.mem_singleton.mpr rfl⟩⟩
            rw [upd_same]
            unfold putK fkv
            simp
          · refine q _ d [(x0, m0), (x1, m1)] (same_set nD S2) nD ?_ ⟨by simp [e], by simp, fun p hp => ?_, fun x e => by rw [g0] at e; cases e; exact ⟨m0, List.mem_cons_self⟩⟩
            · rw [upd_same, putK_new _ (val_none fun p hp => by rw [List.mem_singleton.mp hp]; exact e)]; rfl
            · rcases List.mem_cons.mp hp with h | h
              · rw [h]; exact ⟨List.mem_of_getElem? g0, h0 x0 g0, List.mem_of_getElem? k0⟩
              · rw [List.mem_singleton.mp h]; exact ⟨List.mem_of_getElem? g1, y, List.mem_of_getElem? k1⟩
        · rw [decide_eq_false y]
          exact iteF ⟨.ref d, rfl, q _ d _ S2 nD (S1 _ _ ed) base⟩
    · rw [decide_eq_false z]
      exact iteF (iteF ⟨.ref d, rfl, q _ d _ S nD ed base⟩)

/-! ### faults given in another order -/
theorem look_cons (x n : Str) (r : List (Str × Str)) (y : Str) : look ((x, n) :: r) y = if x = y then some n else look r y := by
  unfold look
  by_cases e : x = y
  · rw [List.find?_cons_of_pos (by simp [e]), if_pos e]; rfl
  · rw [List.find?_cons_of_neg (by simp [e]), if_neg e]
theorem look_mem {fs : List (Str × Str)} (nd : (fs.map (·.1)).Nodup) {x n : Str} : look fs x = some n ↔ (x, n) ∈ fs := by
  induction fs with
  | nil => exact ⟨fun h => (by cases h), fun h => nomatch h⟩
  | cons p r ih =>
    obtain ⟨y, m⟩ := p
    rw [List.map_cons, List.nodup_cons] at nd
    rw [look_cons]
    by_cases e : y = x
    · subst e
      rw [if_pos rfl]
      constructor
      · intro h; cases h; exact List.mem_cons_self
      · intro h
        rcases List.mem_cons.mp h with h | h
        · cases h; rfl
        · exact absurd (List.mem_map.mpr ⟨_, h, rfl⟩) nd.1
    · rw [if_neg e, ih nd.2]
      constructor
      · intro h; exact List.mem_cons_of_mem _ h
      · intro h
        rcases List.mem_cons.mp h with h | h
        · cases h; exact absurd rfl e
        · exact h
theorem look_perm {gv fs : List (Str × Str)} (nd : (fs.map (·.1)).Nodup) (p : gv.Perm fs) (x : Str) : look gv x = look fs x := by
  have nd' : (gv.map (·.1)).Nodup := (p.map _).symm.nodup nd
  cases e : look fs x with
  | some n => rw [look_mem nd', p.mem_iff, ← look_mem nd]; exact e
  | none =>
    cases e' : look gv x with
    | none => rfl
    | some n => rw [look_mem nd', p.mem_iff, ← look_mem nd, e] at e'; cases e'
theorem order_perm {gv fs : List (Str × Str)} (nd : (fs.map (·.1)).Nodup) (p : gv.Perm fs) (ws : List Str) : orderF ws gv = orderF ws fs := by
  unfold orderF
  congr 1
  funext x
  rw [look_perm nd p]
theorem order_fst (ws : List Str) (fs : List (Str × Str)) : (orderF ws fs).map (·.1) = ws.filter fun x => (look fs x).isSome := by
  unfold orderF
  induction ws with
  | nil => rfl
  | cons x r ih =>
    rw [List.filterMap_cons]
    cases e : look fs x with
    | none => rw [List.filter_cons_of_neg (by simp [e])]; exact ih
    | some n => rw [List.filter_cons_of_pos (by simp [e]), ← ih]; rfl
theorem order_mem {ws : List Str} {fs : List (Str × Str)} {p : Str × Str} : p ∈ orderF ws fs ↔ p.1 ∈ ws ∧ look fs p.1 = some p.2 := by
  unfold orderF
  rw [List.mem_filterMap]
  constructor
  · rintro ⟨x, hx, e⟩
    cases g : look fs x with
    | none => rw [g] at e; cases e
    | some n => rw [g] at e; cases e; exact ⟨hx, g⟩
  · rintro ⟨h1, h2⟩
    exact ⟨p.1, h1, by rw [h2]; rfl⟩
theorem order_same {ws : List Str} {fs : List (Str × Str)} (nws : ws.Nodup) (nd : (fs.map (·.1)).Nodup) (h : ∀ p ∈ fs, p.1 ∈ ws) : (orderF ws fs).Perm fs := by
  have n1 : ((orderF ws fs).map (·.1)).Nodup := by rw [order_fst]; exact List.filter_sublist.nodup nws
  have ndp : ∀ {l : List (Str × Str)}, (l.map (·.1)).Nodup → l.Nodup := fun {l} hl => (List.pairwise_map.mp hl).imp fun hne e => hne (congrArg (·.1) e)
  refine (List.perm_ext_iff_of_nodup (ndp n1) (ndp nd)).mpr fun p => ?_
  rw [order_mem, look_mem nd]
  exact ⟨fun q => q.2, fun q => ⟨h p q, q⟩⟩
/-- both dicts hold the same -/
theorem same_dict {ws : List Str} {fs : List (Str × Str)} (nws : ws.Nodup) (nd : (fs.map (·.1)).Nodup) (h : ∀ p ∈ fs, p.1 ∈ ws) : (fkv (orderF ws fs)).length = (fkv fs).length ∧ ∀ p ∈ fkv (orderF ws fs), valV (fkv fs) p.1 = some p.2 ∧ flatB p.2 = true := by
  refine ⟨by unfold fkv; rw [List.length_map, List.length_map]; exact (order_same nws nd h).length_eq, fun p hp => ?_⟩
  unfold fkv at hp
  obtain ⟨u, hu, rfl⟩ := List.mem_map.mp hp
  refine ⟨?_, rfl⟩
  show valV (fkv fs) (.inr u.1) = _
  rw [look_val, (order_mem.mp hu).2]; rfl
theorem FewF.good {fs gv : List (Str × Str)} {names words marks : List Str} (f : FewF fs names words marks) (p : gv.Perm fs) (h1 : ∀ z ∈ names, nameB (.str z) = true) (h2 : ∀ z ∈ marks, nameB (.str z) = true) : GoodFaults gv words := by
  have len : gv.length ≤ 2 := by rw [p.length_eq]; exact f.len
  refine ⟨fun u hu => ?_, ?_, by omega⟩
  · obtain ⟨a, b, c⟩ := f.mem u (p.mem_iff.mp hu)
    exact ⟨h1 _ a, b, h2 _ c⟩
  · have := KnS.foldL_length (gv.map fun p => (Sum.inr p.2 : Key)) []
    rw [List.length_map] at this
    show (List.foldl KnS.addL [] _).length ≤ 3
    have h0 : ([] : List Key).length = 0 := rfl
    omega

end
end Kn

set_option Elab.async false
set_option linter.all false
set_option maxRecDepth 100000
set_option maxHeartbeats 4000000
namespace Kn
open PySem PySem.Spec PyProof.Rows L2
section
/-! ### pairs (state, names done), and how they spread -/
abbrev Lk := Str → Option Str
theorem lt_asym : ∀ a b : List Nat, ltCps a b = true → ltCps b a = false
  | [], [], h => by cases h
  | [], _ :: _, _ => rfl
  | _ :: _, [], h => by cases h
  | x :: r, y :: t, h => by
    have h' : (decide (x < y) || (x == y && ltCps r t)) = true := h
    show (decide (y < x) || (y == x && ltCps t r)) = false
    rw [Bool.or_eq_true, decide_eq_true_eq, Bool.and_eq_true, beq_iff_eq] at h'
    rw [Bool.or_eq_false_iff, decide_eq_false_iff_not, Bool.and_eq_false_iff, beq_eq_false_iff_ne]
    rcases h' with c | ⟨c, d⟩
    · exact ⟨by omega, .inl (by omega)⟩
    · exact ⟨by omega, .inr (lt_asym r t d)⟩
def srtN (xs : List Str) : List Str := xs.mergeSort fun a b => !ltCps b.cps.toList a.cps.toList
theorem srtN_words {xs : List Str} (nd : xs.Nodup) : KnA.Words (srtN xs) xs := by
  refine ⟨?_, (List.mergeSort_perm _ _).nodup_iff.mpr nd, fun x => (List.mergeSort_perm _ _).mem_iff⟩
  refine List.Pairwise.imp (fun {a b} h => ?_) (List.pairwise_mergeSort (le := fun a b : Str => !ltCps b.cps.toList a.cps.toList) (fun a b c h1 h2 => ?_) (fun a b => ?_) xs)
  · rw [Bool.not_eq_true'] at h; exact h
  · rw [Bool.not_eq_true'] at h1 h2 ⊢
    exact KnA.leS_trans (a := a) (b := b) (c := c) h1 h2
  · rw [Bool.or_eq_true, Bool.not_eq_true', Bool.not_eq_true']
    cases e : ltCps b.cps.toList a.cps.toList with
    | false => exact .inl rfl
    | true => exact .inr (lt_asym _ _ e)
def addF (D : List Str) : Option Str → List Str
  | none => D
  | some f => if f ∈ D then D else srtN (D ++ [f])
theorem addF_words {D : List Str} (h : KnA.Words D D) (o : Option Str) : KnA.Words (addF D o) (D ++ o.toList) := by
  cases o with
  | none => rw [Option.toList_none, List.append_nil]; exact h
  | some f =>
    rw [Option.toList_some]
    by_cases m : f ∈ D
    · rw [show addF D (some f) = D from if_pos m]
      exact ⟨h.up, h.nd, fun x => ⟨fun hx => List.mem_append_left _ hx, fun hx => (List.mem_append.mp hx).elim id fun z => List.mem_singleton.mp z ▸ m⟩⟩
    · rw [show addF D (some f) = srtN (D ++ [f]) from if_neg m]
      exact srtN_words (List.nodup_append.mpr ⟨h.nd, List.pairwise_singleton _ f, fun a ha b hb e => m (List.mem_singleton.mp hb ▸ e ▸ ha)⟩)
theorem words_self {a b : List Str} (h : KnA.Words a b) : KnA.Words a a := ⟨h.up, h.nd, fun _ => Iff.rfl⟩
def bhd (lf : Lk) (p : KnA.Dat) (x : KnA.Stp) : KnA.Dat := (x.2.2, addF p.2 (lf x.2.1))
theorem bhd_ok {lf : Lk} {p : KnA.Dat} {x : KnA.Stp} (h : KnA.Words p.2 p.2) : KnA.Words (bhd lf p x).2 (bhd lf p x).2 := words_self (addF_words h _)
inductive Rch (ss : List KnA.Stp) (lf lw : Lk) (p : KnA.Dat) : KnA.Dat → Prop
  | refl : Rch ss lf lw p p
  | step {q : KnA.Dat} {x : KnA.Stp} (h : Rch ss lf lw p q) (m : x ∈ ss) (e : x.1 = q.1) (n : lw x.2.1 = none) : Rch ss lf lw p (bhd lf q x)
theorem Rch.trans {ss : List KnA.Stp} {lf lw : Lk} {p q r : KnA.Dat} (h : Rch ss lf lw p q) (k : Rch ss lf lw q r) : Rch ss lf lw p r := by
  induction k with
  | refl => exact h
  | step _ m e n ih => exact .step ih m e n
theorem Rch.ok {ss : List KnA.Stp} {lf lw : Lk} {p q : KnA.Dat} (h : Rch ss lf lw p q) (w : KnA.Words p.2 p.2) : KnA.Words q.2 q.2 := by
  induction h with
  | refl => exact w
  | step _ _ _ _ ih => exact bhd_ok ih
def Sees (ss : List KnA.Stp) (lf lw : Lk) (z : Str) (p q : KnA.Dat) : Prop := ∃ x ∈ ss, x.1 = p.1 ∧ lw x.2.1 = some z ∧ q = bhd lf p x
def nextE (ss : List KnA.Stp) (lf lw : Lk) (z : Str) (S : KnA.Dat → Prop) : KnA.Dat → Prop := fun q => ∃ p r, S p ∧ Sees ss lf lw z p r ∧ Rch ss lf lw r q
def Est (ss : List KnA.Stp) (lf lw : Lk) (s0 : Int) (zs : List Str) : KnA.Dat → Prop := zs.foldl (fun S z => nextE ss lf lw z S) (Rch ss lf lw (s0, []))
theorem est_snoc {ss : List KnA.Stp} {lf lw : Lk} {s0 : Int} (zs : List Str) (z : Str) : Est ss lf lw s0 (zs ++ [z]) = nextE ss lf lw z (Est ss lf lw s0 zs) := by
  unfold Est
  rw [List.foldl_append]; rfl
structure Univ (ss : List KnA.Stp) (lf : Lk) (s0 : Int) (U : List KnA.Dat) : Prop where
  start : (s0, []) ∈ U
  step : ∀ p ∈ U, ∀ x ∈ ss, x.1 = p.1 → bhd lf p x ∈ U
theorem Univ.rch {ss : List KnA.Stp} {lf lw : Lk} {s0 : Int} {U : List KnA.Dat} (u : Univ ss lf s0 U) {p q : KnA.Dat} (hp : p ∈ U) (h : Rch ss lf lw p q) : q ∈ U := by
  induction h with
  | refl => exact hp
  | step _ m e _ ih => exact u.step _ ih _ m e
theorem Univ.next {ss : List KnA.Stp} {lf lw : Lk} {s0 : Int} {U : List KnA.Dat} (u : Univ ss lf s0 U) {z : Str} {S : KnA.Dat → Prop} (h : ∀ q, S q → q ∈ U) (q : KnA.Dat) (k : nextE ss lf lw z S q) : q ∈ U := by
  obtain ⟨p, r, hp, ⟨x, hx, e, _, rfl⟩, hr⟩ := k
  exact u.rch (u.step p (h p hp) x hx e) hr
theorem Univ.est {ss : List KnA.Stp} {lf lw : Lk} {s0 : Int} {U : List KnA.Dat} (u : Univ ss lf s0 U) (zs : List Str) (q : KnA.Dat) (h : Est ss lf lw s0 zs q) : q ∈ U := by
  have g : ∀ (zs : List Str) (S : KnA.Dat → Prop), (∀ q, S q → q ∈ U) → ∀ q, zs.foldl (fun S z => nextE ss lf lw z S) S q → q ∈ U := fun zs => by
    induction zs with
    | nil => exact fun S h q k => h q k
    | cons z r ih => exact fun S h q k => ih _ (fun q k => u.next h q k) q k
  exact g zs _ (fun q k => u.rch u.start k) q h
theorem words_nil : KnA.Words [] [] := ⟨.nil, List.nodup_nil, fun _ => Iff.rfl⟩
theorem next_ok {ss : List KnA.Stp} {lf lw : Lk} {z : Str} {S : KnA.Dat → Prop} (h : ∀ q, S q → KnA.Words q.2 q.2) (q : KnA.Dat) (k : nextE ss lf lw z S q) : KnA.Words q.2 q.2 := by
  obtain ⟨p, r, hp, ⟨x, hx, e, _, rfl⟩, hr⟩ := k
  exact hr.ok (bhd_ok (h p hp))
theorem est_ok {ss : List KnA.Stp} {lf lw : Lk} {s0 : Int} (zs : List Str) (q : KnA.Dat) (h : Est ss lf lw s0 zs q) : KnA.Words q.2 q.2 := by
  have g : ∀ (zs : List Str) (S : KnA.Dat → Prop), (∀ q, S q → KnA.Words q.2 q.2) → ∀ q, zs.foldl (fun S z => nextE ss lf lw z S) S q → KnA.Words q.2 q.2 := fun zs => by
    induction zs with
    | nil => exact fun S h q k => h q k
    | cons z r ih => exact fun S h q k => ih _ (fun q k => next_ok h q k) q k
  exact g zs _ (fun q k => k.ok words_nil) q h
/-! ### parts -/
def partsD (names : List Str) : List (List Str) := names.foldl (fun f n => f ++ f.map (· ++ [n])) [[]]
theorem partsD_snoc (ns : List Str) (n : Str) : partsD (ns ++ [n]) = partsD ns ++ (partsD ns).map (· ++ [n]) := by
  unfold partsD
  rw [List.foldl_append]; rfl
theorem snoc_rec {α : Type} {M : List α → Prop} (h0 : M []) (h1 : ∀ xs x, M xs → M (xs ++ [x])) (xs : List α) : M xs := by
  have g : ∀ ys : List α, M ys.reverse := fun ys => by
    induction ys with
    | nil => exact h0
    | cons y r ih => rw [List.reverse_cons]; exact h1 _ _ ih
  have := g xs.reverse
  rwa [List.reverse_reverse] at this
theorem partsD_len (ns : List Str) : (partsD ns).length = 2 ^ ns.length := by
  refine snoc_rec (M := fun ns => (partsD ns).length = 2 ^ ns.length) rfl (fun xs x ih => ?_) ns
  rw [partsD_snoc, List.length_append, List.length_map, ih, List.length_append]
  show _ = 2 ^ (xs.length + 1)
  rw [Nat.pow_succ]; omega
theorem partsD_mem (ns d : List Str) : d ∈ partsD ns ↔ d.Sublist ns := by
  refine snoc_rec (M := fun ns => ∀ d, d ∈ partsD ns ↔ d.Sublist ns) (fun d => ?_) (fun xs x ih d => ?_) ns d
  · show d ∈ [[]] ↔ _
    rw [List.mem_singleton, List.sublist_nil]
  · rw [partsD_snoc, List.mem_append, ih, List.mem_map, List.sublist_append_iff]
    constructor
    · rintro (h | ⟨e, he, rfl⟩)
      · exact ⟨d, [], (List.append_nil d).symm, h, List.nil_sublist _⟩
      · exact ⟨e, [x], rfl, (ih e).mp he, List.Sublist.refl _⟩
    · rintro ⟨l1, l2, rfl, h1, h2⟩
      have h2' : l2 = [] ∨ l2 = [x] := by
        rcases List.sublist_cons_iff.mp h2 with h | ⟨r, rfl, h⟩
        · exact .inl (List.sublist_nil.mp h)
        · rw [List.sublist_nil.mp h]; exact .inr rfl
      rcases h2' with rfl | rfl
      · exact .inl (by rw [List.append_nil]; exact h1)
      · exact .inr ⟨l1, (ih l1).mpr h1, rfl⟩
theorem sub_of_words {D ns : List Str} (hD : KnA.Words D D) (hn : KnA.Words ns ns) (h : ∀ z ∈ D, z ∈ ns) : D.Sublist ns := by
  have e : KnA.Words (ns.filter fun z => decide (z ∈ D)) D := ⟨hn.up.sublist (List.filter_sublist (l := ns)), hn.nd.sublist (List.filter_sublist (l := ns)), fun z => by
    rw [List.mem_filter, decide_eq_true_eq]; exact ⟨fun q => q.2, fun q => ⟨h z q, q⟩⟩⟩
  rw [hD.uniq e]
  exact List.filter_sublist
theorem sub_words {D ns : List Str} (hn : KnA.Words ns ns) (h : D.Sublist ns) : KnA.Words D D := ⟨hn.up.sublist h, hn.nd.sublist h, fun _ => Iff.rfl⟩
theorem univ_of {ss : List KnA.Stp} {lf : Lk} {s0 : Int} {U : List KnA.Dat} {ns : List Int} {names : List Str} (hU : ∀ p : KnA.Dat, p ∈ U ↔ p.1 ∈ ns ∧ p.2 ∈ partsD names) (h0 : s0 ∈ ns) (hs : ∀ x ∈ ss, x.1 ∈ ns → x.2.2 ∈ ns) (hn : KnA.Words names names) (hf : ∀ x ∈ ss, ∀ f, lf x.2.1 = some f → f ∈ names) : Univ ss lf s0 U := by
  refine ⟨(hU _).mpr ⟨h0, (partsD_mem _ _).mpr (List.nil_sublist _)⟩, fun p hp x hx e => (hU _).mpr ?_⟩
  obtain ⟨a, b⟩ := (hU p).mp hp
  have sp := (partsD_mem _ _).mp b
  have wp := sub_words hn sp
  refine ⟨hs x hx (e ▸ a), (partsD_mem _ _).mpr (sub_of_words (bhd_ok wp) hn fun z hz => ?_)⟩
  rcases List.mem_append.mp (((addF_words wp (lf x.2.1)).mem z).mp hz) with h | h
  · exact sp.subset h
  · exact hf x hx z (Option.mem_toList.mp h)
theorem nodup_le {α : Type} [DecidableEq α] : ∀ {L M : List α}, L.Nodup → (∀ x ∈ L, x ∈ M) → L.length ≤ M.length
  | [], _, _, _ => Nat.zero_le _
  | x :: r, M, nd, h => by
    obtain ⟨a, b⟩ := List.nodup_cons.mp nd
    have ih := nodup_le (M := M.erase x) b fun y hy => (List.mem_erase_of_ne (show y ≠ x from fun e => a (by rw [← e]; exact hy))).mpr (h y (List.mem_cons_of_mem _ hy))
    have hx := h x List.mem_cons_self
    rw [List.length_erase_of_mem hx] at ih
    have := List.length_pos_of_mem hx
    rw [List.length_cons]; omega
def allU (ls : List Int) (names : List Str) : List KnA.Dat := ls.flatMap fun s => (partsD names).map fun d => (s, d)
theorem allU_mem (ls : List Int) (names : List Str) (p : KnA.Dat) : p ∈ allU ls names ↔ p.1 ∈ ls ∧ p.2 ∈ partsD names := by
  unfold allU
  rw [List.mem_flatMap]
  constructor
  · rintro ⟨s, hs, h⟩
    obtain ⟨d, hd, rfl⟩ := List.mem_map.mp h
    exact ⟨hs, hd⟩
  · rintro ⟨a, b⟩
    exact ⟨p.1, a, List.mem_map.mpr ⟨p.2, b, rfl⟩⟩
theorem allU_len (ls : List Int) (names : List Str) : (allU ls names).length = ls.length * 2 ^ names.length := by
  unfold allU
  induction ls with
  | nil => rw [List.length_nil, Nat.zero_mul]; rfl
  | cons s r ih => rw [List.flatMap_cons, List.length_append, ih, List.length_map, partsD_len, List.length_cons, Nat.succ_mul]; omega
/-! ### sets as numbers -/
def IsSetU (U : List KnA.Dat) (m : Nat) (S : KnA.Dat → Prop) : Prop := ∀ i, m.testBit i = true ↔ ∃ q, U[i]? = some q ∧ S q
theorem IsSetU.or {U : List KnA.Dat} {m n : Nat} {S T : KnA.Dat → Prop} (h : IsSetU U m S) (k : IsSetU U n T) : IsSetU U (m ||| n) fun q => S q ∨ T q := fun i => by
  rw [Nat.testBit_or, Bool.or_eq_true, h i, k i]
  constructor
  · rintro (⟨q, a, b⟩ | ⟨q, a, b⟩)
    · exact ⟨q, a, .inl b⟩
    · exact ⟨q, a, .inr b⟩
  · rintro ⟨q, a, b | b⟩
    · exact .inl ⟨q, a, b⟩
    · exact .inr ⟨q, a, b⟩
theorem IsSetU.zero {U : List KnA.Dat} : IsSetU U 0 fun _ => False := fun i => by
  rw [Nat.zero_testBit]
  exact ⟨fun h => (by cases h), fun ⟨_, _, h⟩ => h.elim⟩
theorem IsSetU.one {U : List KnA.Dat} (nd : U.Nodup) {j : Nat} {q : KnA.Dat} (e : U[j]? = some q) : IsSetU U (2 ^ j) (· = q) := fun i => by
  rw [Nat.testBit_two_pow, decide_eq_true_eq]
  constructor
  · rintro rfl; exact ⟨q, e, rfl⟩
  · rintro ⟨q', a, rfl⟩
    exact (List.getElem?_inj (List.getElem?_eq_some_iff.mp e).1 nd).mp (e.trans a.symm)
theorem IsSetU.iff {U : List KnA.Dat} {m : Nat} {S T : KnA.Dat → Prop} (h : IsSetU U m S) (k : ∀ q ∈ U, S q ↔ T q) : IsSetU U m T := fun i => by
  rw [h i]
  constructor
  · rintro ⟨q, a, b⟩; exact ⟨q, a, (k q (List.mem_of_getElem? a)).mp b⟩
  · rintro ⟨q, a, b⟩; exact ⟨q, a, (k q (List.mem_of_getElem? a)).mpr b⟩
theorem IsSetU.uniq {U : List KnA.Dat} {m n : Nat} {S : KnA.Dat → Prop} (h : IsSetU U m S) (k : IsSetU U n S) : m = n := Nat.eq_of_testBit_eq fun i => by rw [Bool.eq_iff_iff, h i, k i]
theorem IsSetU.same {U : List KnA.Dat} {m : Nat} {S T : KnA.Dat → Prop} (h : IsSetU U m S) (k : IsSetU U m T) : ∀ q ∈ U, S q ↔ T q := fun q hq => by
  obtain ⟨i, e⟩ := List.getElem?_of_mem hq
  have one : ∀ {R : KnA.Dat → Prop}, (∃ q', U[i]? = some q' ∧ R q') ↔ R q := fun {R} => by
    constructor
    · rintro ⟨q', a, b⟩
      rw [e] at a; cases a; exact b
    · exact fun b => ⟨q, e, b⟩
  rw [← one (R := S), ← one (R := T), ← h i, ← k i]
theorem IsSetU.lt {U : List KnA.Dat} {m : Nat} {S : KnA.Dat → Prop} (h : IsSetU U m S) : m < 2 ^ U.length := Nat.lt_pow_two_of_testBit m fun i hi => by
  cases c : m.testBit i with
  | false => rfl
  | true =>
    obtain ⟨q, a, _⟩ := (h i).mp c
    rw [List.getElem?_eq_none hi] at a; cases a
theorem IsSetU.bit {U : List KnA.Dat} {m : Nat} {S : KnA.Dat → Prop} (h : IsSetU U m S) {j : Nat} {q : KnA.Dat} (e : U[j]? = some q) : m &&& 2 ^ j = 0 ↔ ¬ S q := by
  have one : (∃ q', U[j]? = some q' ∧ S q') ↔ S q := ⟨fun z => (by obtain ⟨q', a, b⟩ := z; rw [e] at a; cases a; exact b), fun b => ⟨q, e, b⟩⟩
  rw [← one, ← h j]
  constructor
  · intro z c
    have := congrArg (fun n => n.testBit j) z
    simp only [Nat.testBit_and, c, Nat.testBit_two_pow, decide_true, Bool.and_self, Nat.zero_testBit] at this
    cases this
  · intro c
    refine Nat.eq_of_testBit_eq fun i => ?_
    rw [Nat.testBit_and, Nat.testBit_two_pow, Nat.zero_testBit]
    by_cases ij : j = i
    · rw [← ij, Bool.eq_false_iff.mpr c, Bool.false_and]
    · rw [decide_eq_false ij, Bool.and_false]
def Sof (U : List KnA.Dat) (m : Nat) : KnA.Dat → Prop := fun q => ∃ i, m.testBit i = true ∧ U[i]? = some q
theorem IsSetU.sof {U : List KnA.Dat} {m : Nat} {S : KnA.Dat → Prop} (h : IsSetU U m S) (q : KnA.Dat) : Sof U m q ↔ q ∈ U ∧ S q := by
  constructor
  · rintro ⟨i, a, b⟩
    obtain ⟨q', c, d⟩ := (h i).mp a
    rw [b] at c; cases c
    exact ⟨List.mem_of_getElem? b, d⟩
  · rintro ⟨a, b⟩
    obtain ⟨i, e⟩ := List.getElem?_of_mem a
    exact ⟨i, (h i).mpr ⟨q, e, b⟩, e⟩
/-! ### the places of a set -/
def plc (m : Nat) (n : Nat) : List Nat := (List.range n).filter fun i => m.testBit i
theorem low_bit : ∀ a : Nat, 1 ≤ a → ∃ t, a.testBit t = true ∧ (∀ i < t, a.testBit i = false) ∧ ∀ i, (a - 1).testBit i = if i < t then true else if i = t then false else a.testBit i := by
  intro a
  induction a using Nat.strongRecOn with
  | ind a ih =>
    intro h
    rcases Nat.mod_two_eq_zero_or_one a with c | c
    · obtain ⟨t, t1, t2, t3⟩ := ih (a / 2) (by omega) (by omega)
      refine ⟨t + 1, by rw [Nat.testBit_succ]; exact t1, fun i hi => ?_, fun i => ?_⟩
      · cases i with
        | zero => rw [Nat.testBit_zero, c]; rfl
        | succ i => rw [Nat.testBit_succ]; exact t2 i (by omega)
      · cases i with
        | zero => rw [Nat.testBit_zero, if_pos (Nat.succ_pos t), show (a - 1) % 2 = 1 by omega]; rfl
        | succ i =>
          rw [Nat.testBit_succ, Nat.testBit_succ, show (a - 1) / 2 = a / 2 - 1 by omega, t3 i]
          simp only [Nat.add_lt_add_iff_right, Nat.add_right_cancel_iff]
    · refine ⟨0, by rw [Nat.testBit_zero, c]; rfl, fun i hi => by omega, fun i => ?_⟩
      cases i with
      | zero => rw [Nat.testBit_zero, if_neg (by omega), if_pos rfl, show (a - 1) % 2 = 0 by omega]; rfl
      | succ i => rw [if_neg (by omega), if_neg (by omega), Nat.testBit_succ, Nat.testBit_succ, show (a - 1) / 2 = a / 2 by omega]
theorem low_and {a t : Nat} (t1 : a.testBit t = true) (t2 : ∀ i < t, a.testBit i = false) (t3 : ∀ i, (a - 1).testBit i = if i < t then true else if i = t then false else a.testBit i) :
    a - (a &&& (a - 1)) = 2 ^ t ∧ ∀ i, (a &&& (a - 1)).testBit i = (a.testBit i && !decide (i = t)) := by
  have b : ∀ i, (a &&& (a - 1)).testBit i = (a.testBit i && !decide (i = t)) := fun i => by
    rw [Nat.testBit_and, t3 i]
    by_cases i1 : i < t
    · rw [t2 i i1, Bool.false_and, Bool.false_and]
    · rw [if_neg i1]
      by_cases i2 : i = t
      · rw [if_pos i2, decide_eq_true i2]; rfl
      · rw [if_neg i2, decide_eq_false i2, Bool.and_self, Bool.not_false, Bool.and_true]
  refine ⟨Nat.eq_of_testBit_eq fun i => ?_, b⟩
  rw [(KnA.sub_test a (a - 1)).2 i, t3 i, Nat.testBit_two_pow]
  by_cases i1 : i < t
  · rw [t2 i i1, Bool.false_and, decide_eq_false (by omega)]
  · rw [if_neg i1]
    by_cases i2 : i = t
    · rw [if_pos i2, i2, t1, decide_eq_true rfl]; rfl
    · rw [if_neg i2, decide_eq_false (by omega)]
      cases a.testBit i <;> rfl
theorem plc_low {a b t n : Nat} (lt : t < n) (t1 : a.testBit t = true) (t2 : ∀ i < t, a.testBit i = false) (hb : ∀ i, b.testBit i = (a.testBit i && !decide (i = t))) : plc a n = t :: plc b n := by
  unfold plc
  have r : List.range n = List.range t ++ t :: (List.range (n - t - 1)).map (· + (t + 1)) := by
    have e1 := List.range_add (n := t) (m := n - t)
    rw [show t + (n - t) = n by omega] at e1
    rw [e1, show n - t = (n - t - 1) + 1 by omega, List.range_succ_eq_map, List.map_cons, List.map_map]
    congr 2
    exact List.map_congr_left fun i _ => by show t + (i + 1) = i + (t + 1); omega
  have z1 : (List.range t).filter (fun i => a.testBit i) = [] := List.filter_eq_nil_iff.mpr fun i hi => by rw [t2 i (List.mem_range.mp hi)]; exact Bool.false_ne_true
  have z2 : (List.range t).filter (fun i => b.testBit i) = [] := List.filter_eq_nil_iff.mpr fun i hi => by rw [hb i, t2 i (List.mem_range.mp hi)]; exact Bool.false_ne_true
  rw [r, List.filter_append, List.filter_append, z1, z2, List.nil_append, List.nil_append, List.filter_cons_of_pos (by simpa using t1), List.filter_cons_of_neg (by rw [hb t, decide_eq_true rfl]; simp)]
  congr 1
  refine List.filter_congr fun i hi => ?_
  obtain ⟨j, _, rfl⟩ := List.mem_map.mp hi
  rw [hb, decide_eq_false (by omega)]; simp
theorem plc_zero (n : Nat) : plc 0 n = [] := List.filter_eq_nil_iff.mpr fun i _ => by rw [Nat.zero_testBit]; exact Bool.false_ne_true
theorem plc_mem {m n i : Nat} : i ∈ plc m n ↔ i < n ∧ m.testBit i = true := by unfold plc; rw [List.mem_filter, List.mem_range]

end
end Kn

set_option Elab.async false
set_option linter.all false
set_option maxRecDepth 100000
set_option maxHeartbeats 4000000
namespace Kn
open PySem PySem.Spec PyProof.Rows L2
open C8 (Cal pe_c pe_gc Mak pe_mk)
section
variable {P : Program} {w : World} {K : PySem.W.Frag} {mg : Str → Option Value} {base : Heap}
def kInts (ks : List Nat) : List V := ks.map fun (k : Nat) => V.int (k : Int)
theorem kInts_get {ks : List Nat} {i : Nat} {x : V} (h : (kInts ks)[i]? = some x) : ∃ k, ks[i]? = some k ∧ x = .int (k : Int) ∧ ks.drop i = k :: ks.drop (i + 1) := by
  unfold kInts at h
  rw [List.getElem?_map] at h
  cases e : ks[i]? with
  | none => rw [e] at h; cases h
  | some k =>
    rw [e] at h
    cases h
    obtain ⟨hi, rfl⟩ := List.getElem?_eq_some_iff.mp e
    exact ⟨_, rfl, rfl, List.drop_eq_getElem_cons hi⟩

/-! ### watches -/
/-- a comprehension over the items of a dict -/
theorem lc_items {d : Addr} {o : Obj} {kvs : List (Key × V)} {g : TG} {tt : TT} {te : TE} {vs : List Nat} {σ : L2.St} {H1 : Hp} {D : Addr} {Qd : Hp → Prop} (Pv : Nat → Hp → Prop) (h0 : Pv 0 (upd H1 D (.lst []))) (hl : ∀ i H, i ≤ kvs.length → Pv i H → H d = some (.frz o (.dK kvs)))
    (hs : ∀ (i : Nat) (k : Key) (v : V) (T : Addr) (H : Hp), kvs[i]? = some (k, v) → H T = none → Pv i H → g (.ref T) (wipe σ vs) (upd H T (.tup [kV k, v])) fun σ2 H2 => wipe σ2 vs = wipe σ vs ∧ tt σ2 H2 fun b H3 =>
      if b = true then te σ2 H3 fun y H4 => ∃ acc, H4 D = some (.lst acc) ∧ acc.length < sizeLine ∧ Pv (i + 1) (upd H4 D (.lst (acc ++ [y]))) else Pv (i + 1) H3) (hd : ∀ H, Pv kvs.length H → Qd H) :
    ∃ W : Nat → Nat → Hp → Prop, (∃ m, W 0 m (upd H1 D (.lst []))) ∧ ∀ i m H, W i m H →
      ((Iti d o kvs).stop i H ∧ Qd H) ∨ ((Iti d o kvs).go i H ∧ ∃ Nx : Hp → Prop, (∀ H', Nx H' → ∃ m', m' < m ∧ W (i + 1) m' H') ∧ ∀ x H', (Iti d o kvs).yld i H x H' → g x (wipe σ vs) H' fun σ2 H2 => wipe σ2 vs = wipe σ vs ∧ tt σ2 H2 fun b H3 =>
        if b = true then te σ2 H3 fun y H4 => ∃ acc, H4 D = some (.lst acc) ∧ acc.length < sizeLine ∧ Nx (upd H4 D (.lst (acc ++ [y]))) else Nx H3) := by
  refine ⟨fun i m H => m = kvs.length - i ∧ i ≤ kvs.length ∧ Pv i H, ⟨kvs.length, by simp, Nat.zero_le _, h0⟩, ?_⟩
  rintro i m H ⟨rfl, hi, p⟩
  have q := hl i H hi p
  rcases Nat.lt_or_eq_of_le hi with lt | e
  · refine .inr ⟨⟨q, lt⟩, Pv (i + 1), fun H' p' => ⟨kvs.length - (i + 1), by omega, rfl, lt, p'⟩, fun v H' ⟨T, k, u, ek, ev, nT, eH⟩ => ?_⟩
    subst ev eH
    exact hs i k u T H ek nT p
  · subst e
    exact .inl ⟨⟨q, Nat.le_refl _⟩, hd H p⟩
def GoodW (tb : List (Str × Str)) : Prop := (∀ p ∈ tb, nameB (.str p.1) = true ∧ nameB (.str p.2) = true) ∧ tb.length ≤ 1000
/-- a watch stands at p -/
def WatchAt (D : Addr) (H : Hp) (p : Addr) (tb : List (Str × Str)) : Prop := ∃ dx d, H p = some (.ins D dx [("_sights", .ref d)]) ∧ H d = some (.dK (fkv tb))
theorem WatchAt.mono {D : Addr} {H H' : Hp} {p : Addr} {tb : List (Str × Str)} (h : WatchAt D H p tb) (s : Same H H') : WatchAt D H' p tb := by
  obtain ⟨dx, d, h1, h2⟩ := h
  exact ⟨dx, d, s _ _ h1, s _ _ h2⟩
def sp_is_sights (_ : PySem.W.Frag) : Sp := fun vs H Q _ => ∃ (d : Addr) (tb : List (Str × Str)), vs = [.ref d] ∧ H d = some (.dK (fkv tb)) ∧ GoodW tb ∧ ∀ H', Same H H' → Q (.bl true) H'
def sp_Watch_init (_ : PySem.W.Frag) (D : Addr) : Sp := fun vs H Q _ => ∃ (p dx d : Addr) (tb : List (Str × Str)), vs = [.ref p, .ref d] ∧ H p = some (.ins D dx []) ∧ H d = some (.dK (fkv tb)) ∧ GoodW tb ∧ ∀ H', (∀ b o, H b = some o → b ≠ p → H' b = some o) → WatchAt D H' p tb → Q .non H'
def optV : Option Str → V
  | some z => .str z
  | none => .non
def sp_Watch_getitem (_ : PySem.W.Frag) (D : Addr) : Sp := fun vs H Q _ => ∃ (p : Addr) (tb : List (Str × Str)) (z : Str), vs = [.ref p, .str z] ∧ WatchAt D H p tb ∧ nameB (.str z) = true ∧ ∀ H', Same H H' → Q (optV (look tb z)) H'
theorem ok_is_sights {f : Addr} {C D S : Addr} {fd : FuncData} (T : Txt K mg C D S) (F : Fun K "is_sights" "is_sights" s_is_sights f fd) (c_is_name : Cal P w K mg base 1 "is_name" (sp_is_name K) []) : FnOk P w K mg base CX0 2 f fd ["value"] (sp_is_sights K) := by
  have nd := sc_is_sights.nd
  refine F.ok sc_is_sights (fun vs H Q E h => ?_) (fun cdv A outer s H vs Q E hr h => ?_)
  · obtain ⟨d, tb, rfl, _⟩ := h
    rfl
  · obtain ⟨d, tb, rfl, hd, gw, q⟩ := h
    refine ⟨_, (pss_cons (ps_if (pt_not (pt_val (pe_callB call_isi (by rfl) T.m_isinstance (by decide +kernel) (pa_cons (pv 0) (pa_cons (pe_bltn (v := .ty "dict") (u := .type "dict") (by rfl) T.m_dict (by decide +kernel) rfl) pa_nil))))) (pss_one (ps_ret pe_bl)) pss_nil)
      (pss_one (ps_ret (pe_callB (cr_all rfl) (by rfl) T.m_all (by decide +kernel) (pa_cons (pe_lock (pe_lc (own := [("word", 1), ("sight", 2)]) (g := gTup K 2 (gCons (gName 1) (gCons (gName 2) gNil))) (tt := tYes) rfl nd (pi_items (pv 0)) (blkOk_by (N := ["value", "word", "sight"]) (sc := defScope s_is_sights) (by decide +kernel)) (fun _ _ _ _ _ => (pg_tup (by rfl) (pgs_cons (pg_name (i := 1) nd rfl (.inl rfl)) (pgs_cons (pg_name (i := 2) nd rfl (.inl rfl)) pgs_nil)))) (fun _ _ _ _ _ => pts_nil) (fun _ _ _ _ _ => (pe_and (pe_c c_is_name hr (by omega) (by rfl) (pa_cons (pv 1) pa_nil)) (pe_one (pe_c c_is_name hr (by omega) (by rfl) (pa_cons (pv 2) pa_nil))))))) pa_nil))))), ?_⟩
    refine ⟨.ref d, rfl, .ref d, .ty "dict", _, _, true, rfl, .ty _, .base (.dK hd), kit_ty (show kitB "dict" "dict" = some true by decide +kernel), _, rfl, iteF ?_⟩
    refine ⟨d, .dK (fkv tb), hd, trivial, fun od => ?_⟩
    have back : ∀ {H' : Hp}, (∀ b o, b ≠ d → H b = some o → H' b = some o) → Same H (upd H' d (.dK (fkv tb))) := fun k b o e => by
      by_cases z : b = d
      · rw [z] at e ⊢
        rw [hd] at e
        cases e
        exact upd_same
      · rw [upd_ne z]; exact k b o z e
    refine ⟨.ref d, rfl, d, od, fkv tb, rfl, upd_same, fun LD nD => ?_⟩
    have nDd : LD ≠ d := fun z => by rw [z, upd_same] at nD; cases nD
    refine lc_items (fun i H' => H' d = some (.frz od (.dK (fkv tb))) ∧ (∀ b o, b ≠ d → H b = some o → H' b = some o) ∧ H' LD = some (.lst ((List.replicate i true).map V.bl))) ⟨(upd_ne nDd.symm).trans upd_same, fun b o z e => (upd_ne (fun q => by rw [q] at e; rw [upd_ne nDd] at nD; rw [nD] at e; cases e)).trans ((upd_ne z).trans e), upd_same⟩ (fun i H' _ hP => hP.1) (fun i k v T H' hx nT hP => ?_) (fun H' hP => ?_)
    · obtain ⟨p1, p2, p3⟩ := hP
      obtain ⟨x, y, gx, rfl, rfl⟩ := fkv_get hx
      obtain ⟨g1, g2⟩ := gw.1 _ (List.mem_of_getElem? gx)
      have hi : i < tb.length := (List.getElem?_eq_some_iff.mp gx).1
      have lw := gw.2
      have sT := same_upd (o := .tup [.str x, .str y]) nT
      have p1' := sT _ _ p1
      have p3' := sT _ _ p3
      have p2' : ∀ b o, b ≠ d → H b = some o → (upd H' T (.tup [.str x, .str y])) b = some o := fun b o z e => sT _ _ (p2 b o z e)
      have eT : (upd H' T (.tup [.str x, .str y])) T = some (.tup [.str x, .str y]) := upd_same
      show gTup _ _ _ _ _ (upd H' T (.tup [.str x, .str y])) _
      generalize upd H' T (.tup [.str x, .str y]) = H2 at p1' p2' p3' eT ⊢
      refine ⟨T, _, rfl, .inl (.inl eT), rfl, .str x, _, rfl, .str y, _, rfl, rfl, rfl, ?_⟩
      unfold tYes
      refine iteT ?_
      have hx2 : x.cps.size ≤ 12 := (name_size g1).2
      have hy2 : y.cps.size ≤ 12 := (name_size g2).2
      refine ⟨.str x, rfl, .str x, rfl, .str x (by omega), fun H3 s3 => ⟨nameB (.str x), rfl, ?_⟩⟩
      rw [g1]
      refine iteT ⟨.str y, rfl, .str y, rfl, .str y (by omega), fun H4 s4 => ?_⟩
      rw [g2]
      have k34 := s3.trans s4
      have nDd2 := nDd
      have nD0 : H LD = none := by rwa [upd_ne nDd] at nD
      refine ⟨_, k34 _ _ p3', small (by rw [List.length_map, List.length_replicate]; omega), (upd_ne nDd.symm).trans (k34 _ _ p1'), fun b o z e => (upd_ne (ne_of_none e nD0)).trans (k34 _ _ (p2' b o z e)), ?_⟩
      rw [upd_same, List.replicate_succ', List.map_append]
      rfl
    · obtain ⟨p1, p2, p3⟩ := hP
      refine ⟨p1, LD, List.replicate tb.length true, rfl, .inl (.inl ((upd_ne nDd).trans (by rw [p3]; unfold fkv; rw [List.length_map]))), ?_⟩
      have e : (List.replicate tb.length true).all id = true := by simp
      rw [e]
      exact q _ (back p2)
theorem ok_Watch_init {f : Addr} {C D S : Addr} {fd : FuncData} (T : Txt K mg C D S) (F : KnD.FunX K "__init__" "Watch.__init__" s_Watch_init f fd) (c_is_sights : Cal P w K mg base 2 "is_sights" (sp_is_sights K) []) : FnOk P w K mg base CX0 3 f fd ["self", "sights"] (sp_Watch_init K D) := by
  have nd := sc_Watch_init.nd
  refine F.ok sc_Watch_init (fun vs H Q E h => ?_) (fun cdv A outer s H vs Q E hr h => ?_)
  · obtain ⟨p, dx, d, tb, rfl, _⟩ := h
    rfl
  · obtain ⟨p, dx, d, tb, rfl, hp, hd, gw, q⟩ := h
    refine ⟨_, (pss_one (ps_if (pt_cmpR op_isN (pv 1) pe_non (nomark _)) (pss_one (ps_fld (pv 0) pe_dnewK rfl)) (pss_one (ps_if (pt_val (pe_c c_is_sights hr (by omega) (by rfl) (pa_cons (pv 1) pa_nil))) (pss_one (ps_fld (pv 0) (pe_callTy call_dictD (by rfl) T.m_dict (by decide +kernel) (pa_cons (pv 1) pa_nil)) rfl)) (pss_one ps_never))))), ?_⟩
    refine ⟨.ref d, rfl, rfl, _, rfl, iteF ?_⟩
    refine ⟨.ref d, rfl, d, tb, rfl, hd, gw, fun H1 s1 => ⟨_, rfl, iteT ?_⟩⟩
    refine ⟨.ref d, rfl, d, _, rfl, .inl (s1 _ _ hd), fun d2 n2 => ?_⟩
    have s2 := s1.trans (same_upd (o := .dK (fkv tb)) n2)
    have npd : d2 ≠ p := fun z => by rw [z, s1 _ _ hp] at n2; cases n2
    refine ⟨.ref p, rfl, p, D, dx, [], rfl, s2 _ _ hp, T.cl_Watch, T.n__sights, by decide, ?_⟩
    refine q _ (fun b o e ne => (upd_ne ne).trans (s2 _ _ e)) ⟨dx, d2, upd_same, (upd_ne npd).trans upd_same⟩
theorem ok_Watch_getitem {f : Addr} {C D S : Addr} {fd : FuncData} (T : Txt K mg C D S) (F : Fun K "__getitem__" "Watch.__getitem__" s_Watch_getitem f fd) (c_is_name : Cal P w K mg base 1 "is_name" (sp_is_name K) []) : FnOk P w K mg base CX0 2 f fd ["self", "at"] (sp_Watch_getitem K D) := by
  have nd := sc_Watch_getitem.nd
  refine F.ok sc_Watch_getitem (fun vs H Q E h => ?_) (fun cdv A outer s H vs Q E hr h => ?_)
  · obtain ⟨p, tb, z, rfl, _⟩ := h
    rfl
  · obtain ⟨p, tb, z, rfl, ⟨dx, d, hp, hd⟩, hz, q⟩ := h
    refine ⟨_, (pss_cons (ps_if (pt_not (pt_val (pe_c c_is_name hr (by omega) (by rfl) (pa_cons (pv 1) pa_nil)))) (pss_one ps_never) pss_nil)
      (pss_one (ps_ret (pe_dget1 (hu_of hr) (pe_fld (pv 0) rfl) (pv 1) ⟨rfl, rfl, rfl, rfl⟩)))), ?_⟩
    have lz := (name_size hz).2
    refine ⟨.str z, rfl, .str z, rfl, .str z (by omega), fun H1 s1 => ⟨_, rfl, ?_⟩⟩
    rw [hz]
    refine iteF ?_
    have S := s1
    refine ⟨.ref p, rfl, p, D, dx, _, .ref d, rfl, S _ _ hp, T.cl_Watch, T.n__sights, by simp [List.lookup], ?_⟩
    have eq : (look tb z).map V.str = none ∨ ∃ y, look tb z = some y := by cases look tb z; exact .inl rfl; exact .inr ⟨_, rfl⟩
    have dg : DGet H1 d (.str z) (valV (fkv tb) (.inr z)) := DGet.k (k := .inr z) (S _ _ hd)
    rw [look_val] at dg
    refine ⟨d, rfl, .inl ⟨_, .inl (S _ _ hd)⟩, .str z, rfl, _, dg, ?_⟩
    have q1 := q H1 S
    cases e : look tb z with
    | none => rw [e] at q1; exact q1
    | some y => rw [e] at q1; exact q1

def sx_check_watch (K : PySem.W.Frag) (D : Addr) (ce : Es) : Sp := fun vs H Q E => ∃ x, vs = [x] ∧ ((∃ p tb, x = .ref p ∧ WatchAt D H p tb ∧ Q .non H) ∨ ∃ t, TyOf K H x t ∧ PySem.W.kitOne K t (.ref D) = some false ∧ ∀ d, H d = none → E (.ref ce.BadWatch) (some d) (upd H d (.xd [("value", x)])))
theorem ok_check_watch {f : Addr} {C D S : Addr} {ce : Es} {fd : FuncData} (T : Txt K mg C D S) (F : Fun K "check_watch" "check_watch" s_check_watch f fd) (c_BadWatch : KnX.Err P w K mg base 1 "BadWatch" ce.BadWatch "value")  : FnOk P w K mg base (L2.CX P w) 3 f fd ["watch"] (sx_check_watch K D ce) := by
  have nd := sc_check_watch.nd
  refine F.okX sc_check_watch (fun vs H Q E h => ?_) (fun cdv A outer s H vs Q E hr h => ?_)
  · obtain ⟨x, rfl, _⟩ := h
    rfl
  · obtain ⟨x, rfl, alt⟩ := h
    refine ⟨_, (pss_one (ps_if (pt_not (pt_val (pe_callB call_isi (by rfl) T.m_isinstance (by decide +kernel) (pa_cons (pv 0) (pa_cons (pe_glob (v := .ref D) (by rfl) T.g_Watch rfl) pa_nil))))) (pss_one (KnX.ps_err rfl (takes_of rfl rfl rfl rfl) c_BadWatch hr (by omega) (by rfl) (pa_cons (pv 0) pa_nil))) pss_nil)), ?_⟩
    rcases alt with ⟨p, tb, rfl, ⟨dx, d, hp, hd⟩, q⟩ | ⟨t, ty, kit, q⟩
    · exact ⟨.ref p, rfl, .ref p, .ref D, .ref D, _, true, rfl, .own D, .base (.ins hp T.cl_Watch T.ins_Watch.ha T.ins_Watch.hn T.ins_Watch.htk T.ins_Watch.hm), T.ins_Watch.me, _, rfl, iteF q⟩
    · exact ⟨x, rfl, x, .ref D, t, _, false, rfl, .own D, .base ty, kit, _, rfl, iteT ⟨x, rfl, KnX.mk_err fun d nd' => q d nd'⟩⟩

/-! ### rows -/
def ltS (a b : Str) : Prop := a.cps.toList < b.cps.toList
structure GoodRow (i : Int) (zs : List Str) : Prop where
  st : stateB (.int i) = true
  few : zs.length ≤ 3
  nm : ∀ z ∈ zs, nameB (.str z) = true
  up : zs.Pairwise ltS
def rk (i : Int) (zs : List Str) : NestedKey := .tup [.num i, .tup (zs.map NestedKey.text)]
theorem slA_use {K : PySem.W.Frag} {x : V} {lo hi : Option Int} {H : Hp} {Q : VK} (a : Addr) (xs : List V) (hx : x = .ref a) (ea : H a = some (.tup xs)) (h : ∀ b H1, Same H H1 → H1 b = some (.tup (cutV xs lo hi)) → Q (.ref b) H1) : rSlA K x lo hi H Q := by
  refine ⟨a, xs, hx, .inl (.inl ea), fun w => h a H (Same.refl H) ?_, fun _ p np => h p _ (same_upd np) upd_same⟩
  have e : cutV xs lo hi = xs := by
    unfold cutV
    rw [w.1, w.2, List.drop_zero, Nat.sub_zero, List.take_length]
  rw [e]; exact ea
/-! ### the whole row, the probes -/
def Rows (H : Hp) (vs : List V) (st : V → Int) (fa : V → List Str) : Prop := ∀ v ∈ vs, KnA.RowAt H v (st v) (fa v) ∧ GoodRow (st v) (fa v)
theorem Rows.mono {H H' : Hp} {vs : List V} {st : V → Int} {fa : V → List Str} (h : Rows H vs st fa) (s : Same H H') : Rows H' vs st fa := fun v hv => ⟨(h v hv).1.ext fun a vs e => s _ _ e, (h v hv).2⟩
theorem texts_nall {H : Hp} : ∀ zs : List Str, KnN.NAll H (zs.map NestedKey.text) (zs.map V.str)
  | [] => .nil
  | z :: zs => .cons (.text z) (texts_nall zs)
theorem row_nis {H : Hp} {x : V} {i : Int} {zs : List Str} (h : KnA.RowAt H x i zs) : ∃ t, x = .ref t ∧ KnN.NIs H (rk i zs) (.ref t) := by
  obtain ⟨t, f, e, h1, h2⟩ := h
  exact ⟨t, e, .tup h1 (.cons (.int i) (.cons (.tup h2 (texts_nall zs)) .nil))⟩
theorem texts_depth : ∀ zs : List Str, NestedKey.depthAll (zs.map NestedKey.text) = 0
  | [] => rfl
  | z :: zs => by rw [List.map_cons]; show max 0 (NestedKey.depthAll (zs.map NestedKey.text)) = 0; rw [texts_depth zs]; rfl
theorem rk_depth (i : Int) (zs : List Str) : (rk i zs).depth ≤ 8 := by
  show max 0 (max (NestedKey.depthAll (zs.map NestedKey.text) + 1) 0) + 1 ≤ 8
  rw [texts_depth]; decide
theorem text_inj : ∀ {xs ys : List Str}, xs.map NestedKey.text = ys.map NestedKey.text → xs = ys
  | [], [], _ => rfl
  | [], _ :: _, h => by cases h
  | _ :: _, [], h => by cases h
  | x :: xs, y :: ys, h => by
    rw [List.map_cons, List.map_cons] at h
    obtain ⟨a, b⟩ := List.cons.inj h
    rw [NestedKey.text.inj a, text_inj b]
theorem rk_inj {i j : Int} {xs ys : List Str} (h : rk i xs = rk j ys) : i = j ∧ xs = ys := by
  have h1 := NestedKey.tup.inj h
  obtain ⟨a, b⟩ := List.cons.inj h1
  obtain ⟨c, _⟩ := List.cons.inj b
  exact ⟨NestedKey.num.inj a, text_inj (NestedKey.tup.inj c)⟩
def keysR (st : V → Int) (fa : V → List Str) (vs : List V) : List NestedKey := vs.map fun v => rk (st v) (fa v)
theorem valN_in {κ : Type} [DecidableEq κ] {kvs : List (κ × V)} {k : κ} : (valV kvs k).isSome = true ↔ k ∈ kvs.map (·.1) := by
  rw [← valV_any, List.any_eq_true]
  constructor
  · rintro ⟨p, hp, e⟩
    exact List.mem_map.mpr ⟨p, hp, of_decide_eq_true e⟩
  · intro h
    obtain ⟨p, hp, e⟩ := List.mem_map.mp h
    exact ⟨p, hp, decide_eq_true e⟩
theorem putK_new {κ : Type} [DecidableEq κ] {kvs : List (κ × V)} {k : κ} {v : V} (h : k ∉ kvs.map (·.1)) : putK kvs k v = kvs ++ [(k, v)] := by
  unfold putK
  rw [valV_any, if_neg (fun z => h (valN_in.mp z))]

theorem lt_cps : ∀ {a b : List Nat}, ltCps a b = true → a < b
  | [], [], h => by cases h
  | [], y :: t, _ => List.nil_lt_cons y t
  | _ :: _, [], h => by cases h
  | x :: r, y :: t, h => by
    have h' : (decide (x < y) || (x == y && ltCps r t)) = true := h
    rw [Bool.or_eq_true, decide_eq_true_eq, Bool.and_eq_true, beq_iff_eq] at h'
    exact List.cons_lt_cons_iff.mpr (h'.elim .inl fun q => .inr ⟨q.1, lt_cps q.2⟩)
theorem ltS_of {a b : Str} (h : KnA.leS a b) (n : a ≠ b) : ltS a b := by
  refine lt_cps ?_
  cases e : ltCps a.cps.toList b.cps.toList with
  | true => rfl
  | false => exact (n (KnA.str_ext (KnA.le_anti h e))).elim
theorem lt_of_sorted {ns : List Str} (h : sortedS ns = true) (nd : ns.Nodup) : ns.Pairwise ltS := List.Pairwise.imp₂ (fun a b h n => ltS_of h n) (KnA.sorted_pair h) nd
def rd (p : Int × List Str) : PyData := KnA.rowD p
theorem strs_eqv : ∀ (xs ys : List Str), PyData.eqvAll (xs.map PyData.str) (ys.map PyData.str) = decide (xs = ys)
  | [], [] => rfl
  | [], _ :: _ => rfl
  | _ :: _, [] => rfl
  | x :: xs, y :: ys => by
    show ((x == y) && PyData.eqvAll (xs.map PyData.str) (ys.map PyData.str)) = _
    rw [strs_eqv xs ys]
    by_cases e1 : x = y <;> by_cases e2 : xs = ys <;> simp [e1, e2]
theorem rowD_eqv (p q : Int × List Str) : PyData.eqv (KnA.rowD p) (KnA.rowD q) = decide (p = q) := by
  obtain ⟨i, xs⟩ := p
  obtain ⟨j, ys⟩ := q
  show ((i == j) && (PyData.eqvAll (xs.map PyData.str) (ys.map PyData.str) && true)) = _
  rw [strs_eqv]
  by_cases e1 : i = j <;> by_cases e2 : xs = ys <;> simp [e1, e2]
theorem rowD_any (ps : List (Int × List Str)) (q : Int × List Str) : ((ps.map KnA.rowD).any fun z => PyData.eqv z (KnA.rowD q)) = decide (q ∈ ps) := by
  induction ps with
  | nil => rfl
  | cons y r ih =>
    rw [List.map_cons, List.any_cons, ih, rowD_eqv]
    by_cases e : y = q
    · subst e; simp
    · have e' : ¬ q = y := fun z => e z.symm
      simp [e, e']
theorem dp_strs {K : PySem.W.Frag} {H : Hp} : ∀ zs : List Str, DpAll K H (zs.map V.str) (zs.map PyData.str)
  | [] => .nil
  | z :: r => .cons (.str z) (dp_strs r)
theorem dp_row {K : PySem.W.Frag} {H : Hp} {x : V} {i : Int} {zs : List Str} (h : KnA.RowAt H x i zs) : Dp K H x (KnA.rowD (i, zs)) := by
  obtain ⟨t, f, rfl, h1, h2⟩ := h
  exact .tup (.inl (.inl h1)) (.cons (.int i) (.cons (.tup (.inl (.inl h2)) (dp_strs zs)) .nil))
theorem dp_rows {K : PySem.W.Frag} {H : Hp} {st : V → Int} {fa : V → List Str} : ∀ {vs : List V}, Rows H vs st fa → DpAll K H vs (vs.map fun v => KnA.rowD (st v, fa v))
  | [], _ => .nil
  | v :: vs, h => .cons (dp_row (h v List.mem_cons_self).1) (dp_rows fun u hu => h u (List.mem_cons_of_mem _ hu))
theorem texts_lay {zs : List Str} (h : ∀ z ∈ zs, nameB (.str z) = true) : PyData.canLayAll0 (zs.map PyData.str) = true := by
  induction zs with
  | nil => rfl
  | cons x r ih =>
    show (PyData.strOk x && PyData.canLayAll0 (r.map PyData.str)) = true
    rw [strOk_name (h x List.mem_cons_self), ih fun y hy => h y (List.mem_cons_of_mem _ hy)]; rfl
theorem rowD_lay {i : Int} {zs : List Str} (h : ∀ z ∈ zs, nameB (.str z) = true) : (KnA.rowD (i, zs)).canLay0 = true ∧ (KnA.rowD (i, zs)).depth = 2 := by
  refine ⟨?_, ?_⟩
  · show (true && (PyData.canLayAll0 (zs.map PyData.str) && true)) = true
    rw [texts_lay h]; rfl
  · show max 0 (max (PyData.depthAll (zs.map PyData.str) + 1) 0) + 1 = 2
    rw [KnA.depth_texts]; rfl
theorem rowD_shaped {i : Int} {zs : List Str} (h : ∀ z ∈ zs, nameB (.str z) = true) : SeqAt.shaped (KnA.rowD (i, zs)) = true := by
  obtain ⟨a, b⟩ := rowD_lay (i := i) h
  unfold SeqAt.shaped
  rw [a, b]; rfl
theorem rowDs_lay {ps : List (Int × List Str)} (h : ∀ p ∈ ps, ∀ z ∈ p.2, nameB (.str z) = true) : PyData.canLayAll0 (ps.map KnA.rowD) = true ∧ PyData.depthAll (ps.map KnA.rowD) ≤ 2 := by
  induction ps with
  | nil => exact ⟨rfl, Nat.zero_le _⟩
  | cons x r ih =>
    obtain ⟨a, b⟩ := ih fun y hy => h y (List.mem_cons_of_mem _ hy)
    obtain ⟨c, d⟩ := rowD_lay (i := x.1) (h x List.mem_cons_self)
    refine ⟨?_, ?_⟩
    · show ((KnA.rowD x).canLay0 && PyData.canLayAll0 (r.map KnA.rowD)) = true
      rw [show (KnA.rowD x).canLay0 = true from c, a]; rfl
    · show max (KnA.rowD x).depth (PyData.depthAll (r.map KnA.rowD)) ≤ 2
      rw [show (KnA.rowD x).depth = 2 from d]; omega
theorem rowDs_shaped {ps : List (Int × List Str)} (h : ∀ p ∈ ps, ∀ z ∈ p.2, nameB (.str z) = true) : SeqAt.shaped (.list (ps.map KnA.rowD)) = true := by
  obtain ⟨a, b⟩ := rowDs_lay h
  unfold SeqAt.shaped
  have h2 : (PyData.list (ps.map KnA.rowD)).canLay0 = true := a
  have h3 : (PyData.list (ps.map KnA.rowD)).depth ≤ 64 := by
    show PyData.depthAll (ps.map KnA.rowD) + 1 ≤ 64
    omega
  rw [h2, decide_eq_true h3]; rfl

/-! ### made -/
def plK (st : V → Int) (fa : V → List Str) (k : Nat) (ys : List V) : List (NestedKey × V) := match ys with
  | [] => []
  | x :: r => (rk (st x) (fa x), .int (k : Int)) :: plK st fa (k + 1) r
theorem plK_keys (st : V → Int) (fa : V → List Str) : ∀ (ys : List V) (k : Nat), (plK st fa k ys).map (·.1) = keysR st fa ys
  | [], _ => rfl
  | x :: r, k => by
    show rk (st x) (fa x) :: (plK st fa (k + 1) r).map (·.1) = rk (st x) (fa x) :: keysR st fa r
    rw [plK_keys st fa r (k + 1)]
theorem plK_snoc (st : V → Int) (fa : V → List Str) (x : V) : ∀ (ys : List V) (k : Nat), plK st fa k (ys ++ [x]) = plK st fa k ys ++ [(rk (st x) (fa x), .int ((k + ys.length : Nat) : Int))]
  | [], k => rfl
  | y :: r, k => by
    show (rk (st y) (fa y), V.int (k : Int)) :: plK st fa (k + 1) (r ++ [x]) = (rk (st y) (fa y), V.int (k : Int)) :: plK st fa (k + 1) r ++ _
    rw [plK_snoc st fa x r (k + 1), List.cons_append, List.length_cons, show k + 1 + r.length = k + (r.length + 1) by omega]
theorem valN_mem : ∀ {kvs : List (NestedKey × V)} {k : NestedKey} {v : V}, (kvs.map (·.1)).Nodup → (k, v) ∈ kvs → valV kvs k = some v
  | [], _, _, _, h => nomatch h
  | p :: r, k, v, nd, h => by
    rw [List.map_cons] at nd
    obtain ⟨a, b⟩ := List.nodup_cons.mp nd
    rcases List.mem_cons.mp h with e | h
    · rw [← e]; exact valV_pos (p := (k, v)) rfl
    · rw [valV_neg fun e => a (e ▸ List.mem_map.mpr ⟨_, h, rfl⟩)]
      exact valN_mem b h
theorem plK_mem (st : V → Int) (fa : V → List Str) : ∀ {ys : List V} {k i : Nat} {x : V}, ys[i]? = some x → (rk (st x) (fa x), V.int ((k + i : Nat) : Int)) ∈ plK st fa k ys
  | [], _, _, _, h => by cases h
  | y :: r, k, 0, x, h => by
    rw [← Option.some.inj h]
    exact List.mem_cons_self
  | y :: r, k, i + 1, x, h => by
    have := plK_mem st fa (k := k + 1) (i := i) (show r[i]? = some x from h)
    rw [show k + 1 + i = k + (i + 1) by omega] at this
    exact List.mem_cons_of_mem _ this
theorem ys_nd {st : V → Int} {fa : V → List Str} {ys : List V} (h : (keysR st fa ys).Nodup) : ys.Nodup := List.Pairwise.of_map (S := fun a b => a ≠ b) _ (fun a b n e => n (congrArg (fun v => rk (st v) (fa v)) e)) h
def IsSet (m : Nat) (ys zs : List V) : Prop := ∀ i, m.testBit i = true ↔ ∃ x, ys[i]? = some x ∧ x ∈ zs
def IsSetD (st : V → Int) (fa : V → List Str) (m : Nat) (ys : List V) (ds : List KnA.Dat) : Prop := ∀ i, m.testBit i = true ↔ ∃ x, ys[i]? = some x ∧ (st x, fa x) ∈ ds
def RowsP (H : Hp) (zs : List V) (ds : List KnA.Dat) : Prop := Paired (fun v d => KnA.RowAt H v d.1 d.2) zs ds
theorem RowsP.ext {H H' : Hp} (k : ∀ t xs, H t = some (.tup xs) → H' t = some (.tup xs)) {zs : List V} {ds : List KnA.Dat} (h : RowsP H zs ds) : RowsP H' zs ds := by
  unfold RowsP at h ⊢
  induction h with
  | nil => exact .nil
  | cons a _ ih => exact .cons (a.ext k) ih
theorem RowsP.of {H : Hp} {st : V → Int} {fa : V → List Str} : ∀ {zs : List V}, Rows H zs st fa → RowsP H zs (zs.map fun v => (st v, fa v))
  | [], _ => .nil
  | z :: zs, h => .cons (h z List.mem_cons_self).1 (RowsP.of fun v hv => h v (List.mem_cons_of_mem _ hv))
theorem dat_key {st : V → Int} {fa : V → List Str} : ∀ {bs : List V}, (keysR st fa bs).Nodup → ∀ a ∈ bs, ∀ b ∈ bs, (st a, fa a) = (st b, fa b) → a = b
  | [], _, a, ha, _, _, _ => nomatch ha
  | x :: r, nd, a, ha, b, hb, e => by
    obtain ⟨n1, n2⟩ := List.nodup_cons.mp (show (rk (st x) (fa x) :: keysR st fa r).Nodup from nd)
    have e1 : rk (st a) (fa a) = rk (st b) (fa b) := by rw [(Prod.mk.inj e).1, (Prod.mk.inj e).2]
    rcases List.mem_cons.mp ha with ea | ha <;> rcases List.mem_cons.mp hb with eb | hb
    · rw [ea, eb]
    · rw [ea] at e1; exact (n1 (e1 ▸ List.mem_map.mpr ⟨b, hb, rfl⟩)).elim
    · rw [eb] at e1; exact (n1 (e1 ▸ List.mem_map.mpr ⟨a, ha, rfl⟩)).elim
    · exact dat_key n2 a ha b hb e
theorem one_shl (n : Nat) : (1 : Int) * 2 ^ ((n : Nat) : Int).toNat - 1 = ((2 ^ n - 1 : Nat) : Int) := by
  rw [Int.one_mul, Int.toNat_natCast]
  have : 1 ≤ 2 ^ n := Nat.one_le_two_pow
  have e : ((2 ^ n : Nat) : Int) = (2 : Int) ^ n := by push_cast; rfl
  omega

/-! ### small defs -/
def sp_Watch_contains (K : PySem.W.Frag) (D : Addr) : Sp := fun vs H Q _ => ∃ (p : Addr) (tb : List (Str × Str)) (z : Str), vs = [.ref p, .str z] ∧ WatchAt D H p tb ∧ nameB (.str z) = true ∧ ∀ H', Same H H' → Q (.bl (look tb z).isSome) H'
theorem ok_Watch_contains {f : Addr} {C D S : Addr} {fd : FuncData} (T : Txt K mg C D S) (F : Fun K "__contains__" "Watch.__contains__" s_Watch_contains f fd) (c_is_name : Cal P w K mg base 1 "is_name" (sp_is_name K) []) : FnOk P w K mg base CX0 2 f fd ["self", "x"] (sp_Watch_contains K D) := by
  have nd := sc_Watch_contains.nd
  refine F.ok sc_Watch_contains (fun vs H Q E h => ?_) (fun cdv A outer s H vs Q E hr h => ?_)
  · obtain ⟨p, tb, z, rfl, _⟩ := h
    rfl
  · obtain ⟨p, tb, z, rfl, ⟨dx, d, hp, hd⟩, hz, q⟩ := h
    refine ⟨_, (pss_one (ps_ret (pe_and (pe_c c_is_name hr (by omega) (by rfl) (pa_cons (pv 1) pa_nil)) (pe_one (pe_cmp (pc_din (hu_of hr) (pv 1) (pe_fld (pv 0) rfl)) rfl))))), ?_⟩
    have lz := (name_size hz).2
    refine ⟨.str z, rfl, .str z, rfl, .str z (by omega), fun H1 s1 => ⟨nameB (.str z), rfl, ?_⟩⟩
    rw [hz]
    refine iteT ?_
    have dg : DGet H1 d (.str z) (valV (fkv tb) (.inr z)) := DGet.k (k := .inr z) (s1 _ _ hd)
    refine ⟨.str z, rfl, .ref p, rfl, p, D, dx, _, .ref d, rfl, s1 _ _ hp, T.cl_Watch, T.n__sights, by simp [List.lookup], d, _, rfl, dg, ?_⟩
    rw [look_val, show ((look tb z).map V.str).isSome = (look tb z).isSome by cases look tb z <;> rfl]
    exact q H1 s1
def sp_with_fault (_ : PySem.W.Frag) : Sp := fun vs H Q _ => ∃ (t n : Addr) (o : Option Str) (D names : List Str), vs = [.ref t, optV o, .ref n] ∧ H t = some (.tup (D.map V.str)) ∧ H n = some (.lst (names.map V.str)) ∧ KnA.Words D D ∧ D.length ≤ 40 ∧ (∀ f, o = some f → f ∈ names) ∧
  ∀ H' p, Same H H' → H' p = some (.tup ((addF D o).map V.str)) → Q (.ref p) H'
theorem inV_non (ws : List Str) : inV .non (ws.map V.str) = false := by
  unfold inV
  rw [List.any_eq_false]
  intro x hx
  obtain ⟨z, _, rfl⟩ := List.mem_map.mp hx
  exact Bool.false_ne_true
theorem ok_with_fault {f : Addr} {C D S : Addr} {fd : FuncData} (T : Txt K mg C D S) (F : Fun K "with_fault" "with_fault" s_with_fault f fd)  : FnOk P w K mg base CX0 1 f fd ["done", "fault", "names"] (sp_with_fault K) := by
  have nd := sc_with_fault.nd
  refine F.ok sc_with_fault (fun vs H Q E h => ?_) (fun cdv A outer s H vs Q E hr h => ?_)
  · obtain ⟨t, n, o, D, names, rfl, _⟩ := h
    rfl
  · obtain ⟨t, n, o, D, names, rfl, ht, hn, wD, lD, ho, q⟩ := h
    refine ⟨_, (pss_cons (ps_if (PW.pt (pw_or (pt_cmpR op_notIn_seq (pv 1) (pv 2) (by with_unfolding_all rfl)) (pw_or1 (pt_cmpR op_in_seq (pv 1) (pv 0) (by with_unfolding_all rfl))))) (pss_one (ps_ret (pv 0))) pss_nil)
      (pss_one (ps_ret (pe_callTy call_tuple_of (by rfl) T.m_tuple (by decide +kernel) (pa_cons (pe_callB cr_sortedS (by rfl) T.m_sorted (by decide +kernel) (pa_cons (pe_op op_cat (pe_callTy call_list_of (by rfl) T.m_list (by decide +kernel) (pa_cons (pv 0) pa_nil)) (pe_lst (pa_cons (pv 1) pa_nil))) pa_nil)) pa_nil))))), ?_⟩
    cases o with
    | none =>
      refine ⟨.non, rfl, .ref n, rfl, n, names.map V.str, rfl, .inl (.inl (.inl hn)), rfl, flat_ws _, _, rfl, ?_⟩
      rw [inV_non]
      exact iteT ⟨.ref t, rfl, q H t (Same.refl H) ht⟩
    | some f =>
      have mf := ho f rfl
      refine ⟨.str f, rfl, .ref n, rfl, n, names.map V.str, rfl, .inl (.inl (.inl hn)), rfl, flat_ws _, _, rfl, ?_⟩
      rw [inV_strs, decide_eq_true mf]
      refine iteF ⟨.str f, rfl, .ref t, rfl, t, D.map V.str, rfl, .inr (.inl (.inl ht)), rfl, flat_ws _, _, rfl, ?_⟩
      rw [inV_strs]
      by_cases m : f ∈ D
      · rw [decide_eq_true m]
        refine iteT ⟨.ref t, rfl, q H t (Same.refl H) ?_⟩
        rw [show addF D (some f) = D from if_pos m]; exact ht
      · rw [decide_eq_false m]
        refine iteF ⟨.ref t, rfl, t, D.map V.str, rfl, .inr (.inl (.inl ht)), fun p1 n1 => ?_⟩
        have s1 := same_upd (o := .lst (D.map V.str)) n1
        have e1 : (upd H p1 (.lst (D.map V.str))) p1 = some (.lst (D.map V.str)) := upd_same
        generalize upd H p1 (.lst (D.map V.str)) = H1 at s1 e1 ⊢
        refine ⟨.str f, rfl, szl rfl, fun p2 n2 => ?_⟩
        have s2 := same_upd (o := .lst [V.str f]) n2
        have e2 : (upd H1 p2 (.lst [V.str f])) p2 = some (.lst [V.str f]) := upd_same
        show rCat _ _ (upd H1 p2 (.lst [V.str f])) _
        generalize upd H1 p2 (.lst [V.str f]) = H2 at s2 e2 ⊢
        refine ⟨p1, p2, _, _, rfl, rfl, s2 _ _ e1, e2, smallE (by rw [List.length_map]; show D.length + 1 ≤ _; omega), fun p3 n3 => ?_⟩
        have e12 : D.map V.str ++ [V.str f] = (D ++ [f]).map V.str := by rw [List.map_append]; rfl
        rw [e12]
        have s3 := same_upd (o := .lst ((D ++ [f]).map V.str)) n3
        have e3 : (upd H2 p3 (.lst ((D ++ [f]).map V.str))) p3 = some (.lst ((D ++ [f]).map V.str)) := upd_same
        generalize upd H2 p3 (.lst ((D ++ [f]).map V.str)) = H3 at s3 e3 ⊢
        refine ⟨p3, D ++ [f], rfl, .inl (.inl e3), by rw [List.length_append]; show D.length + 1 < 64; omega, fun ys p4 pm so n4 => ?_⟩
        have s4 := same_upd (o := .lst (ys.map V.str)) n4
        have e4 : (upd H3 p4 (.lst (ys.map V.str))) p4 = some (.lst (ys.map V.str)) := upd_same
        generalize upd H3 p4 (.lst (ys.map V.str)) = H4 at s4 e4 ⊢
        have nd : (D ++ [f]).Nodup := List.nodup_append.mpr ⟨wD.nd, List.pairwise_singleton _ f, fun a ha b hb e => m (List.mem_singleton.mp hb ▸ e ▸ ha)⟩
        have wy : KnA.Words ys (D ++ [f]) := ⟨KnA.sorted_pair so, pm.nodup_iff.mpr nd, fun x => pm.mem_iff⟩
        have ey : ys = addF D (some f) := by rw [show addF D (some f) = srtN (D ++ [f]) from if_neg m]; exact wy.uniq (srtN_words nd)
        refine ⟨p4, _, rfl, .inl ⟨.inl (.inl e4), fun p5 n5 => ?_⟩⟩
        refine q _ p5 (s1.trans (s2.trans (s3.trans (s4.trans (same_upd n5))))) ?_
        rw [upd_same, ey]
theorem catA_use {K : PySem.W.Frag} {x y : V} {H : Hp} {Q : VK} (a b : Addr) (xs ys : List V) (hx : x = .ref a) (hy : y = .ref b) (ea : H a = some (.tup xs)) (eb : H b = some (.tup ys)) (sz : xs.length + ys.length ≤ sizeLine)
    (h : ∀ p H', Same H H' → H' p = some (.tup (xs ++ ys)) → Q (.ref p) H') : rCatA K x y H Q :=
  ⟨a, b, xs, ys, hx, hy, .inl (.inl ea), .inl (.inl eb), sz, fun e => h b H (Same.refl H) (by rw [e]; exact eb), fun _ e => h a H (Same.refl H) (by rw [e, List.append_nil]; exact ea), fun _ _ p np => h p _ (same_upd np) upd_same⟩
def sp_parts (_ : PySem.W.Frag) : Sp := fun vs H Q _ => ∃ (l : Addr) (names : List Str), vs = [.ref l] ∧ H l = some (.lst (names.map V.str)) ∧ names.length ≤ 3 ∧
  ∀ H' p ts, Same H H' → H p = none → H' p = some (.lst ts) → Paired (fun v d => ∃ t, v = V.ref t ∧ H' t = some (.tup ((d : List Str).map V.str))) ts (partsD names) → Q (.ref p) H'
theorem ok_parts {f : Addr} {C D S : Addr} {fd : FuncData} (T : Txt K mg C D S) (F : Fun K "parts" "parts" s_parts f fd)  : FnOk P w K mg base CX0 1 f fd ["names"] (sp_parts K) := by
  have nd := sc_parts.nd
  refine F.ok sc_parts (fun vs H Q E h => ?_) (fun cdv A outer s H vs Q E hr h => ?_)
  · obtain ⟨l, names, rfl, _⟩ := h
    rfl
  · obtain ⟨l, names, rfl, hl, few, q⟩ := h
    refine ⟨_, (pss_cons (ps_set (i := 1) nd rfl (.inl rfl) (pe_lst (pa_cons (pe_tup pa_nil) pa_nil)))
      (pss_cons (ps_for PassesOwn.never rfl (pi_list (pv 0)) (pg_name (i := 2) nd rfl (.inr rfl)) (pss_one (ps_set (i := 1) nd rfl (.inl rfl) (pe_op op_cat (pv 1) (pe_lc (own := [("done", 3)]) (g := gName 3) (tt := tYes) rfl nd (pi_list (pv 1)) (blkOk_by (N := ["names", "found", "name", "done"]) (sc := defScope s_parts) (by decide +kernel)) (fun _ _ _ _ _ => (pg_name (i := 3) nd rfl (.inl rfl))) (fun _ _ _ _ _ => pts_nil) (fun _ _ _ _ _ => (pe_op (show OpR _ _ (rCatA K) from op_catA) (pv 3) (pe_tup (pa_cons (pv 2) pa_nil)))))))))
      (pss_one (ps_ret (pv 1))))), ?_⟩
    refine ⟨szl rfl, fun t0 n0 => ⟨szl rfl, fun F0 nF => ?_⟩⟩
    have s0 := same_upd (o := .tup []) n0
    have et : (upd H t0 (.tup [])) t0 = some (.tup []) := upd_same
    generalize upd H t0 (.tup []) = H0 at s0 et nF ⊢
    have s1 := same_upd (o := .lst [V.ref t0]) nF
    have eF : (upd H0 F0 (.lst [V.ref t0])) F0 = some (.lst [V.ref t0]) := upd_same
    have S1 := s0.trans s1
    have et1 := s1 _ _ et
    show Ends.nx _ _ (upd H0 F0 (.lst [V.ref t0]))
    generalize upd H0 F0 (.lst [V.ref t0]) = H1 at S1 eF et1 ⊢
    refine ⟨.ref l, rfl, l, rfl, ⟨_, .inl (.inl (S1 _ _ hl))⟩, ?_⟩
    refine for_list (K := K) (a := l) (xs := names.map V.str) (fun i σ G => ∃ (y2 : Option V) (F : Addr) (ts : List V), σ = [some (.ref l), some (.ref F), y2, none] ∧ Same H G ∧ H F = none ∧ G F = some (.lst ts) ∧ Paired (fun v d => ∃ t, v = V.ref t ∧ G t = some (.tup ((d : List Str).map V.str))) ts (partsD (names.take i)))
      ⟨none, F0, [.ref t0], rfl, S1, s0.free nF, eF, .cons ⟨t0, rfl, et1⟩ .nil⟩ (fun i σ G _ hP => .inl (.inl (hP.choose_spec.choose_spec.choose_spec.2.1 _ _ hl))) (fun i x σ G hx hP => ?_) (fun σ G hP => ?_)
    · obtain ⟨y2, F, ts, rfl, S, nFH, eF, pw⟩ := hP
      rw [List.getElem?_map] at hx
      cases gn : names[i]? with
      | none => rw [gn] at hx; cases hx
      | some n =>
      rw [gn] at hx
      cases hx
      have hi : i < names.length := (List.getElem?_eq_some_iff.mp gn).1
      have lts : ts.length = 2 ^ i := by rw [Paired.length pw, partsD_len, List.length_take, Nat.min_eq_left (by omega)]
      have l8 : ts.length ≤ 8 := by rw [lts]; exact Nat.le_trans (Nat.pow_le_pow_right (by decide) (show i ≤ 3 by omega)) (by decide)
      refine ⟨.ref F, rfl, .ref F, rfl, F, rfl, ⟨_, .inl (.inl eF)⟩, fun L nL => ?_⟩
      refine lc_list (K := K) (a := F) (xs := ts) (fun j G' => Same G G' ∧ ∃ us, G' L = some (.lst us) ∧ Paired (fun v d => ∃ t, v = V.ref t ∧ G' t = some (.tup ((d : List Str).map V.str))) us (((partsD (names.take i)).take j).map (· ++ [n]))) ⟨same_upd nL, [], upd_same, .nil⟩ (fun j G' _ hP => .inl (.inl (hP.1 _ _ eF))) (fun j x G' hx hP => ?_) (fun G' hP => ?_)
      · obtain ⟨S', us, eL, pu⟩ := hP
        obtain ⟨d, hd, t, rfl, ht⟩ := paired_get pw hx
        have ht' := S' _ _ ht
        refine ⟨rfl, ?_⟩
        unfold tYes
        refine iteT ?_
        refine ⟨.ref t, rfl, .str n, rfl, szl rfl, fun q1 nq => ?_⟩
        have sq := same_upd (o := .tup [V.str n]) nq
        have eq : (upd G' q1 (.tup [V.str n])) q1 = some (.tup [V.str n]) := upd_same
        show rCatA _ _ _ (upd G' q1 (.tup [V.str n])) _
        generalize upd G' q1 (.tup [V.str n]) = G2 at sq eq ⊢
        have lus : us.length ≤ j := by rw [Paired.length pu, List.length_map, List.length_take]; omega
        have hj : j < ts.length := (List.getElem?_eq_some_iff.mp hx).1
        refine catA_use t q1 (d.map V.str) [V.str n] rfl rfl (sq _ _ ht') eq (smallE ?_) fun r G3 s3 er => ?_
        · have := ((partsD_mem _ _).mp (List.mem_of_getElem? hd)).length_le
          rw [List.length_take] at this
          rw [List.length_map]; show d.length + 1 ≤ _; omega
        refine ⟨us, s3 _ _ (sq _ _ eL), small (by omega), same_set nL (S'.trans (sq.trans s3)), us ++ [.ref r], upd_same, ?_⟩
        have k3 : ∀ t xs, G' t = some (.tup xs) → (upd G3 L (.lst (us ++ [.ref r]))) t = some (.tup xs) := fun t xs z => (upd_ne (ne_of z eL fun y => by cases y)).trans (s3 _ _ (sq _ _ z))
        rw [take_more hd, List.map_append]
        refine Paired.snoc (Paired.mapP pu fun _ _ ⟨t, e, z⟩ => ⟨t, e, k3 _ _ z⟩) ⟨r, rfl, ?_⟩
        rw [upd_ne (ne_of er (s3 _ _ (sq _ _ eL)) fun y => by cases y), er, List.map_append]; rfl
      · obtain ⟨S', us, eL, pu⟩ := hP
        have lus := Paired.length pu
        rw [Paired.length pw, List.take_length] at pu
        rw [List.length_map, List.length_take] at lus
        refine ⟨F, L, ts, us, rfl, rfl, S' _ _ eF, eL, smallE (by omega), fun p np => ?_⟩
        have sp := S'.trans (same_upd (o := .lst (ts ++ us)) np)
        have sp' := same_upd (o := .lst (ts ++ us)) np
        refine ⟨_, p, _, rfl, S.trans sp, (S.trans S').free np, upd_same, ?_⟩
        rw [take_more gn, partsD_snoc]
        exact paired_app (Paired.mapP pw fun _ _ ⟨t, e, z⟩ => ⟨t, e, sp _ _ z⟩) (Paired.mapP pu fun _ _ ⟨t, e, z⟩ => ⟨t, e, sp' _ _ z⟩)
    · obtain ⟨y2, F, ts, rfl, S, nFH, eF, pw⟩ := hP
      rw [List.length_map, List.take_length] at pw
      exact ⟨_, rfl, q G F ts S nFH eF pw⟩
def sp_places_in (_ : PySem.W.Frag) : Sp := fun vs H Q _ => ∃ (m n : Nat), vs = [.int (m : Int)] ∧ m < 2 ^ n ∧ n ≤ 1000 ∧ ∀ H' l, Same H H' → H l = none → H' l = some (.lst (kInts (plc m n))) → Q (.ref l) H'
theorem ok_places_in {f : Addr} {C D S : Addr} {fd : FuncData} (T : Txt K mg C D S) (F : Fun K "places_in" "places_in" s_places_in f fd)  : FnOk P w K mg base CX0 1 f fd ["chosen"] (sp_places_in K) := by
  have nd := sc_places_in.nd
  refine F.ok sc_places_in (fun vs H Q E h => ?_) (fun cdv A outer s H vs Q E hr h => ?_)
  · obtain ⟨m, n, rfl, _⟩ := h
    rfl
  · obtain ⟨m, n, rfl, lt, ln, q⟩ := h
    refine ⟨_, (pss_cons (ps_set (i := 1) nd rfl (.inl rfl) (pe_lst pa_nil))
      (pss_cons (ps_set (i := 2) nd rfl (.inl rfl) (pv 0))
      (pss_cons (ps_while PassesOwn.never (pt_cmpR op_gt (pv 2) pe_int (nomark _)) (pss_cons (ps_expr (pe_bm PySem.F.plainAttrs_list PySem.F.slot_list_append PySem.F.type_list_append mt_append (pv 1) (pa_cons (pe_op op_sub (pe_bits (pe_op op_and (pv 2) (pe_un un_neg (pv 2)))) pe_int) pa_nil)))
      (pss_one (ps_set (i := 2) nd rfl (.inl rfl) (pe_op op_and (pv 2) (pe_op op_sub (pv 2) pe_int))))))
      (pss_one (ps_ret (pv 1)))))), ?_⟩
    refine ⟨szl rfl, fun L nL => ⟨.int (m : Int), rfl, ?_⟩⟩
    refine ⟨fun k σ G => ∃ (a : Nat) (fs : List Nat), σ = [some (.int (m : Int)), some (.ref L), some (.int (a : Int))] ∧ Same H G ∧ G L = some (.lst (kInts fs)) ∧ a < 2 ^ n ∧ fs ++ plc a n = plc m n ∧ k = a, ⟨_, m, [], rfl, same_upd nL, upd_same, lt, rfl, rfl⟩, fun k σ G hW => ?_⟩
    obtain ⟨a, fs, rfl, S, eL, la, pl, rfl⟩ := hW
    have lpl : (plc m n).length ≤ n := by unfold plc; exact Nat.le_trans (List.length_filter_le _ _) (by rw [List.length_range]; exact Nat.le_refl _)
    have lfs : fs.length + (plc k n).length ≤ n := by rw [← List.length_append, pl]; exact lpl
    refine ⟨.int (k : Int), rfl, (k : Int), 0, rfl, rfl, _, rfl, ?_⟩
    by_cases z : k = 0
    · rw [decide_eq_false (show ¬ (0 : Int) < (k : Int) by omega)]
      rw [z, plc_zero, List.append_nil] at pl
      refine iteF ⟨.ref L, rfl, q G L S nL ?_⟩
      rw [← pl]; exact eL
    · rw [decide_eq_true (show (0 : Int) < (k : Int) by omega)]
      obtain ⟨t, t1, t2, t3⟩ := low_bit k (by omega)
      obtain ⟨a1, a2⟩ := low_and t1 t2 t3
      have tn : t < n := by
        refine Nat.lt_of_not_le fun h => ?_
        have := Nat.ge_two_pow_of_testBit t1
        have h2 : 2 ^ n ≤ 2 ^ t := Nat.pow_le_pow_right (by decide) h
        omega
      have pk := plc_low (n := n) tn t1 t2 a2
      have e1 : Builtin.bitAnd (k : Int) (-(k : Int)) = ((2 ^ t : Nat) : Int) := by
        rw [show -(k : Int) = Builtin.bitNot ((k - 1 : Nat) : Int) by unfold Builtin.bitNot; omega, KnA.b_diff, a1]
      have e2 : Builtin.Int.intBits ((2 ^ t : Nat) : Int) = t + 1 := by
        unfold Builtin.Int.intBits
        have : (2 ^ t : Nat) ≠ 0 := by have := Nat.one_le_two_pow (n := t); omega
        rw [if_neg (fun h => by have h := eq_of_beq h; omega), Int.natAbs_natCast, Nat.log2_two_pow]
      have e3 : Builtin.bitAnd (k : Int) ((k : Int) - 1) = ((k &&& (k - 1) : Nat) : Int) := by
        rw [show (k : Int) - 1 = ((k - 1 : Nat) : Int) by omega, KnA.b_and]
      rw [pk, List.length_cons] at lfs
      refine iteT ⟨fun σ' G' => ∃ (a : Nat) (fs : List Nat), σ' = [some (.int (m : Int)), some (.ref L), some (.int (a : Int))] ∧ Same H G' ∧ G' L = some (.lst (kInts fs)) ∧ a < 2 ^ n ∧ fs ++ plc a n = plc m n ∧ a < k, fun σ' G' ⟨a, fs, e, b1, b2, b3, b4, b5⟩ => ⟨_, b5, a, fs, e, b1, b2, b3, b4, rfl⟩, ?_⟩
      refine ⟨.ref L, rfl, .inl ⟨rfl, _, .inl (.inl eL)⟩, .int (k : Int), rfl, .int (k : Int), rfl, (k : Int), rfl, (k : Int), -(k : Int), rfl, rfl, _, rfl, _, 1, rfl, rfl, L, _, _, rfl, rfl, eL, small (by unfold kInts; rw [List.length_map]; omega), ?_⟩
      rw [e1, e2]
      refine ⟨.int (k : Int), rfl, .int (k : Int), rfl, (k : Int), 1, rfl, rfl, (k : Int), (k : Int) - 1, rfl, rfl, ?_⟩
      have le : k &&& (k - 1) ≤ k - 1 := Nat.and_le_right
      refine ⟨k &&& (k - 1), fs ++ [t], by rw [← e3]; rfl, same_set nL S, ?_, by omega, ?_, by omega⟩
      · rw [upd_same]
        unfold kInts
        rw [List.map_append]
        show some (HO.lst (_ ++ [V.int (((t + 1 : Nat) : Int) - 1)])) = _
        rw [show (((t + 1 : Nat) : Int) - 1) = ((t : Nat) : Int) by omega]; rfl
      · rw [List.append_assoc, ← pl, pk]; rfl

end
end Kn

set_option Elab.async false
set_option linter.all false
set_option maxRecDepth 100000
set_option maxHeartbeats 4000000
namespace Kn
open PySem PySem.Spec PyProof.Rows L2
open C8 (Cal pe_c pe_gc Mak pe_mk)
section
variable {P : Program} {w : World} {K : PySem.W.Frag} {mg : Str → Option Value} {base : Heap}
theorem look_order {ws : List Str} {fs : List (Str × Str)} {x : Str} (nws : ws.Nodup) (hx : x ∈ ws) : look (orderF ws fs) x = look fs x := by
  have nd : ((orderF ws fs).map (·.1)).Nodup := by
    rw [order_fst]
    exact nws.filter _
  cases h : look fs x with
  | some n => exact (look_mem nd).mpr (order_mem.mpr ⟨hx, h⟩)
  | none =>
    cases h2 : look (orderF ws fs) x with
    | none => rfl
    | some n =>
      have := order_mem.mp ((look_mem nd).mp h2)
      rw [this.2] at h
      cases h
theorem stp_get {H : Hp} {as : List Addr} {ss : List KnA.Stp} (h : Stps H as ss) {k : Nat} {st : KnA.Stp} (e : ss[k]? = some st) : ∃ a, (as.map V.ref)[k]? = some (.ref a) ∧ H a = some (tup3 st) := by
  have hk : k < as.length := by rw [h.length]; exact (List.getElem?_eq_some_iff.mp e).1
  obtain ⟨st', e', r⟩ := paired_get h (List.getElem?_eq_getElem hk)
  rw [e] at e'
  cases e'
  exact ⟨as[k], by rw [List.getElem?_map, List.getElem?_eq_getElem hk]; rfl, r⟩

/-! ### the moves of pairs -/
abbrev keyD (d : KnA.Dat) : NestedKey := rk d.1 d.2
def unD (ss : List KnA.Stp) (lf lw : Lk) (d : KnA.Dat) : List KnA.Dat := ss.flatMap fun x => if x.1 = d.1 ∧ lw x.2.1 = none then [bhd lf d x] else []
def seD (ss : List KnA.Stp) (lf lw : Lk) (d : KnA.Dat) : List (Str × KnA.Dat) := ss.flatMap fun x => if x.1 = d.1 then ((lw x.2.1).toList.map fun z => (z, bhd lf d x)) else []
theorem flat_take {α β : Type} (f : α → List β) {xs : List α} {i : Nat} {x : α} (h : xs[i]? = some x) : (xs.take (i + 1)).flatMap f = (xs.take i).flatMap f ++ f x := by
  rw [take_more h, List.flatMap_append]
  show _ ++ ([x].flatMap f) = _
  rw [List.flatMap_cons, List.flatMap_nil, List.append_nil]
theorem unD_mem {ss : List KnA.Stp} {lf lw : Lk} {d q : KnA.Dat} : q ∈ unD ss lf lw d ↔ ∃ x ∈ ss, x.1 = d.1 ∧ lw x.2.1 = none ∧ q = bhd lf d x := by
  unfold unD
  rw [List.mem_flatMap]
  constructor
  · rintro ⟨x, hx, h⟩
    by_cases c : x.1 = d.1 ∧ lw x.2.1 = none
    · rw [if_pos c] at h
      exact ⟨x, hx, c.1, c.2, List.mem_singleton.mp h⟩
    · rw [if_neg c] at h; cases h
  · rintro ⟨x, hx, a, b, rfl⟩
    exact ⟨x, hx, by rw [if_pos ⟨a, b⟩]; exact List.mem_singleton.mpr rfl⟩
theorem seD_mem {ss : List KnA.Stp} {lf lw : Lk} {d q : KnA.Dat} {z : Str} : (z, q) ∈ seD ss lf lw d ↔ Sees ss lf lw z d q := by
  unfold seD Sees
  rw [List.mem_flatMap]
  constructor
  · rintro ⟨x, hx, h⟩
    by_cases c : x.1 = d.1
    · rw [if_pos c] at h
      obtain ⟨z', hz, e⟩ := List.mem_map.mp h
      obtain ⟨rfl, rfl⟩ := Prod.mk.inj e
      exact ⟨x, hx, c, Option.mem_toList.mp hz, rfl⟩
    · rw [if_neg c] at h; cases h
  · rintro ⟨x, hx, a, b, rfl⟩
    exact ⟨x, hx, by rw [if_pos a, b]; exact List.mem_singleton.mpr rfl⟩
theorem flat_le {α β : Type} {f : α → List β} (h : ∀ x, (f x).length ≤ 1) : ∀ xs : List α, (xs.flatMap f).length ≤ xs.length
  | [] => Nat.le_refl _
  | x :: r => by
    have := flat_le h r
    have := h x
    rw [List.flatMap_cons, List.length_append, List.length_cons]; omega
theorem unD_len (ss : List KnA.Stp) (lf lw : Lk) (d : KnA.Dat) : (unD ss lf lw d).length ≤ ss.length := flat_le (fun x => by split <;> simp) ss
theorem seD_len (ss : List KnA.Stp) (lf lw : Lk) (d : KnA.Dat) : (seD ss lf lw d).length ≤ ss.length := flat_le (fun x => by split <;> cases lw x.2.1 <;> simp) ss
def RD (H : Hp) (v : V) (d : KnA.Dat) : Prop := KnA.RowAt H v d.1 d.2
def RS (H : Hp) (v : V) (p : Str × KnA.Dat) : Prop := ∃ t r, v = .ref t ∧ H t = some (.tup [.str p.1, r]) ∧ KnA.RowAt H r p.2.1 p.2.2
def TupM {β : Type} (R : Hp → V → β → Prop) : Prop := ∀ (H H' : Hp), (∀ t xs, H t = some (.tup xs) → H' t = some (.tup xs)) → ∀ v b, R H v b → R H' v b
theorem RD_m : TupM RD := fun _ _ k _ _ h => KnA.RowAt.ext h k
theorem RS_m : TupM RS := fun _ _ k _ _ ⟨t, r, e, h, g⟩ => ⟨t, r, e, k _ _ h, g.ext k⟩
def zipK (ds : List KnA.Dat) (ads : List Addr) : List (NestedKey × V) := List.zipWith (fun d a => (keyD d, V.ref a)) ds ads
theorem zipK_keys : ∀ {ds : List KnA.Dat} {ads : List Addr}, ads.length = ds.length → (zipK ds ads).map (·.1) = ds.map keyD
  | [], [], _ => rfl
  | [], _ :: _, h => by cases h
  | _ :: _, [], h => by cases h
  | d :: r, a :: s, h => by
    show keyD d :: (zipK r s).map (·.1) = keyD d :: r.map keyD
    rw [zipK_keys (Nat.succ.inj h)]
theorem zipK_mem : ∀ {ds : List KnA.Dat} {ads : List Addr} {i : Nat} {d : KnA.Dat} {a : Addr}, ds[i]? = some d → ads[i]? = some a → (keyD d, V.ref a) ∈ zipK ds ads
  | [], _, _, _, _, h, _ => by cases h
  | _ :: _, [], _, _, _, _, h => by cases h
  | d :: r, a :: s, 0, _, _, h, k => by
    cases h; cases k
    exact List.mem_cons_self
  | d :: r, a :: s, i + 1, _, _, h, k => List.mem_cons_of_mem _ (zipK_mem (i := i) h k)
theorem zipK_snoc : ∀ {ds : List KnA.Dat} {ads : List Addr} (d : KnA.Dat) (a : Addr), ads.length = ds.length → zipK (ds ++ [d]) (ads ++ [a]) = zipK ds ads ++ [(keyD d, V.ref a)]
  | [], [], _, _, _ => rfl
  | [], _ :: _, _, _, h => by cases h
  | _ :: _, [], _, _, h => by cases h
  | d :: r, a :: s, x, y, h => by
    show (keyD d, V.ref a) :: zipK (r ++ [x]) (s ++ [y]) = (keyD d, V.ref a) :: (zipK r s ++ _)
    rw [zipK_snoc x y (Nat.succ.inj h)]
theorem zipK_len {ds : List KnA.Dat} {ads : List Addr} (h : ads.length = ds.length) : (zipK ds ads).length = ds.length := by
  have := congrArg List.length (zipK_keys h)
  rwa [List.length_map, List.length_map] at this
/-- a dict from the pairs to lists under way -/
structure Bld {β : Type} (P : Program) (w : World) (R : Hp → V → β → Prop) (H0 H : Hp) (dd : Addr) (ds : List KnA.Dat) (ads : List Addr) (f : Nat → List β) : Prop where
  dn : KnN.DNAt P w H dd (zipK ds ads)
  dd0 : H0 dd = none
  len : ads.length = ds.length
  nd : ads.Nodup
  at_ : ∀ k a, ads[k]? = some a → H0 a = none ∧ ∃ vs, H a = some (.lst vs) ∧ Paired (R H) vs (f k)
theorem Bld.mono {β : Type} {P : Program} {w : World} {R : Hp → V → β → Prop} {H0 H H' : Hp} {dd : Addr} {ds : List KnA.Dat} {ads : List Addr} {f : Nat → List β} (b : Bld P w R H0 H dd ds ads f) (hR : TupM R) (s : Same H H') : Bld P w R H0 H' dd ds ads f :=
  ⟨b.dn.mono s, b.dd0, b.len, b.nd, fun k a e => let ⟨h, vs, g, p⟩ := b.at_ k a e; ⟨h, vs, s _ _ g, Paired.mapP p fun _ _ z => hR H H' (fun _ _ q => s _ _ q) _ _ z⟩⟩
theorem Bld.val {β : Type} {P : Program} {w : World} {R : Hp → V → β → Prop} {H0 H : Hp} {dd : Addr} {ds : List KnA.Dat} {ads : List Addr} {f : Nat → List β} (b : Bld P w R H0 H dd ds ads f) (nk : (ds.map keyD).Nodup) {i : Nat} {d : KnA.Dat} (e : ds[i]? = some d) : ∃ a vs, ads[i]? = some a ∧ valV (zipK ds ads) (keyD d) = some (.ref a) ∧ H a = some (.lst vs) ∧ Paired (R H) vs (f i) := by
  have hi : i < ads.length := by rw [b.len]; exact (List.getElem?_eq_some_iff.mp e).1
  obtain ⟨_, vs, g, p⟩ := b.at_ i _ (List.getElem?_eq_getElem hi)
  exact ⟨_, vs, List.getElem?_eq_getElem hi, valN_mem (by rw [zipK_keys b.len]; exact nk) (zipK_mem e (List.getElem?_eq_getElem hi)), g, p⟩
theorem Bld.ne {β : Type} {P : Program} {w : World} {R : Hp → V → β → Prop} {H0 H : Hp} {dd : Addr} {ds : List KnA.Dat} {ads : List Addr} {f : Nat → List β} (b : Bld P w R H0 H dd ds ads f) {a : Addr} {o : HO} (e : H a = some o) (no : ∀ h, o ≠ .ext h) : a ≠ dd := fun z => by
  obtain ⟨es, h⟩ := b.dn.some
  rw [z, h] at e
  have := Option.some.inj e
  unfold KnN.DN at this
  exact no _ this.symm
theorem Bld.push {β : Type} {P : Program} {w : World} {R : Hp → V → β → Prop} {H0 H : Hp} {dd : Addr} {ds : List KnA.Dat} {ads : List Addr} {f : Nat → List β} (b : Bld P w R H0 H dd ds ads f) (hR : TupM R) {i : Nat} {a : Addr} {vs : List V} (ea : ads[i]? = some a) (ha : H a = some (.lst vs)) (pv : Paired (R H) vs (f i)) {v : V} {x : β} (hv : R H v x) :
    Bld P w R H0 (upd H a (.lst (vs ++ [v]))) dd ds ads (fun k => if k = i then f i ++ [x] else f k) := by
  have nad : a ≠ dd := b.ne ha fun h z => by cases z
  have kt : ∀ t xs, H t = some (.tup xs) → (upd H a (.lst (vs ++ [v]))) t = some (.tup xs) := fun t xs z => (upd_ne (ne_of z ha fun y => by cases y)).trans z
  refine ⟨b.dn.set nad ha (fun xs z => by cases z), b.dd0, b.len, b.nd, fun k c e => ?_⟩
  obtain ⟨h0, us, g, p⟩ := b.at_ k c e
  refine ⟨h0, ?_⟩
  by_cases ki : k = i
  · subst ki
    rw [ea] at e; cases e
    refine ⟨vs ++ [v], upd_same, ?_⟩
    show Paired _ _ (if k = k then f k ++ [x] else f k)
    rw [if_pos rfl]
    exact Paired.snoc (Paired.mapP pv fun _ _ z => hR _ _ kt _ _ z) (hR _ _ kt _ _ hv)
  · have nc : c ≠ a := fun z => ki ((List.getElem?_inj (List.getElem?_eq_some_iff.mp e).1 b.nd).mp (by rw [e, ea, z]))
    refine ⟨us, (upd_ne nc).trans g, ?_⟩
    show Paired _ _ (if k = i then f i ++ [x] else f k)
    rw [if_neg ki]
    exact Paired.mapP p fun _ _ z => hR _ _ kt _ _ z
theorem Bld.other {β : Type} {P : Program} {w : World} {R : Hp → V → β → Prop} {H0 H : Hp} {dd : Addr} {ds : List KnA.Dat} {ads : List Addr} {f : Nat → List β} (b : Bld P w R H0 H dd ds ads f) (hR : TupM R) {a : Addr} {vs : List V} {o : List V} (ha : H a = some (.lst vs)) (na : a ∉ ads) : Bld P w R H0 (upd H a (.lst o)) dd ds ads f := by
  have nad : a ≠ dd := b.ne ha fun h z => by cases z
  have kt : ∀ t xs, H t = some (.tup xs) → (upd H a (.lst o)) t = some (.tup xs) := fun t xs z => (upd_ne (ne_of z ha fun y => by cases y)).trans z
  refine ⟨b.dn.set nad ha (fun xs z => by cases z), b.dd0, b.len, b.nd, fun k c e => ?_⟩
  obtain ⟨h0, us, g, p⟩ := b.at_ k c e
  exact ⟨h0, us, (upd_ne (show c ≠ a from fun z => na (z ▸ List.mem_of_getElem? e))).trans g, Paired.mapP p fun _ _ z => hR _ _ kt _ _ z⟩
/-- a dict from the pairs to lists -/
def LisAt {β : Type} (P : Program) (w : World) (R : Hp → V → β → Prop) (H : Hp) (dd : Addr) (ds : List KnA.Dat) (f : KnA.Dat → List β) : Prop := ∃ kvs, KnN.DNAt P w H dd kvs ∧ ∀ d ∈ ds, ∃ l vs, valV kvs (keyD d) = some (.ref l) ∧ H l = some (.lst vs) ∧ Paired (R H) vs (f d)
theorem LisAt.mono {β : Type} {P : Program} {w : World} {R : Hp → V → β → Prop} {H H' : Hp} {dd : Addr} {ds : List KnA.Dat} {f : KnA.Dat → List β} (h : LisAt P w R H dd ds f) (hR : TupM R) (s : Same H H') : LisAt P w R H' dd ds f := by
  obtain ⟨kvs, a, b⟩ := h
  exact ⟨kvs, a.mono s, fun d hd => let ⟨l, vs, e, g, p⟩ := b d hd; ⟨l, vs, e, s _ _ g, Paired.mapP p fun _ _ z => hR H H' (fun _ _ q => s _ _ q) _ _ z⟩⟩
theorem tseq_use {a b : TS} {D : Ends} {σ : L2.St} {H : Hp} (h : a { D with nx := b D } σ H) : tSeq a b D σ H := h
theorem tasg_use {te : TE} {g : TG} {D : Ends} {σ : L2.St} {H : Hp} (h : te σ H fun x H1 => g x σ H1 D.nx) : tAsg te g D σ H := h
theorem setn_use {i : Nat} {x : V} {σ σ' : L2.St} {H : Hp} {nx : L2.St → Hp → Prop} (e : σ.set i (some x) = σ') (h : nx σ' H) : gName i x σ H nx := by
  subst e; exact h
theorem Bld.from0 {β : Type} {P : Program} {w : World} {R : Hp → V → β → Prop} {H0 H1 H : Hp} {dd : Addr} {ds : List KnA.Dat} {ads : List Addr} {f : Nat → List β} (b : Bld P w R H1 H dd ds ads f) (s : Same H0 H1) : Bld P w R H0 H dd ds ads f :=
  ⟨b.dn, s.free b.dd0, b.len, b.nd, fun k a e => let ⟨h, vs, g, p⟩ := b.at_ k a e; ⟨s.free h, vs, g, p⟩⟩
theorem Bld.congr {β : Type} {P : Program} {w : World} {R : Hp → V → β → Prop} {H0 H : Hp} {dd : Addr} {ds : List KnA.Dat} {ads : List Addr} {f g : Nat → List β} (b : Bld P w R H0 H dd ds ads f) (e : ∀ k < ads.length, f k = g k) : Bld P w R H0 H dd ds ads g :=
  ⟨b.dn, b.dd0, b.len, b.nd, fun k a q => let ⟨h, vs, i, p⟩ := b.at_ k a q; ⟨h, vs, i, (e k (List.getElem?_eq_some_iff.mp q).1) ▸ p⟩⟩
theorem Bld.lis {β : Type} {P : Program} {w : World} {R : Hp → V → β → Prop} {H0 H : Hp} {dd : Addr} {ds : List KnA.Dat} {ads : List Addr} {f : Nat → List β} (b : Bld P w R H0 H dd ds ads f) (nk : (ds.map keyD).Nodup) {g : KnA.Dat → List β} (e : ∀ i d, ds[i]? = some d → f i = g d) : LisAt P w R H dd ds g :=
  ⟨_, b.dn, fun d hd => by
    obtain ⟨i, hi⟩ := List.getElem?_of_mem hd
    obtain ⟨a, vs, _, v, h, p⟩ := b.val nk hi
    exact ⟨a, vs, v, h, e i d hi ▸ p⟩⟩
theorem nth_set_state {σ : L2.St} {x : Option V} (h : σ[14]? = some x) : True := trivial
theorem new_lists {β : Type} {P : Program} {w : World} {K : PySem.W.Frag} {R : Hp → V → β → Prop} {H : Hp} {Q : VK} {m wa n : V} {l : Addr} {y4 : Option V} {ys : List V} {ds : List KnA.Dat} (hl : H l = some (.lst ys)) (rows : RowsP H ys ds) (nk : (ds.map keyD).Nodup) (few : ds.length ≤ 60)
    (q : ∀ D G ads, Same H G → Bld P w R H G D ds ads (fun _ => []) → Q (.ref D) G) :
    KnN.tDcN P w (iList K (tVar 2)) (gName 14) tYes (tVar 14) (tLst tNil) [14] [some m, some wa, some (.ref l), some n, y4, none, none, none, none, none, none, none, none, none, none] H Q := by
  have ly := Paired.length rows
  refine ⟨.ref l, rfl, l, rfl, ⟨_, .inl (.inl hl)⟩, fun D1 G1 n1 k1 dn1 => ?_⟩
  have s1 : Same H G1 := fun b o e => (k1 b (ne_of_none e n1)).trans e
  refine KnA.turns ys.length (fun i G => Same H G ∧ ∃ ads, Bld P w R H G D1 (ds.take i) ads (fun _ => []))
    ⟨s1, [], by rw [List.take_zero]; exact dn1, n1, rfl, List.nodup_nil, fun k a e => by cases e⟩ (fun G hP => ⟨_, .inl (.inl (hP.1 _ _ hl)), Nat.le_refl _⟩) (fun i G hi hP => ⟨_, _, .inl (.inl (hP.1 _ _ hl)), List.getElem?_eq_getElem hi⟩) (fun i x G G' hi hP hy => ?_) (fun G hP => ?_)
  · obtain ⟨S, ads, B⟩ := hP
    obtain ⟨rfl, hx⟩ := hy
    have hx := hx _ (.inl (.inl (S _ _ hl)))
    obtain ⟨d, hd, rx⟩ := paired_get rows hx
    obtain ⟨t, rfl, nk1⟩ := row_nis (rx.ext fun t xs z => S _ _ z)
    refine ⟨rfl, ?_⟩
    unfold tYes
    refine iteT ⟨.ref t, rfl, szl rfl, fun a na => ?_⟩
    have sa := same_upd (o := .lst []) na
    have ea : (upd G' a (.lst [])) a = some (.lst []) := upd_same
    have ltk : (ds.take i).length = i := by rw [List.length_take]; omega
    have Ba : Bld P w R H (upd G' a (.lst [])) D1 (ds.take i) ads (fun _ => []) :=
      ⟨B.dn.mono sa, B.dd0, B.len, B.nd, fun k c e => let ⟨h, vs, g, p⟩ := B.at_ k c e; ⟨h, vs, sa _ _ g, by cases p; exact .nil⟩⟩
    have n1a : NestedKey.depth (rk d.1 d.2) ≤ 8 := rk_depth _ _
    have nkt := KnN.NIs.ext (fun t xs z => sa _ _ z) _ _ nk1
    generalize upd G' a (.lst []) = G2 at sa ea Ba nkt ⊢
    have naD : a ≠ D1 := Ba.ne ea fun h z => by cases z
    refine ⟨_, _, t, rfl, Ba.dn, nkt, n1a, small (by rw [zipK_len Ba.len, ltk]; omega), fun G6 k6 dn6 => ⟨fun b o e => (k6 b (ne_of_none e B.dd0)).trans (sa _ _ (S b o e)), ads ++ [a], ?_⟩⟩
    have nin : keyD d ∉ (zipK (ds.take i) ads).map (·.1) := by
      rw [zipK_keys Ba.len]
      have z : ds.map keyD = (ds.take i).map keyD ++ (ds.drop i).map keyD := by rw [← List.map_append, List.take_append_drop]
      rw [z] at nk
      obtain ⟨_, _, dj⟩ := List.nodup_append.mp nk
      refine fun m => dj _ m _ (?_ : keyD d ∈ (ds.drop i).map keyD) rfl
      exact List.mem_map.mpr ⟨d, List.mem_of_getElem? (i := 0) (by rw [List.getElem?_drop]; exact hd), rfl⟩
    rw [putK_new nin, ← zipK_snoc d a Ba.len, ← take_more hd] at dn6
    refine ⟨dn6, B.dd0, by rw [List.length_append, take_more hd, List.length_append, Ba.len]; rfl, ?_, fun k c e => ?_⟩
    · refine List.nodup_append.mpr ⟨B.nd, List.pairwise_singleton _ a, fun x hx y hy e => ?_⟩
      obtain ⟨k, hk⟩ := List.getElem?_of_mem hx
      obtain ⟨_, vs, g, _⟩ := B.at_ k x hk
      rw [List.mem_singleton.mp hy] at e
      rw [e, na] at g; cases g
    · rw [List.getElem?_append] at e
      by_cases kl : k < ads.length
      · rw [if_pos kl] at e
        obtain ⟨h, vs, g, p⟩ := Ba.at_ k c e
        refine ⟨h, vs, (k6 c (Ba.ne g fun h z => by cases z)).trans g, ?_⟩
        cases p; exact .nil
      · rw [if_neg kl] at e
        have e2 : c = a := (List.mem_singleton.mp (List.mem_of_getElem? e))
        subst e2
        exact ⟨S.free na, [], (k6 c naD).trans ea, .nil⟩
  · obtain ⟨S, ads, B⟩ := hP
    rw [List.take_of_length_le (by omega)] at B
    exact q D1 G ads S B
def sp_moves_of_pairs {P : Program} {w : World} (_ : PySem.W.Frag) (C D : Addr) : Sp := fun vs H Q _ => ∃ (m wa l n : Addr) (s0 : Int) (ss : List KnA.Stp) (fs tb : List (Str × Str)) (ys : List V) (ds : List KnA.Dat) (names : List Str), vs = [.ref m, .ref wa, .ref l, .ref n] ∧ MachAt C H m s0 ss fs ∧ GoodMach s0 ss fs ∧ WatchAt D H wa tb ∧ H l = some (.lst ys) ∧ RowsP H ys ds ∧ H n = some (.lst (names.map V.str)) ∧
  (ds.map keyD).Nodup ∧ ds.length ≤ 60 ∧ (∀ d ∈ ds, KnA.Words d.2 d.2 ∧ d.2.length ≤ 40) ∧ (∀ x ∈ ss, ∀ f, look fs x.2.1 = some f → f ∈ names) ∧
  ∀ H' t un se, Same H H' → H' t = some (.tup [.ref un, .ref se]) → LisAt P w RD H' un ds (unD ss (look fs) (look tb)) → LisAt P w RS H' se ds (seD ss (look fs) (look tb)) → Q (.ref t) H'
theorem ok_moves_of_pairs {f : Addr} {C D S : Addr} {fd : FuncData} (T : Txt K mg C D S) (F : Fun K "moves_of_pairs" "moves_of_pairs" s_moves_of_pairs f fd) (c_Machine_faults : KnP.Prp P w K mg base 1 C "faults" (sp_Machine_faults K C)) (c_Machine_steps : KnP.Prp P w K mg base 1 C "steps" (sp_Machine_steps K C)) (c_with_fault : Cal P w K mg base 1 "with_fault" (sp_with_fault K) []) (c_Watch_getitem : KnW.Own P w K mg base 2 D "__getitem__" (sp_Watch_getitem K D)) (c_Watch_contains : KnW.Own P w K mg base 2 D "__contains__" (sp_Watch_contains K D)) : FnOk P w K mg base CX0 4 f fd ["machine", "watch", "pairs", "names"] (sp_moves_of_pairs (P := P) (w := w) K C D) := by
  have nd := sc_moves_of_pairs.nd
  refine F.ok sc_moves_of_pairs (fun vs H Q E h => ?_) (fun cdv A outer s H vs Q E hr h => ?_)
  · obtain ⟨m, wa, l, n, s0, ss, fs, tb, ys, ds, names, rfl, _⟩ := h
    rfl
  · obtain ⟨m, wa, l, n, s0, ss, fs, tb, ys, ds, names, rfl, hm, gm, hw, hl, rows, hn, nk, few, okd, hf, q⟩ := h
    refine ⟨_, (pss_cons (KnDn.ps_setDcN (i := 4) (own := [("pair", 14)]) (g := gName 14) (tt := tYes) (KnC.un65 hr) rfl nd rfl rfl (KnDc.swD rfl rfl rfl (by decide +kernel)) (pi_list (pv 2)) (blkOk_by (own := [("pair", 14)]) (N := ["machine", "watch", "pairs", "names", "unseen", "seen", "faults", "steps", "state", "done", "source", "word", "target", "entered", "pair"]) (sc := defScope s_moves_of_pairs) (by decide +kernel)) (fun _ _ _ _ _ => (pg_name (i := 14) nd rfl (.inl rfl))) (fun _ _ _ _ _ => pts_nil) (fun _ _ _ _ _ => (pv 14)) (fun _ _ _ _ _ => (pe_lst pa_nil)))
      (pss_cons (KnDn.ps_setDcN (i := 5) (own := [("pair", 14)]) (g := gName 14) (tt := tYes) (KnC.un65 hr) rfl nd rfl rfl (KnDc.swD rfl rfl rfl (by decide +kernel)) (pi_list (pv 2)) (blkOk_by (own := [("pair", 14)]) (N := ["machine", "watch", "pairs", "names", "unseen", "seen", "faults", "steps", "state", "done", "source", "word", "target", "entered", "pair"]) (sc := defScope s_moves_of_pairs) (by decide +kernel)) (fun _ _ _ _ _ => (pg_name (i := 14) nd rfl (.inl rfl))) (fun _ _ _ _ _ => pts_nil) (fun _ _ _ _ _ => (pv 14)) (fun _ _ _ _ _ => (pe_lst pa_nil)))
      (pss_cons (ps_set (i := 6) nd rfl (.inl rfl) (KnP.pe_prp T.cl c_Machine_faults hr (by decide) (pv 0) (by rfl)))
      (pss_cons (ps_set (i := 7) nd rfl (.inl rfl) (KnP.pe_prp T.cl c_Machine_steps hr (by decide) (pv 0) (by rfl)))
      (pss_cons (ps_for PassesOwn.never rfl (pi_list (pv 2)) (pg_tup (by rfl) (pgs_cons (pg_name (i := 8) nd rfl (.inl rfl)) (pgs_cons (pg_name (i := 9) nd rfl (.inl rfl)) pgs_nil))) (pss_one (ps_for PassesOwn.never rfl (pi_list (pv 7)) (pg_tup (by rfl) (pgs_cons (pg_name (i := 10) nd rfl (.inl rfl)) (pgs_cons (pg_name (i := 11) nd rfl (.inl rfl)) (pgs_cons (pg_name (i := 12) nd rfl (.inl rfl)) pgs_nil)))) (pss_cons (ps_if (pt_cmpR op_ne (pv 10) (pv 8) (nomark _)) (pss_one ps_continue) pss_nil)
      (pss_cons (ps_set (i := 13) nd rfl (.inl rfl) (pe_tup (pa_cons (pv 12) (pa_cons (pe_c c_with_fault hr (by omega) (by rfl) (pa_cons (pv 9) (pa_cons (pe_dget1 (hu_of hr) (pv 6) (pv 11) ⟨rfl, rfl, rfl, rfl⟩) (pa_cons (pv 3) pa_nil)))) pa_nil))))
      (pss_one (ps_if (pt_cmpR (KnW.op_ownHas c_Watch_contains hr (by omega)) (pv 11) (pv 1) (by with_unfolding_all rfl)) (pss_one (ps_expr (pe_bm PySem.F.plainAttrs_list PySem.F.slot_list_append PySem.F.type_list_append mt_append (KnN.pe_nget (KnC.un65 hr) (pv 5) (pe_tup (pa_cons (pv 8) (pa_cons (pv 9) pa_nil))) (fun _ _ => rfl)) (pa_cons (pe_tup (pa_cons (KnW.pe_get c_Watch_getitem hr (by omega) (pv 1) (pv 11)) (pa_cons (pv 13) pa_nil))) pa_nil)))) (pss_one (ps_expr (pe_bm PySem.F.plainAttrs_list PySem.F.slot_list_append PySem.F.type_list_append mt_append (KnN.pe_nget (KnC.un65 hr) (pv 4) (pe_tup (pa_cons (pv 8) (pa_cons (pv 9) pa_nil))) (fun _ _ => rfl)) (pa_cons (pv 13) pa_nil)))))))))))
      (pss_one (ps_ret (pe_tup (pa_cons (pv 4) (pa_cons (pv 5) pa_nil)))))))))), ?_⟩
    have ly := Paired.length rows
    refine tseq_use (tasg_use (new_lists (R := RD) hl rows nk few fun D1 G1 ads1 s1 B1 => setn_use rfl ?_))
    refine tseq_use (tasg_use (new_lists (R := RS) (s1 _ _ hl) (rows.ext fun _ _ z => s1 _ _ z) nk few fun D2 G2 ads2 s2 B2' => setn_use rfl ?_))
    have B2 := B2'.from0 s1
    have dis : ∀ a ∈ ads1, a ∉ ads2 := fun a h1 h2 => by
      obtain ⟨k, hk⟩ := List.getElem?_of_mem h1
      obtain ⟨k', hk'⟩ := List.getElem?_of_mem h2
      obtain ⟨_, vs, g, _⟩ := B1.at_ k a hk
      rw [(B2'.at_ k' a hk').1] at g; cases g
    have B1 := B1.mono RD_m s2
    have S2 := s1.trans s2
    clear B2' s1 s2
    obtain ⟨mdx, mls, mlw, mdf, mlt, mas, mws, mns, mm⟩ := id hm
    refine ⟨.ref m, rfl, m, mdx, _, rfl, S2 _ _ mm.ob, m, s0, ss, fs, rfl, hm.mono S2, fun G3 fd ws s3 nfd efd hws => ?_⟩
    refine ⟨.ref m, rfl, m, mdx, _, rfl, s3 _ _ (S2 _ _ mm.ob), m, s0, ss, fs, rfl, (hm.mono S2).mono s3, fun G4 ls as s4 nls els hst => ?_⟩
    have S24 := s3.trans s4
    have S4 := S2.trans S24
    have efd := s4 _ _ efd
    have nl1 : ls ∉ ads1 := fun h => by
      obtain ⟨k, hk⟩ := List.getElem?_of_mem h
      obtain ⟨_, vs, g, _⟩ := (B1.mono RD_m s3).at_ k ls hk
      rw [nls] at g; cases g
    have nl2 : ls ∉ ads2 := fun h => by
      obtain ⟨k, hk⟩ := List.getElem?_of_mem h
      obtain ⟨_, vs, g, _⟩ := (B2.mono RS_m s3).at_ k ls hk
      rw [nls] at g; cases g
    have B1 := B1.mono RD_m S24
    have B2 := B2.mono RS_m S24
    have lo : ∀ x ∈ ss, look (orderF ws fs) x.2.1 = look fs x.2.1 := fun x hx => look_order hws.nd ((hws.mem _).mpr (List.mem_map.mpr ⟨x, hx, rfl⟩))
    have nmW : ∀ x ∈ ss, nameB (.str x.2.1) = true := fun x hx => (gm.gs.good x hx).w
    have lss : ss.length ≤ 80 := gm.gs.hi
    clear s3 s4 S24 S2 nfd hws
    have nfl : ∀ {G : Hp}, Bld P w RD H G D1 ds ads1 (fun _ => []) → True := fun _ => trivial
    let gd : Nat → KnA.Dat := fun k => ds[k]?.getD (0, [])
    let f1 : Nat → Nat → Nat → List KnA.Dat := fun i j k => if k < i then unD ss (look fs) (look tb) (gd k) else if k = i then unD (ss.take j) (look fs) (look tb) (gd k) else []
    let f2 : Nat → Nat → Nat → List (Str × KnA.Dat) := fun i j k => if k < i then seD ss (look fs) (look tb) (gd k) else if k = i then seD (ss.take j) (look fs) (look tb) (gd k) else []
    have gdk : ∀ {k d}, ds[k]? = some d → gd k = d := fun {k d} e => by show ds[k]?.getD _ = d; rw [e]; rfl
    have z1 : ∀ i k, f1 i 0 k = if k < i then unD ss (look fs) (look tb) (gd k) else [] := fun i k => by
      show (if k < i then _ else if k = i then unD (ss.take 0) (look fs) (look tb) (gd k) else []) = _
      rw [List.take_zero]
      by_cases c : k < i
      · rw [if_pos c, if_pos c]
      · rw [if_neg c, if_neg c]; split <;> rfl
    have z2 : ∀ i k, f2 i 0 k = if k < i then seD ss (look fs) (look tb) (gd k) else [] := fun i k => by
      show (if k < i then _ else if k = i then seD (ss.take 0) (look fs) (look tb) (gd k) else []) = _
      rw [List.take_zero]
      by_cases c : k < i
      · rw [if_pos c, if_pos c]
      · rw [if_neg c, if_neg c]; split <;> rfl
    have e1 : ∀ i k, f1 i ss.length k = f1 (i + 1) 0 k := fun i k => by
      rw [z1]
      show (if k < i then _ else if k = i then unD (ss.take ss.length) (look fs) (look tb) (gd k) else []) = _
      rw [List.take_length]
      by_cases c : k < i
      · rw [if_pos c, if_pos (by omega)]
      · rw [if_neg c]
        by_cases c2 : k = i
        · rw [if_pos c2, if_pos (by omega)]
        · rw [if_neg c2, if_neg (by omega)]
    have e2 : ∀ i k, f2 i ss.length k = f2 (i + 1) 0 k := fun i k => by
      rw [z2]
      show (if k < i then _ else if k = i then seD (ss.take ss.length) (look fs) (look tb) (gd k) else []) = _
      rw [List.take_length]
      by_cases c : k < i
      · rw [if_pos c, if_pos (by omega)]
      · rw [if_neg c]
        by_cases c2 : k = i
        · rw [if_pos c2, if_pos (by omega)]
        · rw [if_neg c2, if_neg (by omega)]
    refine ⟨.ref l, rfl, l, rfl, ⟨_, .inl (.inl (S4 _ _ hl))⟩, ?_⟩
    refine for_list (K := K) (a := l) (xs := ys) (fun i σ G => ∃ (y8 y9 y10 y11 y12 y13 : Option V), σ = [some (.ref m), some (.ref wa), some (.ref l), some (.ref n), some (.ref D1), some (.ref D2), some (.ref fd), some (.ref ls), y8, y9, y10, y11, y12, y13, none] ∧ Same H G ∧ G fd = some (.dK (fkv (orderF ws fs))) ∧ G ls = some (.lst (as.map V.ref)) ∧ Stps G as ss ∧ Bld P w RD H G D1 ds ads1 (f1 i 0) ∧ Bld P w RS H G D2 ds ads2 (f2 i 0))
      ⟨none, none, none, none, none, none, rfl, S4, efd, els, hst, B1.congr fun k _ => by rw [z1, if_neg (Nat.not_lt_zero k)], B2.congr fun k _ => by rw [z2, if_neg (Nat.not_lt_zero k)]⟩ (fun i σ G _ hP => .inl (.inl (hP.choose_spec.choose_spec.choose_spec.choose_spec.choose_spec.choose_spec.2.1 _ _ hl))) (fun i x σ G hx hP => ?_) (fun σ G hP => ?_)
    · obtain ⟨y8, y9, y10, y11, y12, y13, rfl, S, efd, els, hst, B1, B2⟩ := hP
      obtain ⟨d, hd, rx⟩ := paired_get rows hx
      have rx' := rx.ext fun t xs z => S _ _ z
      obtain ⟨t, ft, rfl, ht, hft⟩ := rx'
      refine ⟨t, _, rfl, .inl (.inl ht), rfl, .int d.1, _, rfl, .ref ft, [], rfl, rfl, ?_⟩
      refine ⟨.ref ls, rfl, ls, rfl, ⟨_, .inl (.inl els)⟩, ?_⟩
      have ht0 : H t = some (.tup [.int d.1, .ref ft]) ∧ H ft = some (.tup (d.2.map V.str)) := by
        obtain ⟨t', ft', e, h1, h2⟩ := rx
        cases e
        have this := Option.some.inj ((S _ _ h1).symm.trans ht)
        cases this
        exact ⟨h1, h2⟩
      refine for_list (K := K) (a := ls) (xs := as.map V.ref) (fun j σ G => ∃ (y10 y11 y12 y13 : Option V), σ = [some (.ref m), some (.ref wa), some (.ref l), some (.ref n), some (.ref D1), some (.ref D2), some (.ref fd), some (.ref ls), some (.int d.1), some (.ref ft), y10, y11, y12, y13, none] ∧ Same H G ∧ G fd = some (.dK (fkv (orderF ws fs))) ∧ G ls = some (.lst (as.map V.ref)) ∧ Stps G as ss ∧ Bld P w RD H G D1 ds ads1 (f1 i j) ∧ Bld P w RS H G D2 ds ads2 (f2 i j))
        ⟨y10, y11, y12, y13, rfl, S, efd, els, hst, B1, B2⟩ (fun j σ G _ hP => .inl (.inl hP.choose_spec.choose_spec.choose_spec.choose_spec.2.2.2.1)) (fun j x σ G hx' hP => ?_) (fun σ G hP => ?_)
      · obtain ⟨y10, y11, y12, y13, rfl, S, efd, els, hst, B1, B2⟩ := hP
        obtain ⟨ai, st, rfl, gi, gst, hai⟩ := ref_get hst hx'
        have mst := List.mem_of_getElem? gst
        refine ⟨ai, _, rfl, .inl (.inl hai), rfl, .int st.1, _, rfl, .str st.2.1, _, rfl, .int st.2.2, [], rfl, rfl, ?_⟩
        have md := List.mem_of_getElem? hd
        have g1 := fun k (hk : k ≠ i) => show f1 i (j + 1) k = f1 i j k by
          show (if k < i then _ else if k = i then _ else []) = (if k < i then _ else if k = i then _ else [])
          rw [if_neg hk, if_neg hk]
        have g2 := fun k (hk : k ≠ i) => show f2 i (j + 1) k = f2 i j k by
          show (if k < i then _ else if k = i then _ else []) = (if k < i then _ else if k = i then _ else [])
          rw [if_neg hk, if_neg hk]
        have h1 : ∀ j, f1 i j i = unD (ss.take j) (look fs) (look tb) d := fun j => by
          show (if i < i then _ else if i = i then unD (ss.take j) (look fs) (look tb) (gd i) else []) = _
          rw [if_neg (Nat.lt_irrefl i), if_pos rfl, gdk hd]
        have h2 : ∀ j, f2 i j i = seD (ss.take j) (look fs) (look tb) d := fun j => by
          show (if i < i then _ else if i = i then seD (ss.take j) (look fs) (look tb) (gd i) else []) = _
          rw [if_neg (Nat.lt_irrefl i), if_pos rfl, gdk hd]
        have u1 : unD (ss.take (j + 1)) (look fs) (look tb) d = unD (ss.take j) (look fs) (look tb) d ++ if st.1 = d.1 ∧ look tb st.2.1 = none then [bhd (look fs) d st] else [] := flat_take _ gst
        have u2 : seD (ss.take (j + 1)) (look fs) (look tb) d = seD (ss.take j) (look fs) (look tb) d ++ if st.1 = d.1 then ((look tb st.2.1).toList.map fun z => (z, bhd (look fs) d st)) else [] := flat_take _ gst
        have stay1 : (¬ (st.1 = d.1 ∧ look tb st.2.1 = none)) → ∀ k < ads1.length, f1 i j k = f1 i (j + 1) k := fun c k _ => by
          by_cases hk : k = i
          · rw [hk, h1, h1, u1, if_neg c, List.append_nil]
          · exact (g1 k hk).symm
        have stay2 : (¬ (st.1 = d.1 ∧ (look tb st.2.1).isSome = true)) → ∀ k < ads2.length, f2 i j k = f2 i (j + 1) k := fun c k _ => by
          by_cases hk : k = i
          · rw [hk, h2, h2, u2]
            by_cases c1 : st.1 = d.1
            · rw [if_pos c1]
              cases e : look tb st.2.1 with
              | none => simp
              | some z => rw [e] at c; exact (c ⟨c1, rfl⟩).elim
            · rw [if_neg c1, List.append_nil]
          · exact (g2 k hk).symm
        have dg : DGet G fd (.str st.2.1) ((look fs st.2.1).map V.str) := by
          have := DGet.k (k := .inr st.2.1) efd
          rw [look_val, lo st mst] at this
          exact this
        have gv : ((look fs st.2.1).map V.str).getD V.non = optV (look fs st.2.1) := by cases look fs st.2.1 <;> rfl
        by_cases c : st.1 = d.1
        · refine ⟨.int st.1, rfl, .int d.1, rfl, rfl, _, rfl, ?_⟩
          rw [decide_eq_true (show V.int st.1 = V.int d.1 by rw [c])]
          refine iteF ?_
          refine ⟨.int st.2.2, rfl, .ref ft, rfl, .ref fd, rfl, fd, rfl, .inl ⟨_, .inl efd⟩, .str st.2.1, rfl, _, dg, .ref n, rfl, ft, n, look fs st.2.1, d.2, names, by rw [gv]; rfl, S _ _ ht0.2, S _ _ hn, (okd d md).1, (okd d md).2, hf st mst, fun G2 ep s2 e2 => ⟨szl rfl, fun e ne => ?_⟩⟩
          have s3 := s2.trans (same_upd (o := .tup [V.int st.2.2, .ref ep]) ne)
          have re : RD (upd G2 e (.tup [V.int st.2.2, .ref ep])) (.ref e) (bhd (look fs) d st) := ⟨e, ep, rfl, upd_same, (same_upd (o := .tup [V.int st.2.2, .ref ep]) ne) _ _ e2⟩
          refine setn_use rfl ?_
          generalize upd G2 e (.tup [V.int st.2.2, .ref ep]) = G3 at s3 re ⊢
          have S3 := S.trans s3
          obtain ⟨wdx, wd, hwo, hwd⟩ := id (hw.mono S3)
          refine ⟨.str st.2.1, rfl, .ref wa, rfl, wa, wdx, _, rfl, hwo, wa, tb, st.2.1, rfl, hw.mono S3, nmW st mst, fun G4 s4 => ⟨_, rfl, ?_⟩⟩
          have S4 := S3.trans s4
          have s34 := s3.trans s4
          have re4 : RD G4 (.ref e) (bhd (look fs) d st) := RD_m _ _ (fun _ _ z => s4 _ _ z) _ _ re
          have B14 := B1.mono RD_m s34
          have B24 := B2.mono RS_m s34
          have kt : ∀ {kt : Addr} {G5 : Hp}, Same G4 G5 → G5 kt = some (.tup [.int d.1, .ref ft]) → KnN.NIs G5 (keyD d) (.ref kt) := fun {kt G5} s5 e5 => by
            obtain ⟨t', ez, nk'⟩ := row_nis (show KnA.RowAt G5 (.ref kt) d.1 d.2 from ⟨kt, ft, rfl, e5, s5 _ _ (S4 _ _ ht0.2)⟩)
            cases ez; exact nk'
          cases hl2 : look tb st.2.1 with
          | none =>
            refine ⟨false, rfl, iteF ?_⟩
            obtain ⟨a, vs, ea, va, ha, pa⟩ := B14.val nk hd
            refine ⟨.ref D1, rfl, .int d.1, rfl, .ref ft, rfl, szl rfl, fun k1 nk1 => ?_⟩
            have s5 := same_upd (o := .tup [V.int d.1, .ref ft]) nk1
            have e5 : (upd G4 k1 (.tup [V.int d.1, .ref ft])) k1 = some (.tup [.int d.1, .ref ft]) := upd_same
            generalize upd G4 k1 (.tup [V.int d.1, .ref ft]) = G5 at s5 e5 ⊢
            have B15 := B14.mono RD_m s5
            have B25 := B24.mono RS_m s5
            have ha5 := s5 _ _ ha
            have pa5 : Paired (RD G5) vs (f1 i j i) := Paired.mapP pa fun _ _ z => RD_m _ _ (fun _ _ q => s5 _ _ q) _ _ z
            have lv : vs.length ≤ 80 := by
              rw [Paired.length pa5, h1]
              exact Nat.le_trans (unD_len _ _ _ _) (by rw [List.length_take]; omega)
            refine ⟨D1, _, keyD d, k1, .ref a, rfl, rfl, B15.dn, kt s5 e5, rk_depth _ _, va, .inl ⟨rfl, _, .inl (.inl ha5)⟩, .ref e, rfl, a, vs, .ref e, rfl, rfl, ha5, small (by omega), ?_⟩
            have re5 := RD_m _ _ (fun _ _ z => s5 _ _ z) _ _ re4
            have na2 : a ∉ ads2 := dis a (List.mem_of_getElem? ea)
            have sU : Same H (upd G5 a (.lst (vs ++ [.ref e]))) := same_set ((B15.at_ i a ea).1) (S4.trans s5)
            have kU : ∀ b o, b ≠ a → G5 b = some o → (upd G5 a (.lst (vs ++ [.ref e]))) b = some o := fun b o nb z => (upd_ne nb).trans z
            have s35 := s34.trans s5
            refine ⟨_, _, _, _, rfl, sU, kU _ _ (ne_of (s35 _ _ efd) ha5 fun y => by cases y) (s35 _ _ efd), kU _ _ (fun y => nl1 (y ▸ List.mem_of_getElem? ea)) (s35 _ _ els), Paired.mapP hst fun _ _ y => kU _ _ (ne_of (s35 _ _ y) ha5 fun y => by cases y) (s35 _ _ y), (B15.push RD_m ea ha5 pa5 re5).congr fun k _ => ?_, (B25.other RS_m ha5 na2).congr (stay2 fun y => by have y2 := y.2; rw [hl2] at y2; cases y2)⟩
            show (if k = i then f1 i j i ++ [bhd (look fs) d st] else f1 i j k) = f1 i (j + 1) k
            by_cases hk : k = i
            · rw [if_pos hk, hk, h1, h1, u1, if_pos ⟨c, hl2⟩]
            · rw [if_neg hk, g1 k hk]
          | some z =>
            refine ⟨true, rfl, iteT ?_⟩
            obtain ⟨a, vs, ea, va, ha, pa⟩ := B24.val nk hd
            refine ⟨.ref D2, rfl, .int d.1, rfl, .ref ft, rfl, szl rfl, fun k1 nk1 => ?_⟩
            have s5 := same_upd (o := .tup [V.int d.1, .ref ft]) nk1
            have e5 : (upd G4 k1 (.tup [V.int d.1, .ref ft])) k1 = some (.tup [.int d.1, .ref ft]) := upd_same
            generalize upd G4 k1 (.tup [V.int d.1, .ref ft]) = G5 at s5 e5 ⊢
            have B15 := B14.mono RD_m s5
            have B25 := B24.mono RS_m s5
            have ha5 := s5 _ _ ha
            refine ⟨D2, _, keyD d, k1, .ref a, rfl, rfl, B25.dn, kt s5 e5, rk_depth _ _, va, .inl ⟨rfl, _, .inl (.inl ha5)⟩, ?_⟩
            have S5 := S4.trans s5
            refine ⟨.ref wa, rfl, .str st.2.1, rfl, wa, wdx, _, rfl, s5 _ _ (s4 _ _ hwo), wa, tb, st.2.1, rfl, hw.mono S5, nmW st mst, fun G6 s6 => ?_⟩
            rw [hl2]
            refine ⟨.ref e, rfl, szl rfl, fun tt ntt => ?_⟩
            have s7 := s6.trans (same_upd (o := .tup [optV (some z), .ref e]) ntt)
            have e7 : (upd G6 tt (.tup [optV (some z), .ref e])) tt = some (.tup [.str z, .ref e]) := upd_same
            generalize upd G6 tt (.tup [optV (some z), .ref e]) = G7 at s7 e7 ⊢
            have B17 := B15.mono RD_m s7
            have B27 := B25.mono RS_m s7
            have ha7 := s7 _ _ ha5
            have s57 := s5.trans s7
            have pa7 : Paired (RS G7) vs (f2 i j i) := Paired.mapP pa fun _ _ z => RS_m _ _ (fun _ _ q => s57 _ _ q) _ _ z
            have lv : vs.length ≤ 80 := by
              rw [Paired.length pa7, h2]
              exact Nat.le_trans (seD_len _ _ _ _) (by rw [List.length_take]; omega)
            refine ⟨a, vs, .ref tt, rfl, rfl, ha7, small (by omega), ?_⟩
            have re7 : RS G7 (.ref tt) (z, bhd (look fs) d st) := ⟨tt, .ref e, rfl, e7, RD_m _ _ (fun _ _ z => s57 _ _ z) _ _ re4⟩
            have na1 : a ∉ ads1 := fun y => dis a y (List.mem_of_getElem? ea)
            have sU : Same H (upd G7 a (.lst (vs ++ [.ref tt]))) := same_set ((B27.at_ i a ea).1) (S4.trans s57)
            have kU : ∀ b o, b ≠ a → G7 b = some o → (upd G7 a (.lst (vs ++ [.ref tt]))) b = some o := fun b o nb z => (upd_ne nb).trans z
            have s37 := s34.trans s57
            refine ⟨_, _, _, _, rfl, sU, kU _ _ (ne_of (s37 _ _ efd) ha7 fun y => by cases y) (s37 _ _ efd), kU _ _ (fun y => nl2 (y ▸ List.mem_of_getElem? ea)) (s37 _ _ els), Paired.mapP hst fun _ _ y => kU _ _ (ne_of (s37 _ _ y) ha7 fun y => by cases y) (s37 _ _ y), (B17.other RD_m ha7 na1).congr (stay1 fun y => by have y2 := y.2; rw [hl2] at y2; cases y2), (B27.push RS_m ea ha7 pa7 re7).congr fun k _ => ?_⟩
            show (if k = i then f2 i j i ++ [(z, bhd (look fs) d st)] else f2 i j k) = f2 i (j + 1) k
            by_cases hk : k = i
            · rw [if_pos hk, hk, h2, h2, u2, if_pos c, hl2]; rfl
            · rw [if_neg hk, g2 k hk]
        · refine ⟨.int st.1, rfl, .int d.1, rfl, rfl, _, rfl, ?_⟩
          rw [decide_eq_false (show ¬ V.int st.1 = V.int d.1 from fun z => c (V.int.inj z))]
          exact iteT ⟨_, _, _, _, rfl, S, efd, els, hst, B1.congr (stay1 fun z => c z.1), B2.congr (stay2 fun z => c z.1)⟩
      · obtain ⟨y10, y11, y12, y13, rfl, S, efd, els, hst, B1, B2⟩ := hP
        have la : (as.map V.ref).length = ss.length := by rw [List.length_map]; exact Paired.length hst
        rw [la] at B1 B2
        exact ⟨_, _, _, _, _, _, rfl, S, efd, els, hst, B1.congr fun k _ => e1 i k, B2.congr fun k _ => e2 i k⟩
    · obtain ⟨y8, y9, y10, y11, y12, y13, rfl, S, efd, els, hst, B1, B2⟩ := hP
      refine ⟨.ref D1, rfl, .ref D2, rfl, szl rfl, fun tt nt => ?_⟩
      have st := same_upd (o := .tup [V.ref D1, .ref D2]) nt
      refine q _ tt D1 D2 (S.trans st) upd_same ((B1.mono RD_m st).lis nk fun i d e => ?_) ((B2.mono RS_m st).lis nk fun i d e => ?_)
      · rw [z1, if_pos (by rw [ly]; exact (List.getElem?_eq_some_iff.mp e).1), gdk e]
      · rw [z2, if_pos (by rw [ly]; exact (List.getElem?_eq_some_iff.mp e).1), gdk e]

end
end Kn

set_option Elab.async false
set_option linter.all false
set_option maxRecDepth 100000
set_option maxHeartbeats 4000000
namespace Kn
open PySem PySem.Spec PyProof.Rows L2
open C8 (Cal pe_c pe_gc Mak pe_mk)
section
variable {P : Program} {w : World} {K : PySem.W.Frag} {mg : Str → Option Value} {base : Heap}
theorem paired_last {α β : Type} {R : α → β → Prop} {xs : List α} {ys : List β} (h : Paired R xs ys) (z : xs ≠ []) : ∃ xs0 x ys0 y, xs = xs0 ++ [x] ∧ ys = ys0 ++ [y] ∧ Paired R xs0 ys0 ∧ R x y := by
  induction h with
  | nil => exact (z rfl).elim
  | cons a h ih =>
    cases h with
    | nil => exact ⟨[], _, [], _, rfl, rfl, .nil, a⟩
    | cons b h' =>
      obtain ⟨xs0, x, ys0, y, e1, e2, p, q⟩ := ih fun q => by cases q
      exact ⟨_ :: xs0, x, _ :: ys0, y, by rw [e1]; rfl, by rw [e2]; rfl, .cons a p, q⟩

/-! ### sets of pairs as numbers, by the object's places -/
def plD : Nat → List KnA.Dat → List (NestedKey × V)
  | _, [] => []
  | k, d :: r => (keyD d, .int (k : Int)) :: plD (k + 1) r
theorem plD_keys : ∀ (ds : List KnA.Dat) (k : Nat), (plD k ds).map (·.1) = ds.map keyD
  | [], _ => rfl
  | d :: r, k => by
    show keyD d :: (plD (k + 1) r).map (·.1) = keyD d :: r.map keyD
    rw [plD_keys r]
theorem plD_snoc (d : KnA.Dat) : ∀ (ds : List KnA.Dat) (k : Nat), plD k (ds ++ [d]) = plD k ds ++ [(keyD d, V.int ((k + ds.length : Nat) : Int))]
  | [], _ => rfl
  | e :: r, k => by
    show (keyD e, V.int (k : Int)) :: plD (k + 1) (r ++ [d]) = (keyD e, V.int (k : Int)) :: plD (k + 1) r ++ _
    rw [plD_snoc d r (k + 1), List.cons_append, List.length_cons, show k + 1 + r.length = k + (r.length + 1) by omega]
theorem plD_mem : ∀ {ds : List KnA.Dat} {k i : Nat} {d : KnA.Dat}, ds[i]? = some d → (keyD d, V.int ((k + i : Nat) : Int)) ∈ plD k ds
  | [], _, _, _, h => by cases h
  | e :: r, k, 0, d, h => by
    rw [← Option.some.inj h]
    exact List.mem_cons_self
  | e :: r, k, i + 1, d, h => by
    have := plD_mem (k := k + 1) (i := i) (show r[i]? = some d from h)
    rw [show k + 1 + i = k + (i + 1) by omega] at this
    exact List.mem_cons_of_mem _ this
theorem plD_val {ds : List KnA.Dat} (nk : (ds.map keyD).Nodup) {i : Nat} {d : KnA.Dat} (e : ds[i]? = some d) : valV (plD 0 ds) (keyD d) = some (.int (i : Int)) := by
  have := valN_mem (by rw [plD_keys]; exact nk) (plD_mem (k := 0) e)
  rwa [Nat.zero_add] at this
theorem keys_nd {ds : List KnA.Dat} (nk : (ds.map keyD).Nodup) : ds.Nodup := (List.pairwise_map.mp (show (ds.map fun d => keyD d).Nodup from nk)).imp fun ne e => ne (by rw [e])
theorem two_pow (j : Nat) : (1 : Int) * 2 ^ ((j : Nat) : Int).toNat = ((2 ^ j : Nat) : Int) := by
  rw [Int.one_mul, Int.toNat_natCast]; push_cast; rfl
structure Clo (ss : List KnA.Stp) (lf lw : Lk) (d : KnA.Dat) (ds F W : List KnA.Dat) (q : Option KnA.Dat) : Prop where
  nd : F.Nodup
  sub : ∀ p ∈ F, p ∈ ds
  re : ∀ p ∈ F, Rch ss lf lw d p
  d0 : d ∈ F
  wf : ∀ p ∈ W, p ∈ F
  cl : ∀ p ∈ F, p ∉ W → q ≠ some p → ∀ r ∈ unD ss lf lw p, r ∈ F
theorem Clo.done {ss : List KnA.Stp} {lf lw : Lk} {d : KnA.Dat} {ds F : List KnA.Dat} (h : Clo ss lf lw d ds F [] none) (p : KnA.Dat) : p ∈ F ↔ Rch ss lf lw d p := by
  refine ⟨h.re p, fun r => ?_⟩
  induction r with
  | refl => exact h.d0
  | step _ m e n ih => exact h.cl _ ih (fun z => nomatch z) (fun z => nomatch z) _ (unD_mem.mpr ⟨_, m, e, n, rfl⟩)
theorem Clo.add {ss : List KnA.Stp} {lf lw : Lk} {d : KnA.Dat} {ds F W : List KnA.Dat} {q r : KnA.Dat} (h : Clo ss lf lw d ds F W (some q)) (hq : q ∈ F) (hr : r ∈ unD ss lf lw q) (hd : r ∈ ds) (nr : r ∉ F) : Clo ss lf lw d ds (F ++ [r]) (W ++ [r]) (some q) := by
  refine ⟨List.nodup_append.mpr ⟨h.nd, List.pairwise_singleton _ r, fun a ha b hb e => nr (List.mem_singleton.mp hb ▸ e ▸ ha)⟩, fun p hp => ?_, fun p hp => ?_, List.mem_append_left _ h.d0, fun p hp => ?_, fun p hp hw hq' x hx => ?_⟩
  · rcases List.mem_append.mp hp with z | z
    · exact h.sub p z
    · rw [List.mem_singleton.mp z]; exact hd
  · rcases List.mem_append.mp hp with z | z
    · exact h.re p z
    · rw [List.mem_singleton.mp z]
      obtain ⟨x, hx, a, b, rfl⟩ := unD_mem.mp hr
      exact .step (h.re q hq) hx a b
  · rcases List.mem_append.mp hp with z | z
    · exact List.mem_append_left _ (h.wf p z)
    · exact List.mem_append_right _ z
  · rcases List.mem_append.mp hp with z | z
    · exact List.mem_append_left _ (h.cl p z (fun y => hw (List.mem_append_left _ y)) hq' x hx)
    · exact (hw (List.mem_append_right _ z)).elim
def sp_Spread_closure {P : Program} {w : World} (_ : PySem.W.Frag) (S : Addr) : Sp := fun vs H Q _ => ∃ (a dx pl t un : Addr) (fl : List (Str × V)) (ds : List KnA.Dat) (d : KnA.Dat) (ss : List KnA.Stp) (lf lw : Lk), vs = [.ref a, .ref t, .ref un] ∧ H a = some (.ins S dx fl) ∧ fl.lookup ("places" : Str) = some (.ref pl) ∧ KnN.DNAt P w H pl (plD 0 ds) ∧
  LisAt P w RD H un ds (unD ss lf lw) ∧ KnA.RowAt H (.ref t) d.1 d.2 ∧ d ∈ ds ∧ (ds.map keyD).Nodup ∧ ds.length ≤ 60 ∧ (∀ p ∈ ds, ∀ q ∈ unD ss lf lw p, q ∈ ds) ∧
  ∀ (H' : Hp) (m : Nat), Same H H' → IsSetU ds m (Rch ss lf lw d) → Q (.int (m : Int)) H'
theorem ok_Spread_closure {f : Addr} {C D S : Addr} {fd : FuncData} (T : Txt K mg C D S) (F : Fun K "closure" "Spread.closure" s_Spread_closure f fd)  : FnOk P w K mg base CX0 1 f fd ["self", "pair", "unseen"] (sp_Spread_closure (P := P) (w := w) K S) := by
  have nd := sc_Spread_closure.nd
  refine F.ok sc_Spread_closure (fun vs H Q E h => ?_) (fun cdv A outer s H vs Q E hr h => ?_)
  · obtain ⟨a, dx, pl, t, un, fl, ds, d, ss, lf, lw, rfl, _⟩ := h
    rfl
  · obtain ⟨a, dx, pl, t, un, fl, ds, d, ss, lf, lw, rfl, ob, fp, dn, li, rt, hd, nk, few, clo, q⟩ := h
    refine ⟨_, (pss_cons (ps_set (i := 3) nd rfl (.inl rfl) (pe_op op_shl pe_int (KnN.pe_nget (KnC.un65 hr) (pe_fld (pv 0) rfl) (pv 1) (fun _ _ => rfl))))
      (pss_cons (ps_set (i := 4) nd rfl (.inl rfl) (pe_lst (pa_cons (pv 1) pa_nil)))
      (pss_cons (ps_while PassesOwn.never (pt_cmpR op_gt (pe_callB call_len (by rfl) T.m_len (by decide +kernel) (pa_cons (pv 4) pa_nil)) pe_int (nomark _)) (pss_one (ps_for PassesOwn.never rfl (pi_list (KnN.pe_nget (KnC.un65 hr) (pv 2) (pe_bm0 PySem.F.plainAttrs_list PySem.F.slot_list_pop PySem.F.type_list_pop mt_pop (pv 4)) (fun _ _ => rfl))) (pg_name (i := 5) nd rfl (.inl rfl)) (pss_cons (ps_set (i := 6) nd rfl (.inl rfl) (pe_op op_shl pe_int (KnN.pe_nget (KnC.un65 hr) (pe_fld (pv 0) rfl) (pv 5) (fun _ _ => rfl))))
      (pss_one (ps_if (pt_cmpR op_eq (pe_op op_and (pv 3) (pv 6)) pe_int (nomark _)) (pss_cons (ps_set (i := 3) nd rfl (.inl rfl) (pe_op op_or (pv 3) (pv 6)))
      (pss_one (ps_expr (pe_bm PySem.F.plainAttrs_list PySem.F.slot_list_append PySem.F.type_list_append mt_append (pv 4) (pa_cons (pv 5) pa_nil))))) pss_nil))))))
      (pss_one (ps_ret (pv 3)))))), ?_⟩
    have ndd := keys_nd nk
    obtain ⟨j0, hj0⟩ := List.getElem?_of_mem hd
    have j0l : j0 < ds.length := (List.getElem?_eq_some_iff.mp hj0).1
    obtain ⟨t0, et0, nk0⟩ := row_nis rt
    cases et0
    refine ⟨.ref a, rfl, a, S, dx, fl, _, rfl, ob, T.cl_Spread, T.n_places, fp, .ref t, rfl, pl, _, _, t, _, rfl, rfl, dn, nk0, rk_depth _ _, plD_val nk hj0, 1, (j0 : Int), rfl, rfl, ⟨by omega, by omega, by decide⟩, ?_⟩
    refine setn_use (σ' := [some (.ref a), some (.ref t), some (.ref un), some (.int ((2 ^ j0 : Nat) : Int)), none, none, none]) (by rw [← two_pow]; rfl) ?_
    refine ⟨.ref t, rfl, szl rfl, fun W nW => ?_⟩
    have sW := same_upd (o := .lst [V.ref t]) nW
    have eW0 : (upd H W (.lst [V.ref t])) W = some (.lst [.ref t]) := upd_same
    refine setn_use rfl ?_
    generalize upd H W (.lst [V.ref t]) = H1 at sW eW0 ⊢
    refine ⟨fun k σ G => ∃ (y5 y6 : Option V) (m : Nat) (F Wd : List KnA.Dat) (ws : List V), σ = [some (.ref a), some (.ref t), some (.ref un), some (.int (m : Int)), some (.ref W), y5, y6] ∧ Same H G ∧ G W = some (.lst ws) ∧ RowsP G ws Wd ∧ Clo ss lf lw d ds F Wd none ∧ IsSetU ds m (· ∈ F) ∧ 2 * (ds.length - F.length) + Wd.length ≤ 200 ∧ k = 2 * (ds.length - F.length) + Wd.length,
      ⟨_, none, none, 2 ^ j0, [d], [d], [.ref t], rfl, sW, eW0, .cons (rt.ext fun _ _ z => sW _ _ z) .nil, ⟨List.pairwise_singleton _ d, fun p hp => List.mem_singleton.mp hp ▸ hd, fun p hp => List.mem_singleton.mp hp ▸ .refl, List.mem_singleton.mpr rfl, fun p hp => hp, fun p hp hn => (hn hp).elim⟩, (IsSetU.one ndd hj0).iff fun p _ => List.mem_singleton.symm, by show 2 * (ds.length - 1) + 1 ≤ 200; omega, rfl⟩, fun k σ G hW => ?_⟩
    obtain ⟨y5, y6, m, F', Wd, ws, rfl, S1, eW, rw1, C1, im, b200, rfl⟩ := hW
    have lw1 := Paired.length rw1
    refine ⟨.ref W, rfl, .ref W, ws.length, rfl, .inl ⟨_, .inl (.inl eW), rfl⟩, (ws.length : Int), 0, rfl, rfl, _, rfl, ?_⟩
    by_cases z : Wd = []
    · subst z
      rw [List.length_nil] at lw1
      rw [decide_eq_false (show ¬ (0 : Int) < (ws.length : Int) by omega)]
      exact iteF ⟨.int (m : Int), rfl, q G m S1 (im.iff fun p _ => C1.done p)⟩
    · have lw2 : 0 < Wd.length := List.length_pos_iff.mpr z
      rw [decide_eq_true (show (0 : Int) < (ws.length : Int) by omega)]
      obtain ⟨ws0, v0, W0, q0, rfl, rfl, rw0, r0⟩ := paired_last rw1 (fun e => by rw [e] at lw1; rw [List.length_nil] at lw1; omega)
      obtain ⟨t1, rfl, nk1⟩ := row_nis r0
      have q0F : q0 ∈ F' := C1.wf q0 (List.mem_append_right _ (List.mem_singleton.mpr rfl))
      have q0d := C1.sub q0 q0F
      refine iteT ⟨fun σ G => ∃ (y5 y6 : Option V) (m' : Nat) (F Wd : List KnA.Dat) (ws : List V), σ = [some (.ref a), some (.ref t), some (.ref un), some (.int (m' : Int)), some (.ref W), y5, y6] ∧ Same H G ∧ G W = some (.lst ws) ∧ RowsP G ws Wd ∧ Clo ss lf lw d ds F Wd none ∧ IsSetU ds m' (· ∈ F) ∧ 2 * (ds.length - F.length) + Wd.length < 2 * (ds.length - F'.length) + (W0 ++ [q0]).length,
        fun σ G ⟨y5, y6, m', F, Wd, ws, e, a1, a2, a3, a4, a5, a6⟩ => ⟨_, a6, y5, y6, m', F, Wd, ws, e, a1, a2, a3, a4, a5, Nat.le_trans (Nat.le_of_lt a6) b200, rfl⟩, ?_⟩
      refine ⟨.ref un, rfl, .ref W, rfl, .inl ⟨rfl, _, .inl (.inl eW)⟩, W, ws0 ++ [V.ref t1], .ref t1, rfl, rfl, eW, by rw [List.length_append]; exact List.getElem?_concat_length, ?_⟩
      rw [List.dropLast_concat]
      have S2 : Same H (upd G W (.lst ws0)) := same_set nW S1
      have eW2 : (upd G W (.lst ws0)) W = some (.lst ws0) := upd_same
      have kt : ∀ b xs, G b = some (.tup xs) → (upd G W (.lst ws0)) b = some (.tup xs) := fun b xs e => (upd_ne (ne_of e eW fun y => by cases y)).trans e
      have rw2 : RowsP (upd G W (.lst ws0)) ws0 W0 := RowsP.ext kt rw0
      have nk2 := KnN.NIs.ext kt _ _ nk1
      generalize upd G W (.lst ws0) = G2 at S2 eW2 rw2 nk2 ⊢
      obtain ⟨kvs, dnu, allu⟩ := id li
      obtain ⟨l, us, vl, el, pu⟩ := allu q0 q0d
      refine ⟨un, kvs, keyD q0, t1, .ref l, rfl, rfl, dnu.mono S2, nk2, rk_depth _ _, vl, l, rfl, ⟨_, .inl (.inl (S2 _ _ el))⟩, ?_⟩
      have lus := Paired.length pu
      refine for_list (K := K) (a := l) (xs := us) (fun j σ G => ∃ (y5 y6 : Option V) (m' : Nat) (F Wd : List KnA.Dat) (ws : List V), σ = [some (.ref a), some (.ref t), some (.ref un), some (.int (m' : Int)), some (.ref W), y5, y6] ∧ Same H G ∧ G W = some (.lst ws) ∧ RowsP G ws Wd ∧ Clo ss lf lw d ds F Wd (some q0) ∧ q0 ∈ F ∧ (∀ r ∈ (unD ss lf lw q0).take j, r ∈ F) ∧ IsSetU ds m' (· ∈ F) ∧ 2 * (ds.length - F.length) + Wd.length < 2 * (ds.length - F'.length) + (W0 ++ [q0]).length)
        ⟨y5, y6, m, F', W0, ws0, rfl, S2, eW2, rw2, ⟨C1.nd, C1.sub, C1.re, C1.d0, fun p hp => C1.wf p (List.mem_append_left _ hp), fun p hp hw hq => C1.cl p hp (fun y => (List.mem_append.mp y).elim hw fun y => hq (by rw [List.mem_singleton.mp y])) (fun y => nomatch y)⟩, q0F, fun r hr => (by rw [List.take_zero] at hr; cases hr), im, by rw [List.length_append]; exact Nat.lt_succ_self _⟩
        (fun j σ G _ hP => .inl (.inl (hP.choose_spec.choose_spec.choose_spec.choose_spec.choose_spec.choose_spec.2.1 _ _ el))) (fun j x σ G hx hP => ?_) (fun σ G hP => ?_)
      · obtain ⟨y5, y6, m1, F1, W1, ws1, rfl, S3, eW3, rw3, C3, q3, f3, im3, lt3⟩ := hP
        obtain ⟨r, hr, rx⟩ := paired_get pu hx
        have mr := List.mem_of_getElem? hr
        have rd := clo q0 q0d r mr
        obtain ⟨jr, hjr⟩ := List.getElem?_of_mem rd
        have jrl : jr < ds.length := (List.getElem?_eq_some_iff.mp hjr).1
        have rx3 : KnA.RowAt G x r.1 r.2 := rx.ext fun _ _ z => S3 _ _ z
        obtain ⟨t2, rfl, nk3⟩ := row_nis rx3
        refine ⟨.ref a, rfl, a, S, dx, fl, _, rfl, S3 _ _ ob, T.cl_Spread, T.n_places, fp, .ref t2, rfl, pl, _, _, t2, _, rfl, rfl, dn.mono S3, nk3, rk_depth _ _, plD_val nk hjr, 1, (jr : Int), rfl, rfl, ⟨by omega, by omega, by decide⟩, ?_⟩
        refine setn_use (σ' := [some (.ref a), some (.ref t), some (.ref un), some (.int (m1 : Int)), some (.ref W), some (.ref t2), some (.int ((2 ^ jr : Nat) : Int))]) (by rw [← two_pow]; rfl) ?_
        have eb : Builtin.bitAnd (m1 : Int) ((2 ^ jr : Nat) : Int) = ((m1 &&& 2 ^ jr : Nat) : Int) := KnA.b_and _ _
        have eo : Builtin.bitOr (m1 : Int) ((2 ^ jr : Nat) : Int) = ((m1 ||| 2 ^ jr : Nat) : Int) := KnA.b_or _ _
        refine ⟨.int (m1 : Int), rfl, .int ((2 ^ jr : Nat) : Int), rfl, (m1 : Int), ((2 ^ jr : Nat) : Int), rfl, rfl, rfl, _, rfl, ?_⟩
        show if decide (V.int (Builtin.bitAnd (m1 : Int) ((2 ^ jr : Nat) : Int)) = V.int 0) = true then _ else _
        rw [eb]
        have tk : (unD ss lf lw q0).take (j + 1) = (unD ss lf lw q0).take j ++ [r] := take_more hr
        by_cases c : m1 &&& 2 ^ jr = 0
        · have nr : r ∉ F1 := (im3.bit hjr).mp c
          rw [decide_eq_true (show V.int ((m1 &&& 2 ^ jr : Nat) : Int) = V.int 0 by rw [c]; rfl)]
          have le := nodup_le (C3.add q3 mr rd nr).nd (C3.add q3 mr rd nr).sub
          rw [List.length_append] at le
          have le : F1.length + 1 ≤ ds.length := le
          refine iteT ⟨.int (m1 : Int), rfl, .int ((2 ^ jr : Nat) : Int), rfl, (m1 : Int), ((2 ^ jr : Nat) : Int), rfl, rfl, ?_⟩
          refine setn_use (σ' := [some (.ref a), some (.ref t), some (.ref un), some (.int ((m1 ||| 2 ^ jr : Nat) : Int)), some (.ref W), some (.ref t2), some (.int ((2 ^ jr : Nat) : Int))]) (by rw [← eo]; rfl) ?_
          have lw3 := Paired.length rw3
          rw [List.length_append] at lt3
          have lt3 : 2 * (ds.length - F1.length) + W1.length < 2 * (ds.length - F'.length) + (W0.length + 1) := lt3
          have lF := nodup_le C1.nd C1.sub
          rw [List.length_append] at b200
          have b200 : 2 * (ds.length - F'.length) + (W0.length + 1) ≤ 200 := b200
          refine ⟨.ref W, rfl, .inl ⟨rfl, _, .inl (.inl eW3)⟩, .ref t2, rfl, W, ws1, .ref t2, rfl, rfl, eW3, small (by omega), ?_⟩
          have kt3 : ∀ b xs, G b = some (.tup xs) → (upd G W (.lst (ws1 ++ [V.ref t2]))) b = some (.tup xs) := fun b xs e => (upd_ne (ne_of e eW3 fun y => by cases y)).trans e
          refine ⟨_, _, _, F1 ++ [r], W1 ++ [r], ws1 ++ [V.ref t2], rfl, same_set nW S3, upd_same, Paired.snoc (RowsP.ext kt3 rw3) (rx3.ext kt3), C3.add q3 mr rd nr, List.mem_append_left _ q3, fun p hp => ?_, (im3.or (IsSetU.one ndd hjr)).iff fun p _ => ?_, ?_⟩
          · rw [tk] at hp
            exact (List.mem_append.mp hp).elim (fun y => List.mem_append_left _ (f3 p y)) fun y => List.mem_append_right _ y
          · rw [List.mem_append, List.mem_singleton]
          · rw [List.length_append, List.length_append, List.length_append]
            show 2 * (ds.length - (F1.length + 1)) + (W1.length + 1) < 2 * (ds.length - F'.length) + (W0.length + 1)
            omega
        · have hrF : r ∈ F1 := Classical.byContradiction fun y => c ((im3.bit hjr).mpr y)
          rw [decide_eq_false (show ¬ V.int ((m1 &&& 2 ^ jr : Nat) : Int) = V.int 0 from fun y => c (by have := V.int.inj y; omega))]
          refine iteF ⟨_, _, m1, F1, W1, ws1, rfl, S3, eW3, rw3, C3, q3, fun p hp => ?_, im3, lt3⟩
          rw [tk] at hp
          exact (List.mem_append.mp hp).elim (f3 p) fun y => List.mem_singleton.mp y ▸ hrF
      · obtain ⟨y5, y6, m1, F1, W1, ws1, rfl, S3, eW3, rw3, C3, q3, f3, im3, lt3⟩ := hP
        rw [lus, List.take_length] at f3
        refine ⟨y5, y6, m1, F1, W1, ws1, rfl, S3, eW3, rw3, ⟨C3.nd, C3.sub, C3.re, C3.d0, C3.wf, fun p hp hw _ x hx => ?_⟩, im3, lt3⟩
        by_cases e : q0 = p
        · rw [← e] at hx; exact f3 x hx
        · exact C3.cl p hp hw (fun y => e (Option.some.inj y)) x hx

end
end Kn

set_option Elab.async false
set_option linter.all false
set_option maxRecDepth 100000
set_option maxHeartbeats 4000000
namespace Kn
open PySem PySem.Spec PyProof.Rows L2
open C8 (Cal pe_c pe_gc Mak pe_mk)
section
variable {P : Program} {w : World} {K : PySem.W.Frag} {mg : Str → Option Value} {base : Heap}

/-! ### a Spread -/
structure Acc (U : List KnA.Dat) (kvs : List (Key × V)) (zs : List Str) (R : Str → KnA.Dat → Prop) : Prop where
  keys : kvs.map (·.1) = zs.map Sum.inr
  nd : zs.Nodup
  val : ∀ z ∈ zs, ∃ m : Nat, valV kvs (.inr z) = some (.int (m : Int)) ∧ IsSetU U m (R z)
  mem : ∀ z, z ∈ zs ↔ ∃ q, R z q
theorem Acc.nil {U : List KnA.Dat} {R : Str → KnA.Dat → Prop} (h : ∀ z q, ¬ R z q) : Acc U [] [] R := ⟨rfl, List.nodup_nil, (fun _ h => (nomatch h)), fun z => ⟨fun h => (nomatch h), fun ⟨q, k⟩ => (h z q k).elim⟩⟩
theorem Acc.iff {U : List KnA.Dat} {kvs : List (Key × V)} {zs : List Str} {R R' : Str → KnA.Dat → Prop} (h : Acc U kvs zs R) (e : ∀ z q, R z q ↔ R' z q) : Acc U kvs zs R' :=
  ⟨h.keys, h.nd, fun z hz => let ⟨m, a, b⟩ := h.val z hz; ⟨m, a, b.iff fun q _ => e z q⟩, fun z => (h.mem z).trans ⟨fun ⟨q, k⟩ => ⟨q, (e z q).mp k⟩, fun ⟨q, k⟩ => ⟨q, (e z q).mpr k⟩⟩⟩
theorem inr_nd {zs : List Str} (h : zs.Nodup) : (zs.map (Sum.inr : Str → Key)).Nodup := List.Pairwise.map _ (fun _ _ n e => n (Sum.inr.inj e)) h
theorem inr_mem {zs : List Str} {z : Str} : (Sum.inr z : Key) ∈ zs.map Sum.inr ↔ z ∈ zs := by
  rw [List.mem_map]
  exact ⟨fun ⟨y, hy, e⟩ => Sum.inr.inj e ▸ hy, fun h => ⟨z, h, rfl⟩⟩
theorem Acc.has {U : List KnA.Dat} {kvs : List (Key × V)} {zs : List Str} {R : Str → KnA.Dat → Prop} (h : Acc U kvs zs R) (z : Str) : (valV kvs (.inr z)).isSome = true ↔ ∃ q, R z q := by
  rw [valN_in, h.keys, inr_mem, h.mem]
/-- what stands for z, and what a missing one counts as -/
theorem Acc.got {U : List KnA.Dat} {kvs : List (Key × V)} {zs : List Str} {R : Str → KnA.Dat → Prop} (h : Acc U kvs zs R) (z : Str) : ∃ m : Nat, (valV kvs (.inr z)).getD (.int 0) = .int (m : Int) ∧ IsSetU U m (R z) := by
  by_cases c : z ∈ zs
  · obtain ⟨m, a, b⟩ := h.val z c
    exact ⟨m, by rw [a]; rfl, b⟩
  · have n : valV kvs (.inr z) = none := by
      cases e : valV kvs (.inr z) with
      | none => rfl
      | some v => exact (c ((h.mem z).mpr ((h.has z).mp (by rw [e]; rfl)))).elim
    exact ⟨0, by rw [n]; rfl, IsSetU.zero.iff fun q _ => ⟨fun f => f.elim, fun k => c ((h.mem z).mpr ⟨q, k⟩)⟩⟩
theorem Acc.put {U : List KnA.Dat} {kvs : List (Key × V)} {zs : List Str} {R : Str → KnA.Dat → Prop} (h : Acc U kvs zs R) {z : Str} {S : KnA.Dat → Prop} {m : Nat} (hm : IsSetU U m fun q => R z q ∨ S q) (ne : ∃ q, S q) : Acc U (putK kvs (.inr z) (.int (m : Int))) (if z ∈ zs then zs else zs ++ [z]) (fun y q => R y q ∨ (y = z ∧ S q)) := by
  have nk : (kvs.map (·.1)).Nodup := by rw [h.keys]; exact inr_nd h.nd
  refine ⟨?_, ?_, fun y hy => ?_, fun y => ?_⟩
  · rw [putK_keys, h.keys]
    unfold KnS.addL
    by_cases c : z ∈ zs
    · rw [if_pos c]
      have : KnS.hasL (zs.map Sum.inr) (Sum.inr z) = true := (KnS.hasL_iff).mpr (inr_mem.mpr c)
      rw [if_pos this]
    · rw [if_neg c]
      have : ¬ KnS.hasL (zs.map Sum.inr) (Sum.inr z) = true := fun k => c (inr_mem.mp ((KnS.hasL_iff).mp k))
      rw [if_neg this, List.map_append]; rfl
  · by_cases c : z ∈ zs
    · rw [if_pos c]; exact h.nd
    · rw [if_neg c]
      exact List.nodup_append.mpr ⟨h.nd, List.pairwise_singleton _ z, fun a ha b hb e => c (List.mem_singleton.mp hb ▸ e ▸ ha)⟩
  · rw [valV_put]
    by_cases e : (Sum.inr y : Key) = Sum.inr z
    · rw [if_pos e]
      have e := Sum.inr.inj e
      exact ⟨m, rfl, hm.iff fun q _ => by rw [e]; simp⟩
    · rw [if_neg e]
      have ne' : y ≠ z := fun k => e (by rw [k])
      have hy' : y ∈ zs := by
        by_cases c : z ∈ zs
        · rwa [if_pos c] at hy
        · rw [if_neg c] at hy
          exact (List.mem_append.mp hy).resolve_right fun k => ne' (List.mem_singleton.mp k)
      obtain ⟨m', a, b⟩ := h.val y hy'
      exact ⟨m', a, b.iff fun q _ => ⟨.inl, fun k => k.resolve_right fun k => ne' k.1⟩⟩
  · constructor
    · intro hy
      by_cases c : z ∈ zs
      · rw [if_pos c] at hy
        obtain ⟨q, k⟩ := (h.mem y).mp hy
        exact ⟨q, .inl k⟩
      · rw [if_neg c] at hy
        rcases List.mem_append.mp hy with hy | hy
        · obtain ⟨q, k⟩ := (h.mem y).mp hy
          exact ⟨q, .inl k⟩
        · obtain ⟨q, k⟩ := ne
          exact ⟨q, .inr ⟨List.mem_singleton.mp hy, k⟩⟩
    · rintro ⟨q, k | ⟨rfl, k⟩⟩
      · have := (h.mem y).mpr ⟨q, k⟩
        split
        · exact this
        · exact List.mem_append_left _ this
      · split
        · assumption
        · exact List.mem_append_right _ (List.mem_singleton.mpr rfl)
theorem Acc.len {U : List KnA.Dat} {kvs : List (Key × V)} {zs : List Str} {R : Str → KnA.Dat → Prop} (h : Acc U kvs zs R) : kvs.length = zs.length := by
  have := congrArg List.length h.keys
  rwa [List.length_map, List.length_map] at this
def sflds (lp pl le : Addr) (fm : Nat) : List (Str × V) := putF "entered" (.ref le) (putF "first" (.int (fm : Int)) (putF "places" (.ref pl) (putF "pairs" (.ref lp) [])))
structure SprO (P : Program) (w : World) (S : Addr) (H : Hp) (a dx lp pl le : Addr) (ys : List V) (ds : List KnA.Dat) (ads : List Addr) (ss : List KnA.Stp) (lf lw : Lk) (s0 : Int) (fm : Nat) : Prop where
  ob : H a = some (.ins S dx (sflds lp pl le fm))
  pairs : H lp = some (.lst ys)
  rows : RowsP H ys ds
  plc : KnN.DNAt P w H pl (plD 0 ds)
  first : IsSetU ds fm (Rch ss lf lw (s0, []))
  ent : H le = some (.lst (ads.map V.ref))
  elen : ads.length = ds.length
  row : ∀ (k : Nat) (c : Addr) (d : KnA.Dat), ads[k]? = some c → ds[k]? = some d → ∃ kvs zs, H c = some (.dK kvs) ∧ zs.length ≤ 1000 ∧ Acc ds kvs zs fun z q => ∃ r, Sees ss lf lw z d r ∧ Rch ss lf lw r q
theorem SprO.mono {P : Program} {w : World} {S : Addr} {H H' : Hp} {a dx lp pl le : Addr} {ys : List V} {ds : List KnA.Dat} {ads : List Addr} {ss : List KnA.Stp} {lf lw : Lk} {s0 : Int} {fm : Nat} (o : SprO P w S H a dx lp pl le ys ds ads ss lf lw s0 fm) (s : Same H H') : SprO P w S H' a dx lp pl le ys ds ads ss lf lw s0 fm :=
  ⟨s _ _ o.ob, s _ _ o.pairs, o.rows.ext fun _ _ z => s _ _ z, o.plc.mono s, o.first, s _ _ o.ent, o.elen, fun k c d e1 e2 => let ⟨kvs, zs, h, l, x⟩ := o.row k c d e1 e2; ⟨kvs, zs, s _ _ h, l, x⟩⟩
theorem sf_pairs (lp pl le : Addr) (fm : Nat) : (sflds lp pl le fm).lookup ("pairs" : Str) = some (.ref lp) := by
  unfold sflds; simp only [lookup_putF]; rw [if_neg (by decide +kernel), if_neg (by decide +kernel), if_neg (by decide +kernel), if_pos True.intro]
theorem sf_places (lp pl le : Addr) (fm : Nat) : (sflds lp pl le fm).lookup ("places" : Str) = some (.ref pl) := by
  unfold sflds; simp only [lookup_putF]; rw [if_neg (by decide +kernel), if_neg (by decide +kernel), if_pos True.intro]
theorem sf_first (lp pl le : Addr) (fm : Nat) : (sflds lp pl le fm).lookup ("first" : Str) = some (.int (fm : Int)) := by
  unfold sflds; simp only [lookup_putF]; rw [if_neg (by decide +kernel), if_pos True.intro]
theorem sf_entered (lp pl le : Addr) (fm : Nat) : (sflds lp pl le fm).lookup ("entered" : Str) = some (.ref le) := by
  unfold sflds; simp only [lookup_putF]; rw [if_pos True.intro]
/-- the pairs of a set, in their order -/
def pin (ds : List KnA.Dat) (m : Nat) : List KnA.Dat := (plc m ds.length).filterMap fun i => ds[i]?
theorem pin_sub (ds : List KnA.Dat) (m : Nat) : (pin ds m).Sublist ds := by
  have g : ∀ (ds : List KnA.Dat) (f : Nat → Bool), (((List.range ds.length).filter f).filterMap fun i => ds[i]?).Sublist ds := fun ds => by
    induction ds with
    | nil => exact fun f => List.nil_sublist _
    | cons d r ih =>
      intro f
      have e : ((List.range (d :: r).length).filter f).filterMap (fun i => (d :: r)[i]?) = (if f 0 = true then [d] else []) ++ ((List.range r.length).filter fun i => f (i + 1)).filterMap fun i => r[i]? := by
        rw [List.length_cons, List.range_succ_eq_map, List.filter_cons]
        have e2 : ((List.map Nat.succ (List.range r.length)).filter f).filterMap (fun i => (d :: r)[i]?) = ((List.range r.length).filter fun i => f (i + 1)).filterMap fun i => r[i]? := by
          rw [List.filter_map, List.filterMap_map]; rfl
        by_cases c : f 0 = true
        · rw [if_pos c, if_pos c, List.filterMap_cons, e2]; rfl
        · rw [if_neg c, if_neg c, e2]; rfl
      rw [e]
      by_cases c : f 0 = true
      · rw [if_pos c]; exact List.Sublist.cons_cons d (ih _)
      · rw [if_neg c]; exact List.Sublist.cons d (ih _)
  exact g ds _
theorem pin_mem {ds : List KnA.Dat} {m : Nat} {S : KnA.Dat → Prop} (h : IsSetU ds m S) (q : KnA.Dat) : q ∈ pin ds m ↔ q ∈ ds ∧ S q := by
  unfold pin
  rw [List.mem_filterMap]
  constructor
  · rintro ⟨i, hi, e⟩
    obtain ⟨q', a, b⟩ := (h i).mp (plc_mem.mp hi).2
    rw [e] at a; cases a
    exact ⟨List.mem_of_getElem? e, b⟩
  · rintro ⟨a, b⟩
    obtain ⟨i, e⟩ := List.getElem?_of_mem a
    exact ⟨i, plc_mem.mpr ⟨(List.getElem?_eq_some_iff.mp e).1, (h i).mpr ⟨q, e, b⟩⟩, e⟩
def sp_Spread_pairs_in {P : Program} {w : World} (_ : PySem.W.Frag) (S : Addr) : Sp := fun vs H Q _ => ∃ (a dx lp pl le : Addr) (ys : List V) (ds : List KnA.Dat) (ads : List Addr) (ss : List KnA.Stp) (lf lw : Lk) (s0 : Int) (fm m : Nat), vs = [.ref a, .int (m : Int)] ∧ SprO P w S H a dx lp pl le ys ds ads ss lf lw s0 fm ∧ m < 2 ^ ds.length ∧ ds.length ≤ 60 ∧
  ∀ (H' : Hp) (l : Addr) (rs : List V), Same H H' → H l = none → H' l = some (.lst rs) → RowsP H' rs (pin ds m) → Q (.ref l) H'
theorem ok_Spread_pairs_in {f : Addr} {C D S : Addr} {fd : FuncData} (T : Txt K mg C D S) (F : Fun K "pairs_in" "Spread.pairs_in" s_Spread_pairs_in f fd) (c_places_in : Cal P w K mg base 1 "places_in" (sp_places_in K) []) : FnOk P w K mg base CX0 2 f fd ["self", "chosen"] (sp_Spread_pairs_in (P := P) (w := w) K S) := by
  have nd := sc_Spread_pairs_in.nd
  refine F.ok sc_Spread_pairs_in (fun vs H Q E h => ?_) (fun cdv A outer s H vs Q E hr h => ?_)
  · obtain ⟨a, dx, lp, pl, le, ys, ds, ads, ss, lf, lw, s0, fm, m, rfl, _⟩ := h
    rfl
  · obtain ⟨a, dx, lp, pl, le, ys, ds, ads, ss, lf, lw, s0, fm, m, rfl, o, lt, few, q⟩ := h
    refine ⟨_, (pss_one (ps_ret (pe_lc (own := [("place", 2)]) (g := gName 2) (tt := tYes) rfl nd (pi_list (pe_c c_places_in hr (by omega) (by rfl) (pa_cons (pv 1) pa_nil))) (blkOk_by (N := ["self", "chosen", "place"]) (sc := defScope s_Spread_pairs_in) (by decide +kernel)) (fun _ _ _ _ _ => (pg_name (i := 2) nd rfl (.inl rfl))) (fun _ _ _ _ _ => pts_nil) (fun _ _ _ _ _ => (pe_ix (r := rIxL K) ix_list (show PE _ _ (tFld K (tVar 0) "pairs") from pe_fld (pv 0) rfl) (pv 2) (fun _ _ => rfl)))))), ?_⟩
    have lys := Paired.length o.rows
    refine ⟨.int (m : Int), rfl, m, ds.length, rfl, lt, by omega, fun H1 L s1 nL eL => ⟨L, rfl, ⟨_, .inl (.inl eL)⟩, fun R nR => ?_⟩⟩
    have lpl : (plc m ds.length).length ≤ ds.length := by unfold plc; exact Nat.le_trans (List.length_filter_le _ _) (by rw [List.length_range]; exact Nat.le_refl _)
    refine lc_list (K := K) (a := L) (xs := kInts (plc m ds.length)) (fun i G => Same H1 G ∧ ∃ rs, G R = some (.lst rs) ∧ RowsP G rs (((plc m ds.length).take i).filterMap fun i => ds[i]?)) ⟨same_upd nR, [], upd_same, .nil⟩ (fun i G _ hP => .inl (.inl (hP.1 _ _ eL))) (fun i x G hx hP => ?_) (fun G hP => ?_)
    · obtain ⟨S1, rs, eR, rr⟩ := hP
      obtain ⟨k, ek, rfl, _⟩ := kInts_get hx
      have hk := (plc_mem.mp (List.mem_of_getElem? ek)).1
      have gy : ys[k]? = some (ys[k]'(by omega)) := List.getElem?_eq_getElem _
      obtain ⟨d, hd, rx⟩ := paired_get o.rows gy
      have S2 := s1.trans S1
      refine ⟨rfl, ?_⟩
      unfold tYes
      refine iteT ?_
      have lr : rs.length ≤ 60 := by
        rw [Paired.length rr]
        refine Nat.le_trans (List.length_filterMap_le _ _) ?_
        rw [List.length_take]; omega
      refine ⟨.ref a, rfl, a, S, dx, _, .ref lp, rfl, S2 _ _ o.ob, T.cl_Spread, T.n_pairs, sf_pairs _ _ _ _, .int (k : Int), rfl, lp, ys, (k : Int), _, rfl, rfl, .inl (.inl (S2 _ _ o.pairs)), atI_nat gy, rs, eR, small (by omega), same_set nR S1, rs ++ [ys[k]'(by omega)], upd_same, ?_⟩
      have kt : ∀ b xs, G b = some (.tup xs) → (upd G R (.lst (rs ++ [ys[k]'(by omega)]))) b = some (.tup xs) := fun b xs e => (upd_ne (ne_of e eR fun y => by cases y)).trans e
      rw [take_more ek, List.filterMap_append]
      have e1 : [k].filterMap (fun i => ds[i]?) = [d] := by rw [List.filterMap_cons, hd]; rfl
      rw [e1]
      exact Paired.snoc (RowsP.ext kt rr) ((rx.ext fun _ _ z => S2 _ _ z).ext kt)
    · obtain ⟨S1, rs, eR, rr⟩ := hP
      rw [show (kInts (plc m ds.length)).length = (plc m ds.length).length from by unfold kInts; rw [List.length_map], List.take_length] at rr
      exact q G R rs (s1.trans S1) (s1.free nR) eR rr

end
end Kn

set_option Elab.async false
set_option linter.all false
set_option maxRecDepth 100000
set_option maxHeartbeats 4000000
namespace Kn
open PySem PySem.Spec PyProof.Rows L2
open C8 (Cal pe_c pe_gc Mak pe_mk)
section
variable {P : Program} {w : World} {K : PySem.W.Frag} {mg : Str → Option Value} {base : Heap}

theorem val_mem : ∀ {kvs : List (Key × V)} {k : Key} {v : V}, (kvs.map (·.1)).Nodup → (k, v) ∈ kvs → valV kvs k = some v
  | [], _, _, _, h => nomatch h
  | p :: r, k, v, nd, h => by
    rw [List.map_cons] at nd
    obtain ⟨a, b⟩ := List.nodup_cons.mp nd
    rcases List.mem_cons.mp h with e | h
    · rw [← e]; exact valV_pos (p := (k, v)) rfl
    · rw [valV_neg fun e => a (e ▸ List.mem_map.mpr ⟨_, h, rfl⟩)]
      exact val_mem b h
theorem Acc.at_ {U : List KnA.Dat} {kvs : List (Key × V)} {zs : List Str} {R : Str → KnA.Dat → Prop} (h : Acc U kvs zs R) {j : Nat} {k : Key} {v : V} (e : kvs[j]? = some (k, v)) : ∃ (z : Str) (m : Nat), k = .inr z ∧ v = .int (m : Int) ∧ zs[j]? = some z ∧ IsSetU U m (R z) := by
  have e1 : (kvs.map (·.1))[j]? = some k := by rw [List.getElem?_map, e]; rfl
  rw [h.keys, List.getElem?_map] at e1
  cases ez : zs[j]? with
  | none => rw [ez] at e1; cases e1
  | some z =>
    rw [ez] at e1
    cases e1
    obtain ⟨m, a, b⟩ := h.val z (List.mem_of_getElem? ez)
    have v1 := val_mem (kvs := kvs) (by rw [h.keys]; exact inr_nd h.nd) (List.mem_of_getElem? e)
    rw [v1] at a
    exact ⟨z, m, rfl, Option.some.inj a, rfl, b⟩
def sp_Spread_beyond {P : Program} {w : World} (_ : PySem.W.Frag) (S : Addr) : Sp := fun vs H Q _ => ∃ (a dx lp pl le : Addr) (ys : List V) (ds : List KnA.Dat) (ads : List Addr) (ss : List KnA.Stp) (lf lw : Lk) (s0 : Int) (fm m : Nat) (T0 : KnA.Dat → Prop) (sg : List Str), vs = [.ref a, .int (m : Int)] ∧ SprO P w S H a dx lp pl le ys ds ads ss lf lw s0 fm ∧ IsSetU ds m T0 ∧ (∀ q, T0 q → q ∈ ds) ∧ ds.length ≤ 60 ∧
  (∀ x ∈ ss, ∀ z, lw x.2.1 = some z → z ∈ sg) ∧ sg.length ≤ 60 ∧
  ∀ (H' : Hp) (d : Addr) (kvs : List (Key × V)) (zs : List Str), Same H H' → H d = none → H' d = some (.dK kvs) → zs.Pairwise KnA.leS → Acc ds kvs zs (fun z q => nextE ss lf lw z T0 q) → Q (.ref d) H'
theorem ok_Spread_beyond {f : Addr} {C D S : Addr} {fd : FuncData} (T : Txt K mg C D S) (F : Fun K "beyond" "Spread.beyond" s_Spread_beyond f fd) (c_places_in : Cal P w K mg base 1 "places_in" (sp_places_in K) []) : FnOk P w K mg base CX0 2 f fd ["self", "chosen"] (sp_Spread_beyond (P := P) (w := w) K S) := by
  have nd := sc_Spread_beyond.nd
  refine F.ok sc_Spread_beyond (fun vs H Q E h => ?_) (fun cdv A outer s H vs Q E hr h => ?_)
  · obtain ⟨a, dx, lp, pl, le, ys, ds, ads, ss, lf, lw, s0, fm, m, T0, sg, rfl, _⟩ := h
    rfl
  · obtain ⟨a, dx, lp, pl, le, ys, ds, ads, ss, lf, lw, s0, fm, m, T0, sg, rfl, o, im, sub, few, hsg, lsg, q⟩ := h
    refine ⟨_, (pss_cons (ps_set (i := 2) nd rfl (.inr rfl) pe_dnewK)
      (pss_cons (ps_for PassesOwn.never rfl (pi_list (pe_c c_places_in hr (by omega) (by rfl) (pa_cons (pv 1) pa_nil))) (pg_name (i := 3) nd rfl (.inl rfl)) (pss_one (ps_lock (ps_for PassesOwn.never rfl (pi_items (pe_ix (r := rIxL K) ix_list (pe_fld (pv 0) rfl) (pv 3) (fun _ _ => rfl))) (pg_tup (by rfl) (pgs_cons (pg_name (i := 4) nd rfl (.inl rfl)) (pgs_cons (pg_name (i := 5) nd rfl (.inl rfl)) pgs_nil))) (pss_one (ps_dput (hu_of hr) (pv 2) (pv 4) (pe_op op_or (pe_dget2 (hu_of hr) (pv 2) (pv 4) pe_int ⟨rfl, rfl, rfl, rfl⟩) (pv 5)) rfl))))))
      (pss_one (ps_ret (pe_dc (own := [("sight", 4)]) (g := gName 4) (tt := tYes) rfl nd (pi_list (pe_callB cr_sortedS (by rfl) T.m_sorted (by decide +kernel) (pa_cons (pe_callTy (call_listD rfl) (by rfl) T.m_list (by decide +kernel) (pa_cons (pv 2) pa_nil)) pa_nil))) (blkOk_by (own := [("sight", 4)]) (N := ["self", "chosen", "found", "place", "sight", "entered"]) (sc := defScope s_Spread_beyond) (by decide +kernel)) (fun _ _ _ _ _ => (pg_name (i := 4) nd rfl (.inl rfl))) (fun _ _ _ _ _ => pts_nil) (fun _ _ _ _ _ => (pv 4)) (fun _ _ _ _ _ => (pe_dget (hu_of hr) (pv 2) (pv 4) (fun _ _ => rfl)))))))), ?_⟩
    let RC : KnA.Dat → Str → KnA.Dat → Prop := fun d z q => ∃ r, Sees ss lf lw z d r ∧ Rch ss lf lw r q
    let ps := plc m ds.length
    let RO : Nat → Str → KnA.Dat → Prop := fun i z q => ∃ k ∈ ps.take i, ∃ d, ds[k]? = some d ∧ RC d z q
    have lpl : ps.length ≤ ds.length := by show (plc m ds.length).length ≤ _; unfold plc; exact Nat.le_trans (List.length_filter_le _ _) (by rw [List.length_range]; exact Nat.le_refl _)
    have rcs : ∀ {d z q}, RC d z q → z ∈ sg := fun {d z q} ⟨r, ⟨x, hx, _, b, _⟩, _⟩ => hsg x hx z b
    refine fun F nF => ?_
    have sF := same_upd (o := .dK []) nF
    have eF : (upd H F (.dK [])) F = some (.dK []) := upd_same
    refine setn_use rfl ?_
    generalize upd H F (.dK []) = H1 at sF eF ⊢
    refine ⟨.int (m : Int), rfl, m, ds.length, rfl, im.lt, by omega, fun H2 L s2 nL eL => ⟨L, rfl, ⟨_, .inl (.inl eL)⟩, ?_⟩⟩
    have S2 := sF.trans s2
    have nFL : L ≠ F := fun z => by rw [z] at nL; rw [nL] at eF; cases eF
    have nLH : H L = none := sF.free nL
    refine for_list (K := K) (a := L) (xs := kInts ps) (fun i σ G => ∃ (y3 y4 y5 : Option V) (kvs : List (Key × V)) (zs : List Str), σ = [some (.ref a), some (.int (m : Int)), some (.ref F), y3, y4, y5] ∧ Same H G ∧ G L = some (.lst (kInts ps)) ∧ G F = some (.dK kvs) ∧ Acc ds kvs zs (RO i))
      ⟨none, none, none, [], [], rfl, S2, eL, s2 _ _ eF, Acc.nil fun z q ⟨k, hk, _⟩ => by rw [List.take_zero] at hk; cases hk⟩ (fun i σ G _ hP => .inl (.inl hP.choose_spec.choose_spec.choose_spec.choose_spec.choose_spec.2.2.1)) (fun i x σ G hx hP => ?_) (fun σ G hP => ?_)
    · obtain ⟨y3, y4, y5, kvs, zs, rfl, SG, eL, eF, ac⟩ := hP
      obtain ⟨k, ek, rfl, _⟩ := kInts_get hx
      have hk := (plc_mem.mp (List.mem_of_getElem? ek)).1
      have gd : ds[k]? = some ds[k] := List.getElem?_eq_getElem hk
      have ga : ads[k]? = some (ads[k]'(by rw [o.elen]; exact hk)) := List.getElem?_eq_getElem _
      generalize (ads[k]'(by rw [o.elen]; exact hk)) = c at ga
      generalize ds[k] = d at gd
      obtain ⟨kc, zc, ec, _, acc⟩ := o.row k c d ga gd
      have ecG := SG _ _ ec
      have ncF : c ≠ F := ne_of_none ec nF
      have ncL : c ≠ L := ne_of_none ec nLH
      refine setn_use rfl ?_
      refine ⟨c, .dK kc, ecG, trivial, fun od => ?_⟩
      have gle : (ads.map V.ref)[k]? = some (.ref c) := by rw [List.getElem?_map, ga]; rfl
      have nac : ∀ {b ob'}, H b = some ob' → (∀ kv, ob' ≠ .dK kv) → b ≠ c := fun e n z => by rw [z, ec] at e; exact n _ (Option.some.inj e).symm
      have oa := SG _ _ o.ob
      have ole := SG _ _ o.ent
      refine ⟨.ref a, rfl, a, S, dx, _, .ref le, rfl, (upd_ne (nac o.ob fun kv z => by cases z)).trans oa, T.cl_Spread, T.n_entered, sf_entered _ _ _ _, .int (k : Int), rfl, le, ads.map V.ref, (k : Int), .ref c, rfl, rfl, .inl (.inl ((upd_ne (nac o.ent fun kv z => by cases z)).trans ole)), atI_nat gle, c, od, kc, rfl, upd_same, ?_⟩
      have lkc := acc.len
      have rin : ∀ {z q}, RC d z q → z ∈ zc := fun {z q} h => (acc.mem z).mpr ⟨q, h⟩
      have eFu : (upd G c (.frz od (.dK kc))) F = some (.dK kvs) := (upd_ne ncF.symm).trans eF
      have eLu : (upd G c (.frz od (.dK kc))) L = some (.lst (kInts ps)) := (upd_ne ncL.symm).trans eL
      refine for_items (fun j σ G' => ∃ (y4 y5 : Option V) (kvs : List (Key × V)) (zs : List Str), σ = [some (.ref a), some (.int (m : Int)), some (.ref F), some (.int (k : Int)), y4, y5] ∧ G' c = some (.frz od (.dK kc)) ∧ (∀ b o, b ≠ c → H b = some o → G' b = some o) ∧ G' L = some (.lst (kInts ps)) ∧ G' F = some (.dK kvs) ∧ Acc ds kvs zs (fun z q => RO i z q ∨ (z ∈ zc.take j ∧ RC d z q)))
        ⟨y4, y5, kvs, zs, rfl, upd_same, fun b o z e => (upd_ne z).trans (SG _ _ e), eLu, eFu, ac.iff fun z q => by rw [List.take_zero]; exact ⟨.inl, fun h => h.resolve_right fun h => nomatch h.1⟩⟩ (fun j σ G' _ hP => hP.choose_spec.choose_spec.choose_spec.choose_spec.2.1) (fun j k1 v1 T1 σ G' hx1 nT hP => ?_) (fun σ G' hP => ?_)
      · obtain ⟨y4, y5, kvs, zs, rfl, ec1, S1, eL1, eF1, ac1⟩ := hP
        obtain ⟨z, m1, rfl, rfl, gz, im1⟩ := acc.at_ hx1
        have sT := same_upd (o := .tup [V.str z, .int (m1 : Int)]) nT
        have eT : (upd G' T1 (.tup [V.str z, .int (m1 : Int)])) T1 = some (.tup [.str z, .int (m1 : Int)]) := upd_same
        have ec2 := sT _ _ ec1
        have S2' : ∀ b o, b ≠ c → H b = some o → (upd G' T1 (.tup [V.str z, .int (m1 : Int)])) b = some o := fun b o y e => sT _ _ (S1 b o y e)
        have eL2 := sT _ _ eL1
        have eF2 := sT _ _ eF1
        show gTup _ _ _ _ _ (upd G' T1 (.tup [V.str z, .int (m1 : Int)])) _
        generalize upd G' T1 (.tup [V.str z, .int (m1 : Int)]) = G2 at eT ec2 S2' eL2 eF2 ⊢
        refine ⟨T1, [.str z, .int (m1 : Int)], rfl, .inl (.inl eT), rfl, .str z, _, rfl, .int (m1 : Int), [], rfl, rfl, ?_⟩
        obtain ⟨m0, g0, i0⟩ := ac1.got z
        have lz : zs.length ≤ 60 := Nat.le_trans (nodup_le ac1.nd fun y hy => by
          obtain ⟨q', hq⟩ := (ac1.mem y).mp hy
          rcases hq with ⟨_, _, _, _, h⟩ | ⟨_, h⟩
          · exact rcs h
          · exact rcs h) lsg
        have lk := ac1.len
        refine ⟨.ref F, rfl, F, rfl, .inl ⟨_, .inl eF2⟩, .str z, rfl, _, DGet.k (k := .inr z) eF2, .int (m1 : Int), rfl, (m0 : Int), (m1 : Int), g0, rfl, .ref F, rfl, .str z, rfl, F, _, rfl, DPut.k (k := .inr z) eF2 (small (by omega)), ?_⟩
        have eo : Builtin.bitOr (m0 : Int) (m1 : Int) = ((m0 ||| m1 : Nat) : Int) := KnA.b_or _ _
        have ne : ∃ q, RC d z q := (acc.mem z).mp (List.mem_of_getElem? gz)
        have pt := ac1.put (i0.or im1) ne
        refine ⟨_, _, _, _, rfl, (upd_ne ncF).trans ec2, fun b o y e => (upd_ne (ne_of_none e nF)).trans (S2' b o y e), (upd_ne nFL).trans eL2, by rw [upd_same]; show some (HO.dK (putK kvs (Sum.inr z) (V.int (Builtin.bitOr (m0 : Int) (m1 : Int))))) = _; rw [eo], pt.iff fun y q' => ?_⟩
        rw [take_more gz, List.mem_append, List.mem_singleton]
        constructor
        · rintro ((h | ⟨h1, h2⟩) | ⟨rfl, h⟩)
          · exact .inl h
          · exact .inr ⟨.inl h1, h2⟩
          · exact .inr ⟨.inr rfl, h⟩
        · rintro (h | ⟨h1 | h1, h2⟩)
          · exact .inl (.inl h)
          · exact .inl (.inr ⟨h1, h2⟩)
          · exact .inr ⟨h1, h1 ▸ h2⟩
      · obtain ⟨y4, y5, kvs, zs, rfl, ec1, S1, eL1, eF1, ac1⟩ := hP
        rw [lkc, List.take_length] at ac1
        refine ⟨ec1, _, _, _, kvs, zs, rfl, fun b o' e => ?_, (upd_ne ncL.symm).trans eL1, (upd_ne ncF.symm).trans eF1, ac1.iff fun z q' => ?_⟩
        · by_cases y : b = c
          · rw [y] at e ⊢
            rw [ec] at e; cases e
            exact upd_same
          · rw [upd_ne y]; exact S1 b o' y e
        · constructor
          · rintro (⟨k', hk', h⟩ | ⟨_, h⟩)
            · exact ⟨k', by rw [take_more ek]; exact List.mem_append_left _ hk', h⟩
            · exact ⟨k, by rw [take_more ek]; exact List.mem_append_right _ (List.mem_singleton.mpr rfl), d, gd, h⟩
          · rintro ⟨k', hk', d', hd', h⟩
            rw [take_more ek] at hk'
            rcases List.mem_append.mp hk' with hk' | hk'
            · exact .inl ⟨k', hk', d', hd', h⟩
            · rw [List.mem_singleton.mp hk', gd] at hd'
              cases hd'
              exact .inr ⟨rin h, h⟩
    · obtain ⟨y3, y4, y5, kvs, zs, rfl, SG, eL, eF, ac⟩ := hP
      rw [show (kInts ps).length = ps.length from by unfold kInts; rw [List.length_map]] at ac
      have acF : Acc ds kvs zs (fun z q => nextE ss lf lw z T0 q) := ac.iff fun z q' => by
        constructor
        · rintro ⟨k, hk, d, hd, r, h1, h2⟩
          rw [List.take_length] at hk
          obtain ⟨d', hd', ht⟩ := (im k).mp (plc_mem.mp hk).2
          rw [hd] at hd'; cases hd'
          exact ⟨d, r, ht, h1, h2⟩
        · rintro ⟨p, r, hp, h1, h2⟩
          obtain ⟨k, hk⟩ := List.getElem?_of_mem (sub p hp)
          exact ⟨k, by rw [List.take_length]; exact plc_mem.mpr ⟨(List.getElem?_eq_some_iff.mp hk).1, (im k).mpr ⟨p, hk, hp⟩⟩, p, hk, r, h1, h2⟩
      have lz : zs.length ≤ 60 := Nat.le_trans (nodup_le acF.nd fun y hy => by
        obtain ⟨q', _, _, _, h1, _⟩ := (acF.mem y).mp hy
        obtain ⟨x, hx, _, b, _⟩ := h1
        exact hsg x hx y b) lsg
      have em : kvs.map (fun kv => kV kv.1) = zs.map V.str := by
        have : kvs.map (fun kv => kV kv.1) = (kvs.map (·.1)).map kV := by rw [List.map_map]; rfl
        rw [this, acF.keys, List.map_map]; rfl
      refine ⟨.ref F, rfl, F, kvs, rfl, .inl eF, fun p np => ?_⟩
      rw [em]
      have sp := same_upd (o := .lst (zs.map V.str)) np
      have ep : (upd G p (.lst (zs.map V.str))) p = some (.lst (zs.map V.str)) := upd_same
      generalize upd G p (.lst (zs.map V.str)) = G1 at sp ep ⊢
      refine ⟨p, zs, rfl, .inl (.inl ep), by omega, fun ns o2 hp so no => ?_⟩
      have so2 := same_upd (o := .lst (ns.map V.str)) no
      have eo2 : (upd G1 o2 (.lst (ns.map V.str))) o2 = some (.lst (ns.map V.str)) := upd_same
      generalize upd G1 o2 (.lst (ns.map V.str)) = G2 at so2 eo2 ⊢
      have S02 := SG.trans (sp.trans so2)
      have eF2 := so2 _ _ (sp _ _ eF)
      have nds := hp.symm.nodup acF.nd
      refine ⟨o2, rfl, ⟨_, .inl (.inl eo2)⟩, fun LD nD => ?_⟩
      refine KnC.dc_list (K := K) (xs := ns.map V.str) (fun i G' => Same G2 G' ∧ ∃ kv2, G' LD = some (.dK kv2) ∧ Acc ds kv2 (ns.take i) (fun z q => z ∈ ns.take i ∧ nextE ss lf lw z T0 q)) ⟨same_upd nD, [], upd_same, by rw [List.take_zero]; exact Acc.nil fun z q h => nomatch h.1⟩ (fun i G' _ hP => .inl (.inl (hP.1 _ _ eo2))) (fun i x G' hx hP => ?_) (fun G' hP => ?_)
      · obtain ⟨S3, kv2, eD, a2⟩ := hP
        rw [List.getElem?_map] at hx
        cases gz : ns[i]? with
        | none => rw [gz] at hx; cases hx
        | some z =>
        rw [gz] at hx
        cases hx
        refine ⟨rfl, ?_⟩
        unfold tYes
        refine iteT ?_
        obtain ⟨m1, v1, i1⟩ := acF.val z (hp.mem_iff.mp (List.mem_of_getElem? gz))
        have dg := DGet.k (k := .inr z) (S3 _ _ eF2)
        rw [v1] at dg
        have l2 := a2.len
        have lt2 : (ns.take i).length ≤ ns.length := by rw [List.length_take]; omega
        have lns := hp.length_eq
        refine ⟨.str z, rfl, .ref F, rfl, .str z, rfl, F, .int (m1 : Int), rfl, dg, kv2, .inr z, rfl, eD, small (by omega), same_set nD S3, _, upd_same, ?_⟩
        have nz : z ∉ ns.take i := fun h => by
          obtain ⟨i', h'⟩ := List.getElem?_of_mem h
          rw [List.getElem?_take] at h'
          by_cases c : i' < i
          · rw [if_pos c] at h'
            have := (List.getElem?_inj (List.getElem?_eq_some_iff.mp gz).1 nds).mp (gz.trans h'.symm)
            omega
          · rw [if_neg c] at h'; cases h'
        have pt := a2.put (z := z) (S := fun q => nextE ss lf lw z T0 q) (m := m1) (i1.iff fun q' _ => ⟨fun h => .inr h, fun h => h.elim (fun h => h.2) id⟩) ((acF.mem z).mp (hp.mem_iff.mp (List.mem_of_getElem? gz)))
        rw [if_neg nz, ← take_more gz] at pt
        refine pt.iff fun y q' => ?_
        rw [take_more gz, List.mem_append, List.mem_singleton]
        constructor
        · rintro (⟨h1, h2⟩ | ⟨rfl, h⟩)
          · exact ⟨.inl h1, h2⟩
          · exact ⟨.inr rfl, h⟩
        · rintro ⟨h1 | h1, h2⟩
          · exact .inl ⟨h1, h2⟩
          · exact .inr ⟨h1, h1 ▸ h2⟩
      · obtain ⟨S3, kv2, eD, a2⟩ := hP
        rw [List.length_map, List.take_length] at a2
        exact q G' LD kv2 ns (S02.trans S3) (S02.free nD) eD (KnA.sorted_pair so) (a2.iff fun z q' => ⟨fun h => h.2, fun h => ⟨hp.mem_iff.mpr ((acF.mem z).mpr ⟨q', h⟩), h⟩⟩)

end
end Kn

set_option Elab.async false
set_option linter.all false
set_option maxRecDepth 100000
set_option maxHeartbeats 4000000
namespace Kn
open PySem PySem.Spec PyProof.Rows L2
open C8 (Cal pe_c pe_gc Mak pe_mk)
section
variable {P : Program} {w : World} {K : PySem.W.Frag} {mg : Str → Option Value} {base : Heap}

theorem tNil_use {σ : L2.St} {H : Hp} {k : List V → Hp → Prop} (h : k [] H) : tNil σ H k := h

def sp_Machine_states (_ : PySem.W.Frag) (C : Addr) : Sp := fun vs H Q _ => ∃ (p : Addr) (s0 : Int) (ss : List KnA.Stp) (fs : List (Str × Str)), vs = [.ref p] ∧ MachAt C H p s0 ss fs ∧ ∀ H' l ns, Same H H' → H l = none → H' l = some (.lst (ns.map V.int)) → KnA.States ns ss s0 → Q (.ref l) H'
theorem ok_Machine_states {f : Addr} {C D S : Addr} {fd : FuncData} (T : Txt K mg C D S) (F : Fun K "states" "Machine.states" s_Machine_states f fd)  : FnOk P w K mg base CX0 1 f fd ["self"] (sp_Machine_states K C) := by
  have nd := sc_Machine_states.nd
  refine F.ok sc_Machine_states (fun vs H Q E h => ?_) (fun cdv A outer s H vs Q E hr h => ?_)
  · obtain ⟨p, s0, ss, fs, rfl, _⟩ := h
    rfl
  · obtain ⟨p, s0, ss, fs, rfl, ⟨dx, ls, lw, df, lt, as, ws, ns, m⟩, q⟩ := h
    refine ⟨_, (pss_one (ps_ret (pe_callTy call_list_of (by rfl) T.m_list (by decide +kernel) (pa_cons (pe_fld (pv 0) rfl) pa_nil)))), ?_⟩
    exact ⟨.ref p, rfl, p, C, dx, _, _, rfl, m.ob, T.cl, T.n__states, mf_states _ _ _ _ _, lt, ns.map V.int, rfl, .inl (.inl (.inl m.ht)), fun l nl => q _ l ns (same_upd nl) nl upd_same m.re⟩

/-! ### a Spread is made -/
theorem MachAt.off {C : Addr} {H H' : Hp} {r p : Addr} {o0 : HO} {s0 : Int} {ss : List KnA.Stp} {fs : List (Str × Str)} (h : MachAt C H p s0 ss fs) (hr : H r = some o0) (n1 : ∀ xs, o0 ≠ .lst xs) (n2 : ∀ xs, o0 ≠ .tup xs) (n3 : ∀ xs, o0 ≠ .dK xs) (n4 : ∀ c dx x xs, o0 ≠ .ins c dx (x :: xs)) (k : ∀ b o, b ≠ r → H b = some o → H' b = some o) : MachAt C H' p s0 ss fs := by
  obtain ⟨dx, ls, lw, df, lt, as, ws, ns, m⟩ := h
  have q : ∀ {b o}, H b = some o → o ≠ o0 → H' b = some o := fun {b o} e n => k b o (fun z => n (by rw [z, hr] at e; exact (Option.some.inj e).symm)) e
  have ne : ∃ x xs, mflds s0 ls lw df lt = x :: xs := by
    cases e : mflds s0 ls lw df lt with
    | nil => have := mf_start s0 ls lw df lt; rw [e] at this; cases this
    | cons x xs => exact ⟨x, xs, rfl⟩
  obtain ⟨x, xs, e⟩ := ne
  exact ⟨dx, ls, lw, df, lt, as, ws, ns, q m.ob (fun z => by rw [e] at z; exact n4 _ _ _ _ z.symm), q m.hs (fun z => n1 _ z.symm), Paired.mapP m.st fun _ _ z => q z (fun y => n2 _ y.symm), q m.hw (fun z => n1 _ z.symm), m.wo, q m.hf (fun z => n3 _ z.symm), q m.ht (fun z => n1 _ z.symm), m.re⟩
theorem WatchAt.off {D : Addr} {H H' : Hp} {r p : Addr} {o0 : HO} {tb : List (Str × Str)} (h : WatchAt D H p tb) (hr : H r = some o0) (n3 : ∀ xs, o0 ≠ .dK xs) (n4 : ∀ c dx x xs, o0 ≠ .ins c dx (x :: xs)) (k : ∀ b o, b ≠ r → H b = some o → H' b = some o) : WatchAt D H' p tb := by
  obtain ⟨dx, d, h1, h2⟩ := h
  have q : ∀ {b o}, H b = some o → o ≠ o0 → H' b = some o := fun {b o} e n => k b o (fun z => n (by rw [z, hr] at e; exact (Option.some.inj e).symm)) e
  exact ⟨dx, d, q h1 (fun z => n4 _ _ _ _ z.symm), q h2 (fun z => n3 _ z.symm)⟩
theorem dn_off {P : Program} {w : World} {H H' : Hp} {a d : Addr} {o0 : HO} {kvs : List (NestedKey × V)} (h : KnN.DNAt P w H d kvs) (ha : H a = some o0) (n1 : ∀ xs, o0 ≠ .tup xs) (n2 : ∀ x, o0 ≠ .ext x) (k : ∀ b o, b ≠ a → H b = some o → H' b = some o) : KnN.DNAt P w H' d kvs := by
  obtain ⟨es, e, m, hs, l, ns⟩ := h
  have nd : d ≠ a := fun z => by
    rw [z, ha] at e
    have := Option.some.inj e
    unfold KnN.DN at this
    exact n2 _ this
  exact ⟨es, k _ _ nd e, m, hs, l, fun x hx => ⟨KnN.NIs.ext (fun b xs z => k _ _ (fun y => by rw [y, ha] at z; exact n1 _ (Option.some.inj z)) z) _ _ (ns x hx).1, (ns x hx).2⟩⟩
theorem LisAt.off {β : Type} {P : Program} {w : World} {R : Hp → V → β → Prop} {H H' : Hp} {a dd : Addr} {o0 : HO} {ds : List KnA.Dat} {f : KnA.Dat → List β} (h : LisAt P w R H dd ds f) (hR : TupM R) (ha : H a = some o0) (n1 : ∀ xs, o0 ≠ .tup xs) (n2 : ∀ x, o0 ≠ .ext x) (n3 : ∀ xs, o0 ≠ .lst xs) (k : ∀ b o, b ≠ a → H b = some o → H' b = some o) : LisAt P w R H' dd ds f := by
  obtain ⟨kvs, x, y⟩ := h
  refine ⟨kvs, dn_off x ha n1 n2 k, fun d hd => ?_⟩
  obtain ⟨l, vs, e, g, p⟩ := y d hd
  exact ⟨l, vs, e, k _ _ (fun z => by rw [z, ha] at g; exact n3 _ (Option.some.inj g)) g, Paired.mapP p fun _ _ z => hR H H' (fun b xs q => k _ _ (fun y => by rw [y, ha] at q; exact n1 _ (Option.some.inj q)) q) _ _ z⟩
theorem partsD_nd {ns : List Str} : ns.Nodup → (partsD ns).Nodup := by
  refine snoc_rec (M := fun ns => ns.Nodup → (partsD ns).Nodup) (fun _ => List.pairwise_singleton _ _) (fun xs x ih nd => ?_) ns
  obtain ⟨n1, _, n3⟩ := List.nodup_append.mp nd
  rw [partsD_snoc]
  refine List.nodup_append.mpr ⟨ih n1, List.Pairwise.map _ (fun a b n e => n (List.append_cancel_right e)) (ih n1), fun a ha b hb e => ?_⟩
  obtain ⟨c, _, rfl⟩ := List.mem_map.mp hb
  have := ((partsD_mem _ _).mp ha).subset (show x ∈ a by rw [e]; exact List.mem_append_right _ (List.mem_singleton.mpr rfl))
  exact n3 x this x (List.mem_singleton.mpr rfl) rfl
theorem allU_nd {ls : List Int} {names : List Str} (h : ls.Nodup) (k : names.Nodup) : (allU ls names).Nodup := by
  induction ls with
  | nil => exact List.nodup_nil
  | cons s r ih =>
    obtain ⟨a, b⟩ := List.nodup_cons.mp h
    show (((partsD names).map fun d => (s, d)) ++ allU r names).Nodup
    refine List.nodup_append.mpr ⟨List.Pairwise.map _ (fun x y n e => n (Prod.mk.inj e).2) (partsD_nd k), ih b, fun x hx y hy e => ?_⟩
    obtain ⟨d, _, rfl⟩ := List.mem_map.mp hx
    rw [← e] at hy
    exact a ((allU_mem r names _).mp hy).1
theorem keyD_inj {p q : KnA.Dat} (h : keyD p = keyD q) : p = q := Prod.ext (rk_inj h).1 (rk_inj h).2
theorem keyD_nd {ds : List KnA.Dat} (h : ds.Nodup) : (ds.map keyD).Nodup := List.Pairwise.map _ (fun _ _ n e => n (keyD_inj e)) h
theorem rows_zip {H : Hp} {rs : List V} {ds : List KnA.Dat} (h : RowsP H rs ds) : ∃ bs : List (V × KnA.Dat), bs.map (·.1) = rs ∧ bs.map (·.2) = ds ∧ ∀ b ∈ bs, KnA.RowAt H b.1 b.2.1 b.2.2 := by
  unfold RowsP at h
  induction h with
  | nil => exact ⟨[], rfl, rfl, fun _ h => nomatch h⟩
  | @cons v d vs ds a _ ih =>
    obtain ⟨bs, e1, e2, e3⟩ := ih
    exact ⟨(v, d) :: bs, by rw [List.map_cons, e1], by rw [List.map_cons, e2], fun b hb => (List.mem_cons.mp hb).elim (fun z => z ▸ a) (e3 b)⟩
theorem rows_unzip {H : Hp} : ∀ {bs : List (V × KnA.Dat)}, (∀ b ∈ bs, KnA.RowAt H b.1 b.2.1 b.2.2) → RowsP H (bs.map (·.1)) (bs.map (·.2))
  | [], _ => .nil
  | b :: r, h => .cons (h b List.mem_cons_self) (rows_unzip fun x hx => h x (List.mem_cons_of_mem _ hx))
structure SprG (ss : List KnA.Stp) (lf lw : Lk) (s0 : Int) (names : List Str) (ds : List KnA.Dat) : Prop where
  nk : (ds.map keyD).Nodup
  few : ds.length ≤ 60
  up : ds.Pairwise fun p q => KnA.rowLe p q = true
  un : Univ ss lf s0 ds
  ok : ∀ d ∈ ds, d.2.Sublist names
def sp_Spread_init {P : Program} {w : World} (_ : PySem.W.Frag) (S C D : Addr) : Sp := fun vs H Q _ => ∃ (a dx m wa n : Addr) (s0 : Int) (ss : List KnA.Stp) (fs tb : List (Str × Str)) (names : List Str), vs = [.ref a, .ref m, .ref wa, .ref n] ∧ H a = some (.ins S dx []) ∧ MachAt C H m s0 ss fs ∧ GoodMach s0 ss fs ∧ WatchAt D H wa tb ∧ H n = some (.lst (names.map V.str)) ∧ KnA.Words names names ∧ names.length ≤ 3 ∧ (∀ x ∈ ss, ∀ f, look fs x.2.1 = some f → f ∈ names) ∧ (∀ ns, KnA.States ns ss s0 → ns.length * 2 ^ names.length ≤ 60) ∧
  ∀ (H' : Hp) (lp pl le : Addr) (ys : List V) (ds : List KnA.Dat) (ads : List Addr) (fm : Nat), (∀ b o, b ≠ a → H b = some o → H' b = some o) → SprO P w S H' a dx lp pl le ys ds ads ss (look fs) (look tb) s0 fm → SprG ss (look fs) (look tb) s0 names ds → Q .non H'
theorem ok_Spread_init {f : Addr} {C D S : Addr} {fd : FuncData} (T : Txt K mg C D S) (F : Fun K "__init__" "Spread.__init__" s_Spread_init f fd) (c_Machine_states : KnP.Prp P w K mg base 1 C "states" (sp_Machine_states K C)) (c_parts : Cal P w K mg base 1 "parts" (sp_parts K) []) (c_moves_of_pairs : Cal P w K mg base 4 "moves_of_pairs" (sp_moves_of_pairs (P := P) (w := w) K C D) []) (c_Machine_start : KnP.Prp P w K mg base 1 C "start" (sp_Machine_start K C)) (c_Spread_closure : C8.Met P w K mg base 1 S "closure" (sp_Spread_closure (P := P) (w := w) K S) []) : FnOk P w K mg base CX0 5 f fd ["self", "machine", "watch", "names"] (sp_Spread_init (P := P) (w := w) K S C D) := by
  have nd := sc_Spread_init.nd
  refine F.ok sc_Spread_init (fun vs H Q E h => ?_) (fun cdv A outer s H vs Q E hr h => ?_)
  · obtain ⟨a, dx, m, wa, n, s0, ss, fs, tb, names, rfl, _⟩ := h
    rfl
  · obtain ⟨a, dx, m, wa, n, s0, ss, fs, tb, names, rfl, ha, hm, gm, hw, hn, wn, fewn, hf, fewp, q⟩ := h
    refine ⟨_, (pss_cons (ps_fld (pv 0) (pe_callB (show CallR _ (.builtin "sorted") (KnA.rSortedRO K) from KnA.cr_sortedRO (KnC.un65 hr)) (by rfl) T.m_sorted (by decide +kernel) (pa_cons (pe_lc2 (own := [("state", 11), ("done", 12)]) (vs1 := [12]) (g := gName 11) (g1 := gName 12) (tt := tYes) (tt1 := tYes) rfl nd (pi_list (KnP.pe_prp T.cl c_Machine_states hr (by decide) (pv 1) (by rfl))) (blkOk_by (N := ["self", "machine", "watch", "names", "unseen", "seen", "closed", "pair", "row", "sight", "target", "state", "done", "place"]) (sc := defScope s_Spread_init) (by decide +kernel)) (by decide) (fun _ _ _ _ _ => (pg_name (i := 11) nd rfl (.inl rfl))) (fun _ _ _ _ _ => pts_nil) (fun _ _ _ _ _ => (show PI _ _ _ (iList K _) from (pi_list (pe_c c_parts hr (by omega) (by rfl) (pa_cons (pv 3) pa_nil))))) (fun _ _ _ _ _ => (pg_name (i := 12) nd rfl (.inl rfl))) (fun _ _ _ _ _ => pts_nil) (fun _ _ _ _ _ => (pe_tup (pa_cons (pv 11) (pa_cons (pv 12) pa_nil))))) pa_nil)) rfl)
      (pss_cons (ps_fld (pv 0) (KnN.pe_dcn (own := [("place", 13), ("pair", 7)]) (g := gTup K 2 (gCons (gName 13) (gCons (gName 7) gNil))) (tt := tYes) (KnC.un65 hr) rfl nd (KnE.pi_en (by rfl) T.m_enumerate (pa_cons (pe_fld (pv 0) rfl) pa_nil)) (blkOk_by (own := [("place", 13), ("pair", 7)]) (N := ["self", "machine", "watch", "names", "unseen", "seen", "closed", "pair", "row", "sight", "target", "state", "done", "place"]) (sc := defScope s_Spread_init) (by decide +kernel)) (fun _ _ _ _ _ => (pg_tup (by rfl) (pgs_cons (pg_name (i := 13) nd rfl (.inl rfl)) (pgs_cons (pg_name (i := 7) nd rfl (.inl rfl)) pgs_nil)))) (fun _ _ _ _ _ => pts_nil) (fun _ _ _ _ _ => (pv 7)) (fun _ _ _ _ _ => (pv 13))) rfl)
      (pss_cons (ps_asg (pe_c c_moves_of_pairs hr (by omega) (by rfl) (pa_cons (pv 1) (pa_cons (pv 2) (pa_cons (pe_fld (pv 0) rfl) (pa_cons (pv 3) pa_nil))))) (pg_tup (by rfl) (pgs_cons (pg_name (i := 4) nd rfl (.inr rfl)) (pgs_cons (pg_name (i := 5) nd rfl (.inl rfl)) pgs_nil))))
      (pss_cons (ps_setLc (i := 6) (own := [("pair", 7)]) (g := gName 7) (tt := tYes) rfl nd rfl rfl (sw_true rfl rfl rfl (by decide +kernel)) (pi_list (pe_fld (pv 0) rfl)) (blkOk_by (N := ["self", "machine", "watch", "names", "unseen", "seen", "closed", "pair", "row", "sight", "target", "state", "done", "place"]) (sc := defScope s_Spread_init) (by decide +kernel)) (fun _ _ _ _ _ => (pg_name (i := 7) nd rfl (.inl rfl))) (fun _ _ _ _ _ => pts_nil) (fun _ _ _ _ _ => (C8.pe_mt c_Spread_closure hr (by omega) (pv 0) (pa_cons (pv 7) (pa_cons (pv 4) pa_nil)))))
      (pss_cons (ps_fld (pv 0) (pe_ix (r := rIxL K) ix_list (pv 6) (KnN.pe_nget (KnC.un65 hr) (pe_fld (pv 0) rfl) (pe_tup (pa_cons (KnP.pe_prp T.cl c_Machine_start hr (by decide) (pv 1) (by rfl)) (pa_cons (pe_tup pa_nil) pa_nil))) (fun _ _ => rfl)) (fun _ _ => rfl)) rfl)
      (pss_cons (ps_fld (pv 0) (pe_lst pa_nil) rfl)
      (pss_one (ps_for PassesOwn.never rfl (pi_list (pe_fld (pv 0) rfl)) (pg_name (i := 7) nd rfl (.inl rfl)) (pss_cons (ps_set (i := 8) nd rfl (.inl rfl) pe_dnewK)
      (pss_cons (ps_for PassesOwn.never rfl (pi_list (KnN.pe_nget (KnC.un65 hr) (pv 5) (pv 7) (fun _ _ => rfl))) (pg_tup (by rfl) (pgs_cons (pg_name (i := 9) nd rfl (.inl rfl)) (pgs_cons (pg_name (i := 10) nd rfl (.inl rfl)) pgs_nil))) (pss_one (ps_dput (hu_of hr) (pv 8) (pv 9) (pe_op op_or (pe_dget2 (hu_of hr) (pv 8) (pv 9) pe_int ⟨rfl, rfl, rfl, rfl⟩) (pe_ix (r := rIxL K) ix_list (pv 6) (KnN.pe_nget (KnC.un65 hr) (pe_fld (pv 0) rfl) (pv 10) (fun _ _ => rfl)) (fun _ _ => rfl))) rfl)))
      (pss_one (ps_expr (pe_bm PySem.F.plainAttrs_list PySem.F.slot_list_append PySem.F.type_list_append mt_append (pe_fld (pv 0) rfl) (pa_cons (pv 8) pa_nil)))))))))))))), ?_⟩
    have pl1 : ∀ (f : Str) (x : V) (l : List (Str × V)) (n : Nat), l.length ≤ n → (putF f x l).length ≤ n + 1 := fun f x l n h => Nat.le_trans (length_putF f x l) (Nat.succ_le_succ h)
    obtain ⟨mdx, mls, mlw, mdf, mlt, mas, mws, mns, mm⟩ := id hm
    refine ⟨.ref m, rfl, m, mdx, _, rfl, mm.ob, m, s0, ss, fs, rfl, hm, fun G1 l1 ns s1 nl1 el1 st1 => ⟨l1, rfl, ⟨_, .inl (.inl el1)⟩, fun L nL => ?_⟩⟩
    have sL := same_upd (o := .lst []) nL
    have fp := fewp ns st1
    have nnd : ns.Nodup := st1.up.imp fun h e => by omega
    have lU := allU_len ns names
    refine KnA.turns ns.length (fun i G => Same G1 G ∧ ∃ rs, G L = some (.lst rs) ∧ RowsP G rs (allU (ns.take i) names))
      ⟨sL, [], upd_same, .nil⟩ (fun G hP => ⟨_, .inl (.inl (hP.1 _ _ el1)), by rw [List.length_map]; exact Nat.le_refl _⟩) (fun i G hi hP => ⟨_, _, .inl (.inl (hP.1 _ _ el1)), by rw [List.getElem?_map, List.getElem?_eq_getElem hi]; rfl⟩) (fun i x G G' hi hP hy => ?_) (fun G hP => ?_)
    · obtain ⟨S2, rs, eL, rr⟩ := hP
      obtain ⟨rfl, hx⟩ := hy
      have hx := hx _ (.inl (.inl (S2 _ _ el1)))
      rw [List.getElem?_map] at hx
      have gs : ns[i]? = some ns[i] := List.getElem?_eq_getElem hi
      rw [gs] at hx
      cases hx
      refine ⟨rfl, ?_⟩
      unfold tYes
      refine iteT ?_
      refine ⟨.ref n, rfl, n, names, rfl, S2 _ _ (s1 _ _ hn), fewn, fun G3 p ts s3 np ep pt => ⟨p, rfl, ⟨_, .inl (.inl ep)⟩, ?_⟩⟩
      have lts := Paired.length pt
      have tk : allU (ns.take (i + 1)) names = allU (ns.take i) names ++ (partsD names).map fun d => (ns[i], d) := by
        unfold allU; exact flat_take (fun s => (partsD names).map fun d => (s, d)) gs
      have S23 := S2.trans s3
      refine KnA.turns ts.length (fun j G => Same G1 G ∧ G p = some (.lst ts) ∧ (∀ t xs, G3 t = some (.tup xs) → G t = some (.tup xs)) ∧ ∃ rs, G L = some (.lst rs) ∧ RowsP G rs (allU (ns.take i) names ++ ((partsD names).take j).map fun d => (ns[i], d)))
        ⟨S23, ep, fun _ _ z => z, rs, s3 _ _ eL, by rw [List.take_zero, List.map_nil, List.append_nil]; exact rr.ext fun _ _ z => s3 _ _ z⟩ (fun G hP => ⟨_, .inl (.inl hP.2.1), Nat.le_refl _⟩) (fun j G hj hP => ⟨_, _, .inl (.inl hP.2.1), List.getElem?_eq_getElem hj⟩) (fun j x G G' hj hP hy => ?_) (fun G hP => ?_)
      · obtain ⟨S4, ep4, k4, rs4, eL4, rr4⟩ := hP
        obtain ⟨rfl, hx⟩ := hy
        have hx := hx _ (.inl (.inl ep4))
        obtain ⟨d, hd, t, rfl, ht⟩ := paired_get pt hx
        have ht4 := k4 _ _ ht
        refine ⟨rfl, ?_⟩
        refine iteT ⟨.int ns[i], rfl, .ref t, rfl, szl rfl, fun c nc => ?_⟩
        have sc := same_upd (o := .tup [V.int ns[i], .ref t]) nc
        have ec : (upd G' c (.tup [V.int ns[i], .ref t])) c = some (.tup [.int ns[i], .ref t]) := upd_same
        generalize upd G' c (.tup [V.int ns[i], .ref t]) = G5 at sc ec ⊢
        have eL5 := sc _ _ eL4
        have lr : rs4.length ≤ 200 := by
          have := Paired.length rr4
          have h1 := allU_len (ns.take i) names
          rw [List.length_append, List.length_map, List.length_take, h1, List.length_take] at this
          have h2 := partsD_len names
          have h3 : min i ns.length * 2 ^ names.length ≤ ns.length * 2 ^ names.length := Nat.mul_le_mul_right _ (Nat.min_le_right _ _)
          have h4 : 2 ^ names.length ≤ 8 := Nat.le_trans (Nat.pow_le_pow_right (by decide) fewn) (by decide)
          omega
        have nLp : p ≠ L := fun z => by rw [z, eL] at np; cases np
        have kt : ∀ b xs, G5 b = some (.tup xs) → (upd G5 L (.lst (rs4 ++ [.ref c]))) b = some (.tup xs) := fun b xs e => (upd_ne (ne_of e eL5 fun y => by cases y)).trans e
        refine ⟨rs4, eL5, small (by omega), same_set nL (S4.trans sc), (upd_ne nLp).trans (sc _ _ ep4), fun b xs e => kt _ _ (sc _ _ (k4 _ _ e)), rs4 ++ [.ref c], upd_same, ?_⟩
        rw [take_more hd, List.map_append, ← List.append_assoc]
        exact Paired.snoc (RowsP.ext (fun b xs e => kt _ _ (sc _ _ e)) rr4) ⟨c, t, rfl, kt _ _ ec, kt _ _ (sc _ _ ht4)⟩
      · obtain ⟨S4, _, _, rs4, eL4, rr4⟩ := hP
        rw [lts, List.take_length, ← tk] at rr4
        exact ⟨S4, rs4, eL4, rr4⟩
    · obtain ⟨S2, rs, eL, rr⟩ := hP
      rw [List.take_length] at rr
      obtain ⟨bs, eb1, eb2, rb⟩ := rows_zip rr
      refine tNil_use ?_
      refine ⟨L, bs, rfl, by rw [eb1]; exact .inl (.inl eL), rb, fun bs' c pm up nc => ?_⟩
      have S12 := s1.trans S2
      have sc := same_upd (o := .lst (bs'.map (·.1))) nc
      have ec : (upd G c (.lst (bs'.map (·.1)))) c = some (.lst (bs'.map (·.1))) := upd_same
      have rys : RowsP (upd G c (.lst (bs'.map (·.1)))) (bs'.map (·.1)) (bs'.map (·.2)) := (rows_unzip fun b hb => rb b (pm.mem_iff.mp hb)).ext fun _ _ z => sc _ _ z
      have pd : (bs'.map (·.2)).Perm (allU ns names) := by have := pm.map (·.2); rwa [eb2] at this
      generalize upd G c (.lst (bs'.map (·.1))) = G2 at sc ec rys ⊢
      generalize bs'.map (·.1) = ys at ec rys ⊢
      generalize bs'.map (·.2) = ds at pd up rys ⊢
      have S13 := S12.trans sc
      have hU : ∀ p : KnA.Dat, p ∈ ds ↔ p.1 ∈ ns ∧ p.2 ∈ partsD names := fun p => pd.mem_iff.trans (allU_mem ns names p)
      have ndd : ds.Nodup := pd.symm.nodup (allU_nd nnd wn.nd)
      have nk := keyD_nd ndd
      have lds : ds.length ≤ 60 := by rw [pd.length_eq, lU]; exact fp
      have lys := Paired.length rys
      have un : Univ ss (look fs) s0 ds := univ_of hU ((st1.mem _).mpr .start) (fun x hx h => (st1.mem _).mpr (.step ((st1.mem _).mp h) (w := x.2.1) hx)) wn hf
      have gS : SprG ss (look fs) (look tb) s0 names ds := ⟨nk, lds, up, un, fun d hd => (partsD_mem _ _).mp ((hU d).mp hd).2⟩
      have ea1 := S13 _ _ ha
      have nca : c ≠ a := ne_of ec ea1 (fun z => by cases z)
      refine ⟨.ref a, rfl, a, S, dx, [], rfl, ea1, T.cl_Spread, T.n_pairs, by decide, ?_⟩
      -- pairs
      have B2 : ∀ b o, b ≠ a → H b = some o → (upd G2 a (.ins S dx (putF "pairs" (.ref c) []))) b = some o := fun b o n e => (upd_ne n).trans (S13 _ _ e)
      have ec2 : (upd G2 a (.ins S dx (putF "pairs" (.ref c) []))) c = some (.lst ys) := (upd_ne nca).trans ec
      have ea2 : (upd G2 a (.ins S dx (putF "pairs" (.ref c) []))) a = some (.ins S dx (putF "pairs" (.ref c) [])) := upd_same
      have ry2 : RowsP (upd G2 a (.ins S dx (putF "pairs" (.ref c) []))) ys ds := rys.ext fun b xs e => (upd_ne fun z => by rw [z, ea1] at e; cases e).trans e
      generalize upd G2 a (.ins S dx (putF "pairs" (.ref c) [])) = G3 at B2 ec2 ea2 ry2 ⊢
      -- places
      refine ⟨.ref a, rfl, a, S, dx, _, .ref c, rfl, ea2, T.cl_Spread, T.n_pairs, by simp only [lookup_putF]; rw [if_pos True.intro], c, true, ys, rfl, .inl (.inl ec2), fun DD G4 nD k4 dn4 => ?_⟩
      refine KnA.turns ys.length (fun i G => (∀ b o, b ≠ DD → G3 b = some o → G b = some o) ∧ KnN.DNAt P w G DD (plD 0 (ds.take i)))
        ⟨fun b o n e => (k4 b n).trans e, dn4⟩ (fun G hP => ⟨_, .inl (.inl (hP.1 _ _ (fun z => by rw [z, nD] at ec2; cases ec2) ec2)), rfl⟩) (fun i G hi hP => ⟨_, _, .inl (.inl (hP.1 _ _ (fun z => by rw [z, nD] at ec2; cases ec2) ec2)), List.getElem?_eq_getElem hi⟩) (fun i x G G' hi hP hy => ?_) (fun G hP => ?_)
      · obtain ⟨S5, dn⟩ := hP
        obtain ⟨T0, x, rfl, nT, rfl, hx⟩ := hy
        have hx := hx _ (.inl (.inl (S5 _ _ (fun z => by rw [z, nD] at ec2; cases ec2) ec2)))
        have sT := same_upd (o := .tup [.int (i : Nat), x]) nT
        refine ⟨T0, _, rfl, .inl (.inl upd_same), rfl, .int (i : Nat), _, rfl, x, [], rfl, rfl, rfl, ?_⟩
        unfold tYes
        obtain ⟨d, hd, rx⟩ := paired_get ry2 hx
        have rx2 : KnA.RowAt (upd G T0 (.tup [.int (i : Nat), x])) x d.1 d.2 := rx.ext fun b vs e => sT _ _ (S5 _ _ (fun z => by rw [z, nD] at e; cases e) e)
        obtain ⟨t, rfl, nkx⟩ := row_nis rx2
        have lp : (plD 0 (ds.take i)).length = i := by
          have := congrArg List.length (plD_keys (ds.take i) 0)
          rw [List.length_map, List.length_map, List.length_take] at this
          omega
        have nin : keyD d ∉ (plD 0 (ds.take i)).map (·.1) := by
          rw [plD_keys]
          have z : ds.map keyD = (ds.take i).map keyD ++ (ds.drop i).map keyD := by rw [← List.map_append, List.take_append_drop]
          rw [z] at nk
          obtain ⟨_, _, dj⟩ := List.nodup_append.mp nk
          refine fun m => dj _ m _ (?_ : keyD d ∈ (ds.drop i).map keyD) rfl
          exact List.mem_map.mpr ⟨d, List.mem_of_getElem? (i := 0) (by rw [List.getElem?_drop]; exact hd), rfl⟩
        refine iteT ⟨.ref t, rfl, .int (i : Nat), rfl, _, _, t, rfl, dn.mono sT, nkx, rk_depth _ _, small (by omega), fun G6 k6 dn6 => ⟨fun b o n e => (k6 b n).trans (sT _ _ (S5 b o n e)), ?_⟩⟩
        rw [putK_new nin] at dn6
        rw [take_more hd, plD_snoc, List.length_take, Nat.min_eq_left (by omega), Nat.zero_add]
        exact dn6
      obtain ⟨S5, dn⟩ := hP
      rw [lys, List.take_length] at dn
      have nDa : DD ≠ a := fun z => by rw [z, ea2] at nD; cases nD
      have nDc : DD ≠ c := fun z => by rw [z, ec2] at nD; cases nD
      have ea3 := S5 _ _ nDa.symm ea2
      refine ⟨.ref a, rfl, a, S, dx, _, rfl, ea3, T.cl_Spread, T.n_places, Nat.lt_of_le_of_lt (pl1 _ _ _ 0 (Nat.le_refl _)) (by decide), ?_⟩
      have nDH : ∀ b o, b ≠ a → H b = some o → b ≠ DD := fun b o n e z => by have := B2 b o n e; rw [z, nD] at this; cases this
      have B4 : ∀ b o, b ≠ a → H b = some o → (upd G a (.ins S dx (putF "places" (.ref DD) (putF "pairs" (.ref c) [])))) b = some o := fun b o n e => (upd_ne n).trans (S5 _ _ (nDH b o n e) (B2 b o n e))
      have ec4 : (upd G a (.ins S dx (putF "places" (.ref DD) (putF "pairs" (.ref c) [])))) c = some (.lst ys) := (upd_ne nca).trans (S5 _ _ nDc.symm ec2)
      have ea4 : (upd G a (.ins S dx (putF "places" (.ref DD) (putF "pairs" (.ref c) [])))) a = some (.ins S dx (putF "places" (.ref DD) (putF "pairs" (.ref c) []))) := upd_same
      have dn4 : KnN.DNAt P w (upd G a (.ins S dx (putF "places" (.ref DD) (putF "pairs" (.ref c) [])))) DD (plD 0 ds) := dn.set nDa.symm ea3 (fun xs z => by cases z)
      have ry4 : RowsP (upd G a (.ins S dx (putF "places" (.ref DD) (putF "pairs" (.ref c) [])))) ys ds := ry2.ext fun b xs e => (upd_ne (fun z => by rw [z, ea2] at e; cases e)).trans (S5 _ _ (fun z => by rw [z, nD] at e; cases e) e)
      generalize upd G a (.ins S dx (putF "places" (.ref DD) (putF "pairs" (.ref c) []))) = G5 at B4 ec4 ea4 dn4 ry4 ⊢
      clear S5 ea3 dn k4 B2 ec2 ea2 ry2 nDH
      have hm5 := hm.off ha (fun _ z => by cases z) (fun _ z => by cases z) (fun _ z => by cases z) (fun _ _ _ _ z => by cases z) B4
      have hw5 := hw.off ha (fun _ z => by cases z) (fun _ _ _ _ z => by cases z) B4
      have nna : n ≠ a := ne_of hn ha fun z => by cases z
      have lkp : (putF "places" (.ref DD) (putF "pairs" (.ref c) []) : List (Str × V)).lookup ("pairs" : Str) = some (.ref c) := by simp only [lookup_putF]; rw [if_neg (by decide +kernel), if_pos True.intro]
      -- moves
      refine ⟨.ref m, rfl, .ref wa, rfl, .ref a, rfl, a, S, dx, _, .ref c, rfl, ea4, T.cl_Spread, T.n_pairs, lkp, .ref n, rfl, m, wa, c, n, s0, ss, fs, tb, ys, ds, names, rfl, hm5, gm, hw5, ec4, ry4, B4 _ _ nna hn, nk, lds, fun d hd => ⟨sub_words wn (gS.ok d hd), by have := (gS.ok d hd).length_le; omega⟩, hf, fun G6 tt una se s6 ett liu lis => ?_⟩
      refine ⟨tt, _, rfl, .inl (.inl ett), rfl, .ref una, _, rfl, .ref se, [], rfl, rfl, ?_⟩
      have B6 : ∀ b o, b ≠ a → H b = some o → G6 b = some o := fun b o n e => s6 _ _ (B4 b o n e)
      have ea6 := s6 _ _ ea4
      have ec6 := s6 _ _ ec4
      have dn6 := dn4.mono s6
      have ry6 : RowsP G6 ys ds := ry4.ext fun _ _ z => s6 _ _ z
      clear B4 ea4 ec4 dn4 ry4 s6 hm5 hw5
      have clo : ∀ p ∈ ds, ∀ q ∈ unD ss (look fs) (look tb) p, q ∈ ds := fun p hp q hq => by
        obtain ⟨x, hx, e, _, rfl⟩ := unD_mem.mp hq
        exact un.step p hp x hx e
      have lkpl : (putF "places" (.ref DD) (putF "pairs" (.ref c) []) : List (Str × V)).lookup ("places" : Str) = some (.ref DD) := by simp only [lookup_putF]; rw [if_pos True.intro]
      have lkcl : (putF "places" (.ref DD) (putF "pairs" (.ref c) []) : List (Str × V)).lookup ("closure" : Str) = none := by simp only [lookup_putF]; rw [if_neg (by decide +kernel), if_neg (by decide +kernel)]; rfl
      -- closed
      refine ⟨.ref a, rfl, a, S, dx, _, .ref c, rfl, ea6, T.cl_Spread, T.n_pairs, lkp, c, rfl, ⟨_, .inl (.inl ec6)⟩, fun LC nLC => ?_⟩
      refine lc_list (K := K) (a := c) (xs := ys) (fun i G => Same G6 G ∧ ∃ ms, G LC = some (.lst (kInts ms)) ∧ Paired (fun m d => IsSetU ds m (Rch ss (look fs) (look tb) d)) ms (ds.take i)) ⟨same_upd nLC, [], upd_same, .nil⟩ (fun i G _ hP => .inl (.inl (hP.1 _ _ ec6))) (fun i x G hx hP => ?_) (fun G hP => ?_)
      · obtain ⟨S7, ms, eLC, pm⟩ := hP
        obtain ⟨d, hd, rx⟩ := paired_get ry6 hx
        have rx7 : KnA.RowAt G x d.1 d.2 := rx.ext fun _ _ z => S7 _ _ z
        obtain ⟨t, rfl, _⟩ := row_nis rx7
        refine ⟨rfl, ?_⟩
        unfold tYes
        refine iteT ⟨.ref a, rfl, a, dx, _, rfl, S7 _ _ ea6, lkcl, .ref t, rfl, .ref una, rfl, a, dx, DD, t, una, _, ds, d, ss, look fs, look tb, rfl, S7 _ _ ea6, lkpl, dn6.mono S7, liu.mono RD_m S7, rx7, List.mem_of_getElem? hd, nk, lds, clo, fun G8 mm8 s8 im8 => ?_⟩
        have lm := Paired.length pm
        rw [List.length_take] at lm
        refine ⟨_, s8 _ _ eLC, small (by unfold kInts; rw [List.length_map]; omega), same_set nLC (S7.trans s8), ms ++ [mm8], by rw [upd_same]; unfold kInts; rw [List.map_append]; rfl, ?_⟩
        rw [take_more hd]
        exact Paired.snoc pm im8
      · obtain ⟨S7, ms, eLC, pm⟩ := hP
        rw [lys, List.take_length] at pm
        have lms := Paired.length pm
        have B7 : ∀ b o, b ≠ a → H b = some o → G b = some o := fun b o n e => S7 _ _ (B6 b o n e)
        have ea7 := S7 _ _ ea6
        have ec7 := S7 _ _ ec6
        have dn7 := dn6.mono S7
        have ry7 : RowsP G ys ds := ry6.ext fun _ _ z => S7 _ _ z
        have lis7 := lis.mono RS_m S7
        clear S7 B6 ea6 ec6 dn6 ry6 liu lis
        have hm7 := hm.off ha (fun _ z => by cases z) (fun _ z => by cases z) (fun _ z => by cases z) (fun _ _ _ _ z => by cases z) B7
        obtain ⟨pdx, pls, plw, pdf, plt, pas, pws, pns, pp⟩ := id hm7
        obtain ⟨k0, hk0⟩ := List.getElem?_of_mem un.start
        have k0l : k0 < ds.length := (List.getElem?_eq_some_iff.mp hk0).1
        have gm0 : ms[k0]? = some (ms[k0]'(by omega)) := List.getElem?_eq_getElem _
        obtain ⟨d0, hd0, im0⟩ := paired_get pm gm0
        rw [hk0] at hd0
        cases hd0
        generalize (ms[k0]'(by omega)) = fm at gm0 im0
        have gk0 : (kInts ms)[k0]? = some (.int (fm : Int)) := by unfold kInts; rw [List.getElem?_map, gm0]; rfl
        refine setn_use rfl ?_
        -- first
        refine ⟨.ref LC, rfl, .ref a, rfl, a, S, dx, _, .ref DD, rfl, ea7, T.cl_Spread, T.n_places, lkpl, .ref m, rfl, m, pdx, _, rfl, pp.ob, m, s0, ss, fs, rfl, hm7, szl rfl, fun x1 nx1 => ⟨szl rfl, fun x2 nx2 => ?_⟩⟩
        have sx1 := same_upd (o := .tup []) nx1
        have ex1 : (upd G x1 (.tup [])) x1 = some (.tup []) := upd_same
        generalize upd G x1 (.tup []) = G8 at sx1 ex1 nx2 ⊢
        have sx2 := same_upd (o := .tup [V.int s0, .ref x1]) nx2
        have ex2 : (upd G8 x2 (.tup [V.int s0, .ref x1])) x2 = some (.tup [.int s0, .ref x1]) := upd_same
        have s78 := sx1.trans sx2
        have ex12 := sx2 _ _ ex1
        generalize upd G8 x2 (.tup [V.int s0, .ref x1]) = G9 at sx2 ex2 s78 ex12 ⊢
        obtain ⟨tx, etx, nkx⟩ := row_nis (show KnA.RowAt G9 (.ref x2) s0 [] from ⟨x2, x1, rfl, ex2, ex12⟩)
        cases etx
        have ea9 := s78 _ _ ea7
        have B9 : ∀ b o, b ≠ a → H b = some o → G9 b = some o := fun b o n e => s78 _ _ (B7 b o n e)
        refine ⟨DD, _, keyD (s0, []), x2, .int (k0 : Int), rfl, rfl, dn7.mono s78, nkx, rk_depth _ _, plD_val nk hk0, LC, kInts ms, (k0 : Int), .int (fm : Int), rfl, rfl, .inl (.inl (s78 _ _ eLC)), atI_nat gk0, ?_⟩
        have nLCa : LC ≠ a := fun z => by rw [z, ea7] at eLC; cases eLC
        have nDDa : DD ≠ a := fun z => by obtain ⟨es, h⟩ := dn7.some; rw [z, ea7] at h; unfold KnN.DN at h; cases h
        refine ⟨.ref a, rfl, a, S, dx, _, rfl, ea9, T.cl_Spread, T.n_first, Nat.lt_of_le_of_lt (pl1 _ _ _ 1 (pl1 _ _ _ 0 (Nat.le_refl _))) (by decide), ?_⟩
        have kU : ∀ b o, b ≠ a → G9 b = some o → (upd G9 a (.ins S dx (putF "first" (.int (fm : Int)) (putF "places" (.ref DD) (putF "pairs" (.ref c) []))))) b = some o := fun b o n e => (upd_ne n).trans e
        have ea10 : (upd G9 a (.ins S dx (putF "first" (.int (fm : Int)) (putF "places" (.ref DD) (putF "pairs" (.ref c) []))))) a = some (.ins S dx (putF "first" (.int (fm : Int)) (putF "places" (.ref DD) (putF "pairs" (.ref c) [])))) := upd_same
        have dn10 := (dn7.mono s78).set (o' := .ins S dx (putF "first" (.int (fm : Int)) (putF "places" (.ref DD) (putF "pairs" (.ref c) [])))) nDDa.symm ea9 (fun xs z => by cases z)
        generalize upd G9 a (.ins S dx (putF "first" (.int (fm : Int)) (putF "places" (.ref DD) (putF "pairs" (.ref c) [])))) = G10 at kU ea10 dn10 ⊢
        -- entered
        refine ⟨szl rfl, fun le nle => ?_⟩
        have sle := same_upd (o := .lst []) nle
        have ele : (upd G10 le (.lst [])) le = some (.lst []) := upd_same
        have ea11 := sle _ _ ea10
        have nlea : le ≠ a := fun z => by rw [z, ea10] at nle; cases nle
        show ∃ a_1, _
        generalize upd G10 le (.lst []) = G11 at sle ele ea11 ⊢
        refine ⟨.ref a, rfl, a, S, dx, _, rfl, ea11, T.cl_Spread, T.n_entered, Nat.lt_of_le_of_lt (pl1 _ _ _ 2 (pl1 _ _ _ 1 (pl1 _ _ _ 0 (Nat.le_refl _)))) (by decide), ?_⟩
        show Ends.nx _ _ (upd G11 a (.ins S dx (sflds c DD le fm)))
        have kk : ∀ b o, b ≠ a → G b = some o → (upd G11 a (.ins S dx (sflds c DD le fm))) b = some o := fun b o n e => (upd_ne n).trans (sle _ _ (kU b o n (s78 _ _ e)))
        have ea12 : (upd G11 a (.ins S dx (sflds c DD le fm))) a = some (.ins S dx (sflds c DD le fm)) := upd_same
        have ele12 : (upd G11 a (.ins S dx (sflds c DD le fm))) le = some (.lst []) := (upd_ne nlea).trans ele
        generalize upd G11 a (.ins S dx (sflds c DD le fm)) = G12 at kk ea12 ele12 ⊢
        have nle0 : ∀ {b o}, b ≠ a → G b = some o → b ≠ le := fun {b o} n e z => by
          have := kU b o n (s78 _ _ e)
          rw [z, nle] at this; cases this
        have B12 : ∀ b o, b ≠ a → H b = some o → G12 b = some o := fun b o n e => kk b o n (B7 b o n e)
        have ec12 := kk _ _ nca ec7
        have eLC12 := kk _ _ nLCa eLC
        have dn12 := dn_off dn7 ea7 (fun _ z => by cases z) (fun _ z => by cases z) kk
        obtain ⟨kvse, dns7, alls⟩ := lis7
        have dns12 := dn_off dns7 ea7 (fun _ z => by cases z) (fun _ z => by cases z) kk
        have kt12 : ∀ b xs, G b = some (.tup xs) → G12 b = some (.tup xs) := fun b xs e => kk _ _ (fun z => by rw [z, ea7] at e; cases e) e
        have ry12 : RowsP G12 ys ds := ry7.ext fun b xs e => kk _ _ (fun z => by rw [z, ea7] at e; cases e) e
        have ncle : c ≠ le := nle0 nca ec7
        have nLCle : LC ≠ le := nle0 nLCa eLC
        have nHle : ∀ {b o}, b ≠ a → H b = some o → b ≠ le := fun n e => nle0 n (B7 _ _ n e)
        clear kU ea10 dn10 sle ele ea11 s78 sx1 sx2 ex1 ex2 ex12 B9 ea9 nkx pp hm7 nle
        -- the rows
        refine ⟨.ref a, rfl, a, S, dx, _, .ref c, rfl, ea12, T.cl_Spread, T.n_pairs, sf_pairs _ _ _ _, c, rfl, ⟨_, .inl (.inl ec12)⟩, ?_⟩
        refine for_list (K := K) (a := c) (xs := ys) (fun i σ G => ∃ (y7 y8 y9 y10 : Option V) (ads : List Addr), σ = [some (.ref a), some (.ref m), some (.ref wa), some (.ref n), some (.ref una), some (.ref se), some (.ref LC), y7, y8, y9, y10, none, none, none] ∧ (∀ b o, b ≠ le → G12 b = some o → G b = some o) ∧ G le = some (.lst (ads.map V.ref)) ∧ ads.length = i ∧ (∀ b ∈ ads, G12 b = none ∧ b ≠ le) ∧
            ∀ (k : Nat) (b : Addr) (d : KnA.Dat), ads[k]? = some b → ds[k]? = some d → ∃ kvs zs, G b = some (.dK kvs) ∧ zs.length ≤ 1000 ∧ Acc ds kvs zs fun z q => ∃ r, Sees ss (look fs) (look tb) z d r ∧ Rch ss (look fs) (look tb) r q)
          ⟨none, none, none, none, [], rfl, fun b o _ e => e, ele12, rfl, (fun _ h => nomatch h), fun k b d e _ => by cases e⟩ (fun i σ G _ hP => .inl (.inl (hP.choose_spec.choose_spec.choose_spec.choose_spec.choose_spec.2.1 _ _ ncle ec12))) (fun i x σ G hx hP => ?_) (fun σ G hP => ?_)
        · obtain ⟨y7, y8, y9, y10, ads, rfl, KG, eleG, lads, fad, rad⟩ := hP
          obtain ⟨d, hd, rx⟩ := paired_get ry12 hx
          obtain ⟨t, rfl, nkt⟩ := row_nis (rx.ext fun b xs e => KG _ _ (ne_of e ele12 fun z => by cases z) e)
          refine setn_use rfl ?_
          refine fun r nr => ?_
          have sr := same_upd (o := .dK []) nr
          have er : (upd G r (.dK [])) r = some (.dK []) := upd_same
          refine setn_use rfl ?_
          have nrle : r ≠ le := fun z => by rw [z, eleG] at nr; cases nr
          have nrG : ∀ {b o}, G b = some o → b ≠ r := fun e z => by rw [z, nr] at e; cases e
          generalize upd G r (.dK []) = G1 at sr er ⊢
          have K1 : ∀ b o, b ≠ le → G12 b = some o → G1 b = some o := fun b o n e => sr _ _ (KG b o n e)
          have nr12 : G12 r = none := by
            cases z : G12 r with
            | none => rfl
            | some o => have := KG r o nrle z; rw [nr] at this; cases this
          have kt1 : ∀ b xs, G12 b = some (.tup xs) → G1 b = some (.tup xs) := fun b xs e => K1 _ _ (ne_of e ele12 fun z => by cases z) e
          obtain ⟨l2, vs2, vl2, el2, pl2⟩ := alls d (List.mem_of_getElem? hd)
          have nl2a : l2 ≠ a := fun z => by rw [z, ea7] at el2; cases el2
          have el21 := K1 _ _ (nle0 nl2a el2) (kk _ _ nl2a el2)
          have dns1 := (dn_off dns12 ele12 (fun _ z => by cases z) (fun _ z => by cases z) KG).mono sr
          refine ⟨.ref se, rfl, .ref t, rfl, se, kvse, keyD d, t, .ref l2, rfl, rfl, dns1, KnN.NIs.ext (fun _ _ z => sr _ _ z) _ _ nkt, rk_depth _ _, vl2, l2, rfl, ⟨_, .inl (.inl el21)⟩, ?_⟩
          have nrl2 : l2 ≠ r := nrG (KG _ _ (nle0 nl2a el2) (kk _ _ nl2a el2))
          have lse : vs2.length ≤ 80 := by rw [Paired.length pl2]; exact Nat.le_trans (seD_len _ _ _ _) gm.gs.hi
          refine for_list (K := K) (a := l2) (xs := vs2) (fun j σ G' => ∃ (y9 y10 : Option V) (kvs : List (Key × V)) (zs : List Str), σ = [some (.ref a), some (.ref m), some (.ref wa), some (.ref n), some (.ref una), some (.ref se), some (.ref LC), some (.ref t), some (.ref r), y9, y10, none, none, none] ∧ (∀ b o, b ≠ r → G1 b = some o → G' b = some o) ∧ G' r = some (.dK kvs) ∧ zs.length ≤ j ∧ Acc ds kvs zs fun z q => ∃ p ∈ (seD ss (look fs) (look tb) d).take j, p.1 = z ∧ Rch ss (look fs) (look tb) p.2 q)
            ⟨y9, y10, [], [], rfl, fun _ _ _ e => e, er, Nat.le_refl _, Acc.nil fun z q ⟨p, hp, _⟩ => by rw [List.take_zero] at hp; cases hp⟩ (fun j σ G' _ hP => .inl (.inl (hP.choose_spec.choose_spec.choose_spec.choose_spec.2.1 _ _ nrl2 el21))) (fun j x σ G' hx' hP => ?_) (fun σ G' hP => ?_)
          · obtain ⟨y9, y10, kvs, zs, rfl, K2, er2, lz, ac⟩ := hP
            obtain ⟨⟨z, q0⟩, hq, t1, r1, rfl, ht1, rt1⟩ := paired_get pl2 hx'
            have K12 : ∀ b o, b ≠ le → b ≠ r → G12 b = some o → G' b = some o := fun b o n1 n2 e => K2 _ _ n2 (K1 _ _ n1 e)
            have kt : ∀ b xs, G b = some (.tup xs) → True := fun _ _ _ => trivial
            have ktG : ∀ b xs, G12 b = some (.tup xs) → G' b = some (.tup xs) := fun b xs e => K12 _ _ (ne_of e ele12 fun y => by cases y) (fun y => by rw [y, nr12] at e; cases e) e
            have ht1' := ktG _ _ (kt12 _ _ ht1)
            have rt1' := (rt1.ext kt12).ext ktG
            obtain ⟨t2, rfl, nk2⟩ := row_nis rt1'
            have mq0 : q0 ∈ ds := by
              obtain ⟨x, hx, e, _, rfl⟩ := seD_mem.mp (List.mem_of_getElem? hq)
              exact un.step d (List.mem_of_getElem? hd) x hx e
            obtain ⟨kq, hkq⟩ := List.getElem?_of_mem mq0
            have kql : kq < ds.length := (List.getElem?_eq_some_iff.mp hkq).1
            have gmq : ms[kq]? = some (ms[kq]'(by omega)) := List.getElem?_eq_getElem _
            obtain ⟨dq, hdq, imq⟩ := paired_get pm gmq
            rw [hkq] at hdq
            cases hdq
            generalize (ms[kq]'(by omega)) = mq at gmq imq
            have gkq : (kInts ms)[kq]? = some (.int (mq : Int)) := by unfold kInts; rw [List.getElem?_map, gmq]; rfl
            refine ⟨t1, _, rfl, .inl (.inl ht1'), rfl, .str z, _, rfl, .ref t2, [], rfl, rfl, ?_⟩
            obtain ⟨m0, g0, i0⟩ := ac.got z
            have lk := ac.len
            have nar : a ≠ r := fun y => by rw [y, nr12] at ea12; cases ea12
            have nLCr : LC ≠ r := fun y => by rw [y, nr12] at eLC12; cases eLC12
            have dnG : KnN.DNAt P w G' DD (plD 0 ds) := dn_off (dn_off dn12 ele12 (fun _ z => by cases z) (fun _ z => by cases z) K1) er (fun _ z => by cases z) (fun _ z => by cases z) K2
            have eaG := K12 _ _ nlea.symm nar ea12
            refine ⟨.ref r, rfl, r, rfl, .inl ⟨_, .inl er2⟩, .str z, rfl, _, DGet.k (k := .inr z) er2, .ref LC, rfl, .ref a, rfl, a, S, dx, _, .ref DD, rfl, eaG, T.cl_Spread, T.n_places, sf_places _ _ _ _, .ref t2, rfl, DD, _, keyD q0, t2, .int (kq : Int), rfl, rfl, dnG, nk2, rk_depth _ _, plD_val nk hkq, LC, kInts ms, (kq : Int), .int (mq : Int), rfl, rfl, .inl (.inl (K12 _ _ nLCle nLCr eLC12)), atI_nat gkq, (m0 : Int), (mq : Int), g0, rfl, .ref r, rfl, .str z, rfl, r, _, rfl, DPut.k (k := .inr z) er2 (small (by have := (List.getElem?_eq_some_iff.mp hx').1; omega)), ?_⟩
            have eo : Builtin.bitOr (m0 : Int) (mq : Int) = ((m0 ||| mq : Nat) : Int) := KnA.b_or _ _
            have pt := ac.put (i0.or imq) ⟨q0, .refl⟩
            refine ⟨_, _, _, _, rfl, fun b o n e => (upd_ne n).trans (K2 b o n e), by rw [upd_same]; show some (HO.dK (putK kvs (Sum.inr z) (V.int (Builtin.bitOr (m0 : Int) (mq : Int))))) = _; rw [eo], ?_, pt.iff fun y q' => ?_⟩
            · split
              · omega
              · rw [List.length_append]; exact Nat.succ_le_succ lz
            · rw [take_more hq]
              constructor
              · rintro (⟨p, hp, h⟩ | ⟨rfl, h⟩)
                · exact ⟨p, List.mem_append_left _ hp, h⟩
                · exact ⟨(y, q0), List.mem_append_right _ (List.mem_singleton.mpr rfl), rfl, h⟩
              · rintro ⟨p, hp, h1, h2⟩
                rcases List.mem_append.mp hp with hp | hp
                · exact .inl ⟨p, hp, h1, h2⟩
                · rw [List.mem_singleton.mp hp] at h1 h2
                  exact .inr ⟨h1.symm, h2⟩
          · obtain ⟨y9, y10, kvs, zs, rfl, K2, er2, lz, ac⟩ := hP
            have lv := Paired.length pl2
            rw [lv, List.take_length] at ac
            have acR : Acc ds kvs zs fun z q => ∃ r, Sees ss (look fs) (look tb) z d r ∧ Rch ss (look fs) (look tb) r q := ac.iff fun z q' => by
              constructor
              · rintro ⟨⟨z', r'⟩, hp, h1, h2⟩
                have h1 : z' = z := h1
                subst h1
                exact ⟨r', seD_mem.mp hp, h2⟩
              · rintro ⟨r', h1, h2⟩
                exact ⟨(z, r'), seD_mem.mpr h1, rfl, h2⟩
            have nar : a ≠ r := fun y => by rw [y, nr12] at ea12; cases ea12
            have eaG := K2 _ _ nar (K1 _ _ nlea.symm ea12)
            have eleG' := K2 _ _ nrle.symm (sr _ _ eleG)
            have hi : i < ys.length := (List.getElem?_eq_some_iff.mp hx).1
            refine ⟨.ref a, rfl, a, S, dx, _, .ref le, rfl, eaG, T.cl_Spread, T.n_entered, sf_entered _ _ _ _, .inl ⟨rfl, _, .inl (.inl eleG')⟩, .ref r, rfl, le, ads.map V.ref, .ref r, rfl, rfl, eleG', small (by rw [List.length_map]; omega), ?_⟩
            refine ⟨_, _, _, _, ads ++ [r], rfl, fun b o n e => (upd_ne n).trans (K2 _ _ (fun y => by rw [y, nr12] at e; cases e) (K1 _ _ n e)), by rw [upd_same, List.map_append]; rfl, by rw [List.length_append, lads]; rfl, fun b hb => ?_, fun k b d' e1 e2 => ?_⟩
            · rcases List.mem_append.mp hb with hb | hb
              · exact fad b hb
              · rw [List.mem_singleton.mp hb]; exact ⟨nr12, nrle⟩
            · rw [List.getElem?_append] at e1
              by_cases kl : k < ads.length
              · rw [if_pos kl] at e1
                obtain ⟨kv, zz, h1, h2, h3⟩ := rad k b d' e1 e2
                have nb := (fad b (List.mem_of_getElem? e1)).2
                have nbr : b ≠ r := fun y => by rw [y, nr] at h1; cases h1
                exact ⟨kv, zz, (upd_ne nb).trans (K2 _ _ nbr (sr _ _ h1)), h2, h3⟩
              · rw [if_neg kl] at e1
                have kk0 : k = i := by
                  have : k - ads.length < 1 := (List.getElem?_eq_some_iff.mp e1).1
                  omega
                have e3 : b = r := List.mem_singleton.mp (List.mem_of_getElem? e1)
                subst e3 kk0
                rw [hd] at e2
                cases e2
                exact ⟨kvs, zs, (upd_ne nrle).trans er2, by have := (List.getElem?_eq_some_iff.mp hx).1; omega, acR⟩
        · obtain ⟨y7, y8, y9, y10, ads, rfl, KG, eleG, lads, fad, rad⟩ := hP
          have nae : a ≠ le := nlea.symm
          refine q G c DD le ys ds ads fm (fun b o n e => KG b o (nHle n e) (B12 b o n e)) ⟨KG _ _ nae ea12, KG _ _ ncle ec12, ry12.ext fun b xs e => KG _ _ (ne_of e ele12 fun z => by cases z) e, dn_off dn12 ele12 (fun _ z => by cases z) (fun _ z => by cases z) KG, im0, eleG, by rw [lads, lys], fun k b d e1 e2 => rad k b d e1 e2⟩ gS

end
end Kn

set_option Elab.async false
set_option linter.all false
set_option maxRecDepth 100000
set_option maxHeartbeats 4000000
namespace Kn
open PySem PySem.Spec PyProof.Rows L2
open C8 (Cal pe_c pe_gc Mak pe_mk)
section
variable {P : Program} {w : World} {K : PySem.W.Frag} {mg : Str → Option Value} {base : Heap}
/-! ### estimates -/
theorem names_of {ss : List KnA.Stp} {fs : List (Str × Str)} {ws xs : List Str} (nd : (fs.map (·.1)).Nodup) (gf : GoodFaults fs (ss.map (·.2.1))) (hw : KnA.Words ws (ss.map (·.2.1))) (h : KnA.Words xs ((orderF ws fs).map (·.2))) : KnA.Words xs (fs.map (·.2)) := by
  refine ⟨h.up, h.nd, fun x => (h.mem x).trans ?_⟩
  rw [List.mem_map, List.mem_map]
  constructor
  · rintro ⟨p, hp, rfl⟩
    exact ⟨(p.1, p.2), (look_mem nd).mp (order_mem.mp hp).2, rfl⟩
  · rintro ⟨p, hp, rfl⟩
    exact ⟨p, order_mem.mpr ⟨(hw.mem _).mpr (gf.word p hp).2.1, (look_mem nd).mpr hp⟩, rfl⟩
theorem look_val_in {fs : List (Str × Str)} {x f : Str} (h : look fs x = some f) : f ∈ fs.map (·.2) := by
  unfold look at h
  cases e : fs.find? (fun p => decide (p.1 = x)) with
  | none => rw [e] at h; cases h
  | some p =>
    rw [e] at h
    exact List.mem_map.mpr ⟨p, List.mem_of_find?_eq_some e, Option.some.inj h⟩
theorem seq_if {c : TT} {t u b : TS} {D : Ends} {σ : L2.St} {H : Hp} (Tt : L2.St → Hp → Prop) (h : (∀ σ2 H2, Tt σ2 H2 → b D σ2 H2) → tSeq (tIfS c t u) b D σ H) (k : ∀ σ2 H2, Tt σ2 H2 → b D σ2 H2) : tSeq (tIfS c t u) b D σ H := h k
/-- pairs are few enough -/
def Fit (ss : List KnA.Stp) (fs : List (Str × Str)) (s0 : Int) : Prop := ∀ ns xs, KnA.States ns ss s0 → KnA.Words xs (fs.map (·.2)) → xs.length ≤ 3 ∧ ns.length * 2 ^ xs.length ≤ 60
theorem nextE_iff {ss : List KnA.Stp} {lf lw : Lk} {z : Str} {S S' : KnA.Dat → Prop} (h : ∀ q, S q ↔ S' q) (q : KnA.Dat) : nextE ss lf lw z S q ↔ nextE ss lf lw z S' q :=
  ⟨fun ⟨p, r, a, b⟩ => ⟨p, r, (h p).mp a, b⟩, fun ⟨p, r, a, b⟩ => ⟨p, r, (h p).mpr a, b⟩⟩
/-! ### rows of sights of any value -/
def FineS (ss : List KnA.Stp) (lf lw : Lk) (s0 : Int) (xs : List V) : Prop := ∃ zs : List Str, xs = zs.map V.str ∧ (∀ z ∈ zs, nameB (.str z) = true) ∧ ∃ q, Est ss lf lw s0 zs q
def BadS (ss : List KnA.Stp) (lf lw : Lk) (s0 : Int) (xs : List V) (i : Nat) : Prop := ∃ (zs : List Str) (y : V), xs.take i = zs.map V.str ∧ (∀ z ∈ zs, nameB (.str z) = true) ∧ (∃ q, Est ss lf lw s0 zs q) ∧ xs[i]? = some y ∧ (nameB y = false ∨ ∃ z, y = .str z ∧ ¬ ∃ q, Est ss lf lw s0 (zs ++ [z]) q)
theorem est_pre {ss : List KnA.Stp} {lf lw : Lk} {s0 : Int} (zs : List Str) : ∀ ys : List Str, (∃ q, Est ss lf lw s0 (zs ++ ys) q) → ∃ q, Est ss lf lw s0 zs q := by
  refine snoc_rec (fun h => by rw [List.append_nil] at h; exact h) fun ys y ih h => ?_
  obtain ⟨q, hq⟩ := h
  rw [← List.append_assoc, est_snoc] at hq
  obtain ⟨p, _, hp, _⟩ := hq
  exact ih ⟨p, hp⟩
theorem strs_inj {xs ys : List Str} (h : xs.map V.str = ys.map V.str) : xs = ys := KnA.str_inj h
theorem bad_no {ss : List KnA.Stp} {lf lw : Lk} {s0 : Int} {xs : List V} {i : Nat} {zs : List Str} (b : BadS ss lf lw s0 xs i) {j : Nat} (hj : i < j) (e : xs.take j = zs.map V.str) (nz : ∀ z ∈ zs, nameB (.str z) = true) (q : ∃ q, Est ss lf lw s0 zs q) : False := by
  obtain ⟨ys, y, e1, _, _, e2, alt⟩ := b
  have e3 : (xs.take j)[i]? = some y := by rw [List.getElem?_take_of_lt hj]; exact e2
  rw [e, List.getElem?_map] at e3
  cases gz : zs[i]? with
  | none => rw [gz] at e3; cases e3
  | some z =>
  rw [gz] at e3
  cases e3
  have e4 : ys = zs.take i := strs_inj (by rw [← e1, List.map_take, ← e, List.take_take, Nat.min_eq_left (by omega)])
  rcases alt with n | ⟨z', ez, n⟩
  · rw [nz z (List.mem_of_getElem? gz)] at n; cases n
  · cases ez
    refine n ?_
    rw [e4, ← take_more gz]
    refine est_pre _ (zs.drop (i + 1)) ?_
    rw [List.take_append_drop]; exact q
theorem bad_fine {ss : List KnA.Stp} {lf lw : Lk} {s0 : Int} {xs : List V} {i : Nat} (b : BadS ss lf lw s0 xs i) (f : FineS ss lf lw s0 xs) : False := by
  obtain ⟨zs, e, nz, q⟩ := f
  have hi : i < xs.length := by obtain ⟨_, _, _, _, _, e2, _⟩ := b; exact (List.getElem?_eq_some_iff.mp e2).1
  exact bad_no b hi (by rw [List.take_length]; exact e) nz q
theorem bad_one {ss : List KnA.Stp} {lf lw : Lk} {s0 : Int} {xs : List V} {i j : Nat} (a : BadS ss lf lw s0 xs i) (b : BadS ss lf lw s0 xs j) : i = j := by
  rcases Nat.lt_trichotomy i j with h | h | h
  · obtain ⟨zs, _, e, nz, q, _⟩ := b; exact (bad_no a h e nz q).elim
  · exact h
  · obtain ⟨zs, _, e, nz, q, _⟩ := a; exact (bad_no b h e nz q).elim
theorem name_str {v : V} (h : nameB v = true) : ∃ z, v = .str z := by
  cases v <;> first | exact ⟨_, rfl⟩ | cases h
/-- what after and known do -/
def AfterOut (ce : Es) (H : Hp) (Q : VK) (E : XK) (ss : List KnA.Stp) (fs tb : List (Str × Str)) (s0 : Int) (K : PySem.W.Frag) (v : V) : Prop :=
  (∃ (sg : Addr) (xs : List V), v = .ref sg ∧ H sg = some (.tup xs) ∧ xs.length ≤ 1000 ∧ (∀ y ∈ xs, Val K H y) ∧ (FineS ss (look fs) (look tb) s0 xs → ∀ r H', Same H H' → Q r H') ∧ ∀ i, BadS ss (look fs) (look tb) s0 xs i → ∀ H' d, Same H H' → H' d = none → E (.ref ce.BadSights) (some d) (upd H' d (.xd [("at", .int (i : Int))])))
  ∨ ∃ t, TyOf K H v t ∧ PySem.W.kitOne K t (.type "tuple") = some false ∧ ∀ H' d, Same H H' → H' d = none → E (.ref ce.BadSights) (some d) (upd H' d (.xd [("at", .int (-1))]))
def sx_after (K : PySem.W.Frag) (C D _S : Addr) (ce : Es) : Sp := fun vs H Q E => ∃ (m : Addr) (x v : V) (s0 : Int) (ss : List KnA.Stp) (fs : List (Str × Str)), vs = [.ref m, x, v] ∧ MachAt C H m s0 ss fs ∧ GoodMach s0 ss fs ∧ (fs.map (·.1)).Nodup ∧ Fit ss fs s0 ∧
  ((∃ (wa : Addr) (tb : List (Str × Str)), x = .ref wa ∧ WatchAt D H wa tb ∧ ∃ Q' : VK, (∀ (H' : Hp) (l : Addr) (rs : List V) (ds : List KnA.Dat), Same H H' → H' l = some (.lst rs) → RowsP H' rs ds → ds.length ≤ 60 → Q' (.ref l) H' → Q (.ref l) H') ∧ AfterOut ce H Q' E ss fs tb s0 K v)
    ∨ ∃ t, TyOf K H x t ∧ PySem.W.kitOne K t (.ref D) = some false ∧ ∀ d, H d = none → E (.ref ce.BadWatch) (some d) (upd H d (.xd [("value", x)])))
theorem ok_after {f : Addr} {C D S : Addr} {ce : Es} {fd : FuncData} (T : Txt K mg C D S) (F : Fun K "after" "after" s_after f fd) (c_BadSights : KnX.Err P w K mg base 1 "BadSights" ce.BadSights "at") (c_check_watch : KnX.CalX P w K mg base 3 "check_watch" (sx_check_watch K D ce)) (c_Spread_init : Mak P w K mg base 5 "Spread" S (sp_Spread_init (P := P) (w := w) K S C D) []) (c_Machine_fault_names : KnP.Prp P w K mg base 1 C "fault_names" (sp_Machine_fault_names K C)) (c_is_name : Cal P w K mg base 1 "is_name" (sp_is_name K) []) (c_Spread_beyond : C8.Met P w K mg base 2 S "beyond" (sp_Spread_beyond (P := P) (w := w) K S) []) (c_Spread_pairs_in : C8.Met P w K mg base 2 S "pairs_in" (sp_Spread_pairs_in (P := P) (w := w) K S) []) : FnOk P w K mg base (L2.CX P w) 7 f fd ["machine", "watch", "sights"] (sx_after K C D S ce) := by
  have nd := sc_after.nd
  refine F.okX sc_after (fun vs H Q E h => ?_) (fun cdv A outer s H vs Q E hr h => ?_)
  · obtain ⟨m, x, v, s0, ss, fs, rfl, _⟩ := h
    rfl
  · obtain ⟨m, xw, v, s0, ss, fs, rfl, hm, gm, ndf, fit, alt⟩ := h
    refine ⟨_, (pss_cons (ps_expr (KnX.pe_cx c_check_watch hr (by omega) (by rfl) (takes_of rfl rfl rfl rfl) (pa_cons (pv 1) pa_nil)))
      (pss_cons (ps_if (pt_not (pt_val (pe_callB call_isi (by rfl) T.m_isinstance (by decide +kernel) (pa_cons (pv 2) (pa_cons (pe_bltn (v := .ty "tuple") (u := .type "tuple") (by rfl) T.m_tuple (by decide +kernel) rfl) pa_nil))))) (pss_one (KnX.ps_err rfl (takes_of rfl rfl rfl rfl) c_BadSights hr (by omega) (by rfl) (pa_cons (pe_un un_neg pe_int) pa_nil))) pss_nil)
      (pss_cons (ps_set (i := 3) nd rfl (.inl rfl) (pe_mk c_Spread_init hr (by omega) (by rfl) (pa_cons (pv 0) (pa_cons (pv 1) (pa_cons (KnP.pe_prp T.cl c_Machine_fault_names hr (by decide) (pv 0) (by rfl)) pa_nil)))))
      (pss_cons (ps_set (i := 4) nd rfl (.inl rfl) (pe_fld (pv 3) rfl))
      (pss_cons (ps_set (i := 5) nd rfl (.inl rfl) pe_dnewK)
      (pss_cons (ps_for (passes_of rfl) rfl (KnE.pi_en (by rfl) T.m_enumerate (pa_cons (pv 2) pa_nil)) (pg_tup (by rfl) (pgs_cons (pg_name (i := 6) nd rfl (.inl rfl)) (pgs_cons (pg_name (i := 7) nd rfl (.inl rfl)) pgs_nil))) (pss_cons (ps_if (pt_cmp (pc_dnotin (hu_of hr) (pv 4) (pv 5))) (pss_one (ps_dput (hu_of hr) (pv 5) (pv 4) (C8.pe_mt c_Spread_beyond hr (by omega) (pv 3) (pa_cons (pv 4) pa_nil)) rfl)) pss_nil)
      (pss_cons (ps_if (PW.pt (pw_or (pt_not (pt_val (pe_c c_is_name hr (by omega) (by rfl) (pa_cons (pv 7) pa_nil)))) (pw_or1 (pt_cmp (pc_dnotin (hu_of hr) (pv 7) (pe_dget (hu_of hr) (pv 5) (pv 4) (fun _ _ => rfl))))))) (pss_one (KnX.ps_err rfl (takes_of rfl rfl rfl rfl) c_BadSights hr (by omega) (by rfl) (pa_cons (pv 6) pa_nil))) pss_nil)
      (pss_one (ps_set (i := 4) nd rfl (.inl rfl) (pe_dget (hu_of hr) (pe_dget (hu_of hr) (pv 5) (pv 4) (fun _ _ => rfl)) (pv 7) (fun _ _ => rfl)))))))
      (pss_one (ps_ret (C8.pe_mt c_Spread_pairs_in hr (by omega) (pv 3) (pa_cons (pv 4) pa_nil)))))))))), ?_⟩
    rcases alt.symm with ⟨t, ty, kit, q⟩ | ⟨wa, tb, rfl, hw, Q', qq, alt⟩
    · exact ⟨xw, rfl, xw, rfl, .inr ⟨t, ty, kit, q⟩⟩
    refine ⟨.ref wa, rfl, .ref wa, rfl, .inl ⟨wa, tb, rfl, hw, ?_⟩⟩
    rcases alt.symm with ⟨t, ty, kit, q⟩ | ⟨sg, zs, rfl, hsg, lzs, nv, q, bad⟩
    · refine ⟨v, rfl, v, .ty "tuple", t, .type "tuple", false, rfl, .ty _, .base ty, kit, _, rfl, iteT ⟨1, rfl, KnX.mk_err fun d nd' => q H d (Same.refl H) nd'⟩⟩
    refine ⟨.ref sg, rfl, .ref sg, .ty "tuple", .type "tuple", _, true, rfl, .ty _, .base (.tup hsg), kit_ty (show kitB "tuple" "tuple" = some true by decide +kernel), _, rfl, iteF ?_⟩
    obtain ⟨mdx, mls, mlw, mdf, mlt, mas, mws, mns, mm⟩ := id hm
    refine ⟨.ref m, rfl, .ref wa, rfl, .ref m, rfl, m, mdx, _, rfl, mm.ob, m, s0, ss, fs, rfl, hm, by have := gm.gs.hi; omega, fun H1 nl ws xs s1 nnl enl hws hxs0 => ?_⟩
    have hxs := names_of ndf gm.gf hws hxs0
    refine fun x dx nx ndx nex => ?_
    have sx : Same H1 (upd (upd H1 dx (.own x)) x (.ins S dx [])) := fun b o e => (upd_ne (ne_of_none e nx)).trans ((upd_ne (ne_of_none e ndx)).trans e)
    have ex : (upd (upd H1 dx (.own x)) x (.ins S dx [])) x = some (.ins S dx []) := upd_same
    generalize upd (upd H1 dx (.own x)) x (.ins S dx []) = H2 at sx ex ⊢
    have s2 := s1.trans sx
    have nxH : H x = none := s1.free nx
    have nmx : ∀ x ∈ ss, ∀ f, look fs x.2.1 = some f → f ∈ xs := fun x hx f e => (hxs.mem f).mpr (look_val_in e)
    refine ⟨x, dx, m, wa, nl, s0, ss, fs, tb, xs, rfl, ex, hm.mono s2, gm, hw.mono s2, sx _ _ enl, words_self hxs, (fit mns xs mm.re hxs).1, nmx, fun ns hns => (fit ns xs hns hxs).2, fun H3 lp pl le ys ds ads fm k3 o3 g3 => ?_⟩
    have s3 : Same H H3 := fun b o e => k3 b o (ne_of_none e nxH) (s2 b o e)
    refine ⟨rfl, setn_use rfl ?_⟩
    refine ⟨.ref x, rfl, x, S, dx, _, .int (fm : Int), rfl, o3.ob, T.cl_Spread, T.n_first, sf_first _ _ _ _, ?_⟩
    refine setn_use rfl ?_
    refine fun en nen => ?_
    have sen := same_upd (o := .dK []) nen
    have een : (upd H3 en (.dK [])) en = some (.dK []) := upd_same
    refine setn_use rfl ?_
    generalize upd H3 en (.dK []) = H4 at sen een ⊢
    have s4 := s3.trans sen
    have o4 := o3.mono sen
    have nenH : H en = none := s3.free nen
    have sgl : ∀ x ∈ ss, ∀ z, look tb x.2.1 = some z → z ∈ (mws.filterMap (look tb)) := fun x hx z e => List.mem_filterMap.mpr ⟨x.2.1, (mm.wo.mem _).mpr (List.mem_map.mpr ⟨x, hx, rfl⟩), e⟩
    have sgn : (mws.filterMap (look tb)).length ≤ 60 := Nat.le_trans (List.length_filterMap_le _ _) (by have := gm.few mws mm.wo; omega)
    refine ⟨.ref sg, rfl, sg, false, zs, rfl, .inl (.inl (s4 _ _ hsg)), ?_⟩
    have nsgen : sg ≠ en := ne_of_none hsg nenH
    refine KnE.for_en (K := K) (b := false) (a := sg) (xs := zs) (fun i σ G => ∃ (y6 y7 : Option V) (mc : Nat) (kvs : List (Key × V)), σ = [some (.ref m), some (.ref wa), some (.ref sg), some (.ref x), some (.int (mc : Int)), some (.ref en), y6, y7] ∧ (∀ b o, b ≠ en → H4 b = some o → G b = some o) ∧ (∃ ps : List Str, zs.take i = ps.map V.str ∧ (∀ z ∈ ps, nameB (.str z) = true) ∧ (∃ q, Est ss (look fs) (look tb) s0 ps q) ∧ IsSetU ds mc (Est ss (look fs) (look tb) s0 ps)) ∧ G en = some (.dK kvs) ∧ kvs.length ≤ i ∧
        ∀ k v, valV kvs k = some v → ∃ (mm : Nat) (d : Addr) (kv2 : List (Key × V)) (zs2 : List Str), k = .inl (mm : Int) ∧ v = .ref d ∧ d ≠ en ∧ G d = some (.dK kv2) ∧ Acc ds kv2 zs2 fun z q => nextE ss (look fs) (look tb) z (Sof ds mm) q)
      ⟨none, none, fm, [], rfl, fun _ _ _ e => e, ⟨[], rfl, fun _ h => (nomatch h), ⟨_, .refl⟩, o3.first⟩, een, Nat.le_refl _, fun k v e => by cases e⟩ (fun i σ G _ hP => .inl (.inl (hP.choose_spec.choose_spec.choose_spec.choose_spec.2.1 _ _ nsgen (s4 _ _ hsg)))) (fun i vi T1 σ G hx nT hP => ?_) (fun σ G hP => ?_)
    · obtain ⟨y6, y7, mc, kvs, rfl, KG, ⟨ps, eps, nps, exq, imc⟩, eG, lk, all⟩ := hP
      have mz := List.mem_of_getElem? hx
      have hi : i < zs.length := (List.getElem?_eq_some_iff.mp hx).1
      have sT := same_upd (o := .tup [V.int (i : Nat), vi]) nT
      have eT : (upd G T1 (.tup [V.int (i : Nat), vi])) T1 = some (.tup [.int (i : Nat), vi]) := upd_same
      have eG1 := sT _ _ eG
      have KG1 : ∀ b o, b ≠ en → H4 b = some o → (upd G T1 (.tup [V.int (i : Nat), vi])) b = some o := fun b o n e => sT _ _ (KG b o n e)
      have all1 : ∀ k v, valV kvs k = some v → ∃ (mm : Nat) (d : Addr) (kv2 : List (Key × V)) (zs2 : List Str), k = .inl (mm : Int) ∧ v = .ref d ∧ d ≠ en ∧ (upd G T1 (.tup [V.int (i : Nat), vi])) d = some (.dK kv2) ∧ Acc ds kv2 zs2 fun z q => nextE ss (look fs) (look tb) z (Sof ds mm) q := fun k v e => let ⟨mm, d, kv2, zs2, a1, a2, a3, a4, a5⟩ := all k v e; ⟨mm, d, kv2, zs2, a1, a2, a3, sT _ _ a4, a5⟩
      show gTup _ _ _ _ _ (upd G T1 (.tup [V.int (i : Nat), vi])) _
      generalize upd G T1 (.tup [V.int (i : Nat), vi]) = G1 at sT eT eG1 KG1 all1 ⊢
      refine ⟨T1, [.int (i : Nat), vi], rfl, .inl (.inl eT), rfl, .int (i : Nat), _, rfl, vi, [], rfl, rfl, ?_⟩
      have esof : ∀ q, Est ss (look fs) (look tb) s0 ps q ↔ Sof ds mc q := fun q => ⟨fun h => (imc.sof q).mpr ⟨g3.un.est _ _ h, h⟩, fun h => ((imc.sof q).mp h).2⟩
      refine seq_if (fun σ G => ∃ (kvs : List (Key × V)), σ = [some (.ref m), some (.ref wa), some (.ref sg), some (.ref x), some (.int (mc : Int)), some (.ref en), some (.int (i : Nat)), some vi] ∧ (∀ b o, b ≠ en → H4 b = some o → G b = some o) ∧ G en = some (.dK kvs) ∧ kvs.length ≤ i + 1 ∧
        (∀ k v, valV kvs k = some v → ∃ (mm : Nat) (d : Addr) (kv2 : List (Key × V)) (zs2 : List Str), k = .inl (mm : Int) ∧ v = .ref d ∧ d ≠ en ∧ G d = some (.dK kv2) ∧ Acc ds kv2 zs2 fun z q => nextE ss (look fs) (look tb) z (Sof ds mm) q) ∧
        ∃ (d : Addr) (kv2 : List (Key × V)) (zs2 : List Str), valV kvs (.inl (mc : Int)) = some (.ref d) ∧ G d = some (.dK kv2) ∧ Acc ds kv2 zs2 fun z q => nextE ss (look fs) (look tb) z (Sof ds mc) q) (fun k => ?_) (fun σ G2 hT => ?_)
      · refine ⟨.int (mc : Int), rfl, .ref en, rfl, en, _, rfl, DGet.k (k := .inl (mc : Int)) eG1, ?_⟩
        cases e : valV kvs (.inl (mc : Int)) with
        | some v =>
          obtain ⟨mm, d, kv2, zs2, a1, rfl, a3, a4, a5⟩ := all1 _ _ e
          have : mm = mc := by have := Sum.inl.inj a1; omega
          subst this
          exact ⟨_, rfl, iteF (k _ _ ⟨kvs, rfl, KG1, eG1, by omega, all1, d, kv2, zs2, e, a4, a5⟩)⟩
        | none =>
          have S3G : Same H3 G1 := fun b o e => KG1 b o (ne_of_none e nen) (sen b o e)
          refine ⟨_, rfl, iteT ⟨.ref x, rfl, x, dx, _, rfl, S3G _ _ o3.ob, by unfold sflds; simp only [lookup_putF]; rw [if_neg (by decide +kernel), if_neg (by decide +kernel), if_neg (by decide +kernel), if_neg (by decide +kernel)]; rfl, .int (mc : Int), rfl, x, dx, lp, pl, le, ys, ds, ads, ss, look fs, look tb, s0, fm, mc, _, _, rfl, o3.mono S3G, imc, fun q h => g3.un.est _ _ h, g3.few, sgl, sgn, fun G2 d kv2 zs2 s' nd' ed _ acc => ?_⟩⟩
          have nde : d ≠ en := fun y => by rw [y, eG1] at nd'; cases nd'
          refine ⟨.ref en, rfl, .int (mc : Int), rfl, en, _, rfl, DPut.k (k := .inl (mc : Int)) (s' _ _ eG1) (small (by omega)), ?_⟩
          have acS : Acc ds kv2 zs2 fun z q => nextE ss (look fs) (look tb) z (Sof ds mc) q := acc.iff fun z q => nextE_iff esof q
          refine k _ _ ⟨_, rfl, fun b o n e => (upd_ne n).trans (s' _ _ (KG1 b o n e)), upd_same, Nat.le_trans (length_putK _ _ _) (by omega), fun k' v' e' => ?_, d, kv2, zs2, by rw [valV_put, if_pos rfl], (upd_ne nde).trans ed, acS⟩
          rw [valV_put] at e'
          by_cases ek : k' = .inl (mc : Int)
          · rw [if_pos ek] at e'
            cases e'
            exact ⟨mc, d, kv2, zs2, ek, rfl, nde, (upd_ne nde).trans ed, acS⟩
          · rw [if_neg ek] at e'
            obtain ⟨mm, d', kv', zs', a1, a2, a3, a4, a5⟩ := all1 _ _ e'
            exact ⟨mm, d', kv', zs', a1, a2, a3, (upd_ne a3).trans (s' _ _ a4), a5⟩
      · obtain ⟨kv1, rfl, KG2, eG2, lk2, all2, d, kv2, zs2, vd, ed, acd⟩ := hT
        have nv3 : Val K G2 vi := (nv vi mz).mono (fun b o e => KG2 b o (ne_of_none e nenH) (s4 _ _ e))
        refine ⟨vi, rfl, vi, rfl, nv3, fun G3 s3' => ⟨nameB vi, rfl, ?_⟩⟩
        have SG3 : Same H G3 := fun b o e => s3' _ _ (KG2 b o (ne_of_none e nenH) (s4 _ _ e))
        cases nb : nameB vi with
        | false => exact iteT ⟨.int (i : Nat), rfl, KnX.mk_err fun d nd' => bad i ⟨ps, vi, eps, nps, exq, hx, .inl nb⟩ G3 d SG3 nd'⟩
        | true =>
        obtain ⟨z, rfl⟩ := name_str nb
        have dg1 := DGet.k (k := .inl (mc : Int)) (s3' _ _ eG2)
        rw [vd] at dg1
        have dg2 := DGet.k (k := .inr z) (s3' _ _ ed)
        refine iteF ⟨.str z, rfl, .ref en, rfl, .int (mc : Int), rfl, en, .ref d, rfl, dg1, d, _, rfl, dg2, ?_⟩
        by_cases ene : ∃ q, nextE ss (look fs) (look tb) z (Sof ds mc) q
        · obtain ⟨m2, v2, i2⟩ := acd.val z ((acd.mem z).mpr ene)
          rw [v2] at dg2 ⊢
          refine ⟨_, rfl, iteF ?_⟩
          refine ⟨.ref en, rfl, .int (mc : Int), rfl, en, .ref d, rfl, dg1, .str z, rfl, d, .int (m2 : Int), rfl, dg2, ?_⟩
          have tk : zs.take (i + 1) = (ps ++ [z]).map V.str := by rw [take_more hx, eps, List.map_append]; rfl
          obtain ⟨qe, hqe⟩ := ene
          refine ⟨_, _, m2, kv1, rfl, fun b o n e => s3' _ _ (KG2 b o n e), ⟨ps ++ [z], tk, fun y hy => (List.mem_append.mp hy).elim (nps y) fun h => List.mem_singleton.mp h ▸ nb, ⟨qe, by rw [est_snoc]; exact (nextE_iff esof qe).mpr hqe⟩, i2.iff fun q hq => ?_⟩, s3' _ _ eG2, lk2, fun k' v' e' => let ⟨mm, d', kv', zs', a1, a2, a3, a4, a5⟩ := all2 k' v' e'; ⟨mm, d', kv', zs', a1, a2, a3, s3' _ _ a4, a5⟩⟩
          rw [est_snoc]
          exact (nextE_iff esof q).symm
        · have v2 : valV kv2 (.inr z) = none := by
            cases h : valV kv2 (.inr z) with
            | none => rfl
            | some u => exact absurd ((acd.has z).mp (by rw [h]; rfl)) ene
          rw [v2]
          refine ⟨_, rfl, iteT ⟨.int (i : Nat), rfl, KnX.mk_err fun d nd' => bad i ⟨ps, .str z, eps, nps, exq, hx, .inr ⟨z, rfl, fun ⟨q, hq⟩ => ene ⟨q, ?_⟩⟩⟩ G3 d SG3 nd'⟩⟩
          rw [est_snoc] at hq
          exact (nextE_iff esof q).mp hq
    · obtain ⟨y6, y7, mc, kvs, rfl, KG, ⟨ps, eps, nps, exq, imc⟩, eG, lk, all⟩ := hP
      rw [List.take_length] at eps
      have S3G : Same H3 G := fun b o e => KG b o (ne_of_none e nen) (sen b o e)
      refine ⟨.ref x, rfl, x, dx, _, rfl, S3G _ _ o3.ob, by unfold sflds; simp only [lookup_putF]; rw [if_neg (by decide +kernel), if_neg (by decide +kernel), if_neg (by decide +kernel), if_neg (by decide +kernel)]; rfl, .int (mc : Int), rfl, x, dx, lp, pl, le, ys, ds, ads, ss, look fs, look tb, s0, fm, mc, rfl, o3.mono S3G, imc.lt, g3.few, fun G5 l rs s5 nl5 el rr => ?_⟩
      have s05 : Same H G5 := fun b o e => s5 _ _ (S3G _ _ (s3 _ _ e))
      have sb := pin_sub ds mc
      exact qq G5 l rs (pin ds mc) s05 el rr (Nat.le_trans sb.length_le g3.few) (q ⟨ps, eps, nps, exq⟩ _ G5 s05)

end
end Kn

set_option Elab.async false
set_option linter.all false
set_option maxRecDepth 100000
set_option maxHeartbeats 4000000
namespace Kn
open PySem PySem.Spec PyProof.Rows L2
open C8 (Cal pe_c pe_gc Mak pe_mk)
section
variable {P : Program} {w : World} {K : PySem.W.Frag} {mg : Str → Option Value} {base : Heap}
def cntD (ds : List KnA.Dat) (f : Str) : Nat := (ds.filter fun p => decide (f ∈ p.2)).length
def sureD (names : List Str) (ds : List KnA.Dat) : List Str := names.filter fun f => decide (cntD ds f = ds.length)
def outD (names : List Str) (ds : List KnA.Dat) : List Str := names.filter fun f => !decide (cntD ds f = ds.length) && decide (cntD ds f = 0)
def unsD (names : List Str) (ds : List KnA.Dat) : List Str := names.filter fun f => !decide (cntD ds f = ds.length) && !decide (cntD ds f = 0)
theorem filt_take {α : Type} (p : α → Bool) {xs : List α} {i : Nat} {x : α} (h : xs[i]? = some x) : (xs.take (i + 1)).filter p = (xs.take i).filter p ++ if p x = true then [x] else [] := by
  rw [take_more h, List.filter_append, List.filter_cons, List.filter_nil]
def sx_known (K : PySem.W.Frag) (C D _S : Addr) (ce : Es) : Sp := fun vs H Q E => ∃ (m : Addr) (x v : V) (s0 : Int) (ss : List KnA.Stp) (fs : List (Str × Str)), vs = [.ref m, x, v] ∧ MachAt C H m s0 ss fs ∧ GoodMach s0 ss fs ∧ (fs.map (·.1)).Nodup ∧ Fit ss fs s0 ∧
  ((∃ (wa : Addr) (tb : List (Str × Str)), x = .ref wa ∧ WatchAt D H wa tb ∧ AfterOut ce H Q E ss fs tb s0 K v)
    ∨ ∃ t, TyOf K H x t ∧ PySem.W.kitOne K t (.ref D) = some false ∧ ∀ d, H d = none → E (.ref ce.BadWatch) (some d) (upd H d (.xd [("value", x)])))
theorem ok_known {f : Addr} {C D S : Addr} {ce : Es} {fd : FuncData} (T : Txt K mg C D S) (F : Fun K "known" "known" s_known f fd)  (c_after : KnX.CalX P w K mg base 7 "after" (sx_after K C D S ce)) (c_Machine_fault_names : KnP.Prp P w K mg base 1 C "fault_names" (sp_Machine_fault_names K C)) : FnOk P w K mg base (L2.CX P w) 8 f fd ["machine", "watch", "sights"] (sx_known K C D S ce) := by
  have nd := sc_known.nd
  refine F.okX sc_known (fun vs H Q E h => ?_) (fun cdv A outer s H vs Q E hr h => ?_)
  · obtain ⟨m, x, v, s0, ss, fs, rfl, _⟩ := h
    rfl
  · obtain ⟨m, xw, v, s0, ss, fs, rfl, hm, gm, ndf, fit, alt⟩ := h
    refine ⟨_, (pss_cons (ps_set (i := 3) nd rfl (.inl rfl) (KnX.pe_cx c_after hr (by omega) (by rfl) (takes_of rfl rfl rfl rfl) (pa_cons (pv 0) (pa_cons (pv 1) (pa_cons (pv 2) pa_nil)))))
      (pss_cons (ps_par3 (i := 4) (j := 5) (l := 6) rfl nd rfl rfl rfl (by decide) (by decide) (by decide) rfl rfl rfl (pa_cons (pe_lst pa_nil) (pa_cons (pe_lst pa_nil) (pa_cons (pe_lst pa_nil) pa_nil))) rfl)
      (pss_cons (ps_for (passes_of rfl) rfl (pi_list (KnP.pe_prp T.cl c_Machine_fault_names hr (by decide) (pv 0) (by rfl))) (pg_name (i := 7) nd rfl (.inr rfl)) (pss_cons (ps_set (i := 8) nd rfl (.inl rfl) (pe_callB call_len (by rfl) T.m_len (by decide +kernel) (pa_cons (pe_lc (own := [("state", 9), ("done", 10)]) (g := gTup K 2 (gCons (gName 9) (gCons (gName 10) gNil))) rfl nd (pi_list (pv 3)) (blkOk_by (N := ["machine", "watch", "sights", "pairs", "sure", "unsure", "out", "name", "many", "state", "done"]) (sc := defScope s_known) (by decide +kernel)) (fun _ _ _ _ _ => (pg_tup (by rfl) (pgs_cons (pg_name (i := 9) nd rfl (.inl rfl)) (pgs_cons (pg_name (i := 10) nd rfl (.inl rfl)) pgs_nil)))) (fun _ _ _ _ _ => (pts_one (pt_cmpR (show OpR _ (compareOp .In) (rIn K false) from op_in_seq) (pv 7) (pv 10) (by with_unfolding_all rfl)))) (fun _ _ _ _ _ => pe_bl)) pa_nil)))
      (pss_one (ps_if (pt_cmpR op_eq (pv 8) (pe_callB call_len (by rfl) T.m_len (by decide +kernel) (pa_cons (pv 3) pa_nil)) (nomark _)) (pss_one (ps_expr (pe_bm PySem.F.plainAttrs_list PySem.F.slot_list_append PySem.F.type_list_append mt_append (pv 4) (pa_cons (pv 7) pa_nil)))) (pss_one (ps_if (pt_cmpR op_eq (pv 8) pe_int (nomark _)) (pss_one (ps_expr (pe_bm PySem.F.plainAttrs_list PySem.F.slot_list_append PySem.F.type_list_append mt_append (pv 6) (pa_cons (pv 7) pa_nil)))) (pss_one (ps_expr (pe_bm PySem.F.plainAttrs_list PySem.F.slot_list_append PySem.F.type_list_append mt_append (pv 5) (pa_cons (pv 7) pa_nil))))))))))
      (pss_one (ps_ret (pe_tup (pa_cons (pv 4) (pa_cons (pv 5) (pa_cons (pv 6) pa_nil))))))))), ?_⟩
    rcases alt.symm with ⟨t, ty, kit, q⟩ | ⟨wa, tb, rfl, hw, alt⟩
    · exact ⟨.ref m, rfl, xw, rfl, v, rfl, m, xw, v, s0, ss, fs, rfl, hm, gm, ndf, fit, .inr ⟨t, ty, kit, q⟩⟩
    obtain ⟨Pn, q, ao⟩ : ∃ Pn : Prop, (Pn → ∀ r H', Same H H' → Q r H') ∧ AfterOut ce H (fun _ _ => Pn) E ss fs tb s0 K v := by
      rcases alt with ⟨sg, xs, e, hsg, lxs, nv, q, bad⟩ | b
      · exact ⟨FineS ss (look fs) (look tb) s0 xs, q, .inl ⟨sg, xs, e, hsg, lxs, nv, fun h _ _ _ => h, bad⟩⟩
      · exact ⟨False, fun h => h.elim, .inr b⟩
    refine ⟨.ref m, rfl, .ref wa, rfl, v, rfl, m, .ref wa, v, s0, ss, fs, rfl, hm, gm, ndf, fit, .inl ⟨wa, tb, rfl, hw, fun _ _ => Pn, fun H1 l rs ds s1 el rr lds hp => ?_, ao⟩⟩
    refine setn_use rfl ?_
    refine ⟨szl rfl, fun a1 n1 => ⟨szl rfl, fun a2 n2 => ⟨szl rfl, fun a3 n3 => ?_⟩⟩⟩
    have k1 := same_upd (o := .lst []) n1
    have e1 : (upd H1 a1 (.lst [])) a1 = some (.lst []) := upd_same
    generalize upd H1 a1 (.lst []) = G1 at k1 e1 n2 n3 ⊢
    have k2 := same_upd (o := .lst []) n2
    have e2 : (upd G1 a2 (.lst [])) a2 = some (.lst []) := upd_same
    have e12 := k2 _ _ e1
    generalize upd G1 a2 (.lst []) = G2 at k2 e2 e12 n3 ⊢
    have k3 := same_upd (o := .lst []) n3
    have e3 : (upd G2 a3 (.lst [])) a3 = some (.lst []) := upd_same
    have e13 := k3 _ _ e12
    have e23 := k3 _ _ e2
    generalize upd G2 a3 (.lst []) = G3 at k3 e3 e13 e23 ⊢
    have e14 := e13
    have e24 := e23
    have e34 := e3
    have n12 : a1 ≠ a2 := ne_of_none e1 n2
    have n13 : a1 ≠ a3 := ne_of_none e12 n3
    have n23 : a2 ≠ a3 := ne_of_none e2 n3
    have na1 : H1 a1 = none := n1
    have na2 : H1 a2 = none := k1.free n2
    have na3 : H1 a3 = none := (k1.trans k2).free n3
    have S4 := k1.trans (k2.trans k3)
    refine ⟨_, _, _, rfl, ?_⟩
    generalize G3 = G4 at *
    have el4 := S4 _ _ el
    have rr4 : RowsP G4 rs ds := rr.ext fun _ _ z => S4 _ _ z
    have s04 := s1.trans S4
    have hm4 := hm.mono s04
    obtain ⟨mdx, mls, mlw, mdf, mlt, mas, mws, mns, mm⟩ := id hm4
    refine ⟨.ref m, rfl, m, mdx, _, rfl, mm.ob, m, s0, ss, fs, rfl, hm4, by have := gm.gs.hi; omega, fun H5 nl5 ws xs s5 nnl enl hws hxs0 => ⟨nl5, rfl, ⟨_, .inl (.inl enl)⟩, ?_⟩⟩
    have hxs := names_of ndf gm.gf hws hxs0
    have lxs := (fit mns xs mm.re hxs).1
    have nln : nl5 ≠ a1 ∧ nl5 ≠ a2 ∧ nl5 ≠ a3 := ⟨fun z => (by rw [z, e14] at nnl; cases nnl), fun z => (by rw [z, e24] at nnl; cases nnl), fun z => (by rw [z, e34] at nnl; cases nnl)⟩
    have nla : l ≠ a1 ∧ l ≠ a2 ∧ l ≠ a3 := ⟨ne_of_none el na1, ne_of_none el na2, ne_of_none el na3⟩
    have lrs := Paired.length rr4
    refine for_list (K := K) (a := nl5) (xs := xs.map V.str) (fun i σ G => ∃ (y7 y8 : Option V), σ = [some (.ref m), some (.ref wa), some v, some (.ref l), some (.ref a1), some (.ref a2), some (.ref a3), y7, y8, none, none] ∧ (∀ b o, b ≠ a1 → b ≠ a2 → b ≠ a3 → H5 b = some o → G b = some o) ∧ G a1 = some (.lst ((sureD (xs.take i) ds).map V.str)) ∧ G a2 = some (.lst ((unsD (xs.take i) ds).map V.str)) ∧ G a3 = some (.lst ((outD (xs.take i) ds).map V.str)))
      ⟨none, none, rfl, fun _ _ _ _ _ e => e, s5 _ _ e14, s5 _ _ e24, s5 _ _ e34⟩ (fun i σ G _ hP => .inl (.inl (hP.choose_spec.choose_spec.2.1 _ _ nln.1 nln.2.1 nln.2.2 enl))) (fun i x σ G hx hP => ?_) (fun σ G hP => ?_)
    · obtain ⟨y7, y8, rfl, KG, f1, f2, f3⟩ := hP
      rw [List.getElem?_map] at hx
      cases gz : xs[i]? with
      | none => rw [gz] at hx; cases hx
      | some f =>
      rw [gz] at hx
      cases hx
      have hi : i < xs.length := (List.getElem?_eq_some_iff.mp gz).1
      have elG := KG _ _ nla.1 nla.2.1 nla.2.2 (s5 _ _ el4)
      have lt1 : (sureD (xs.take i) ds).length ≤ 3 := Nat.le_trans (List.length_filter_le _ _) (by rw [List.length_take]; omega)
      have lt2 : (unsD (xs.take i) ds).length ≤ 3 := Nat.le_trans (List.length_filter_le _ _) (by rw [List.length_take]; omega)
      have lt3 : (outD (xs.take i) ds).length ≤ 3 := Nat.le_trans (List.length_filter_le _ _) (by rw [List.length_take]; omega)
      have q1 := filt_take (fun f => decide (cntD ds f = ds.length)) gz
      have q2 := filt_take (fun f => !decide (cntD ds f = ds.length) && !decide (cntD ds f = 0)) gz
      have q3 := filt_take (fun f => !decide (cntD ds f = ds.length) && decide (cntD ds f = 0)) gz
      refine setn_use rfl ?_
      refine ⟨.ref l, rfl, l, rfl, ⟨_, .inl (.inl elG)⟩, fun L nL => ?_⟩
      refine lc_list (K := K) (a := l) (xs := rs) (fun j G' => Same G G' ∧ ∃ us, G' L = some (.lst us) ∧ us.length = ((ds.take j).filter fun p => decide (f ∈ p.2)).length) ⟨same_upd nL, [], upd_same, rfl⟩ (fun j G' _ hP => .inl (.inl (hP.1 _ _ elG))) (fun j x G' hx hP => ?_) (fun G' hP => ?_)
      · obtain ⟨S6, us, eL, lu⟩ := hP
        obtain ⟨d, hd, rx⟩ := paired_get rr4 hx
        have hj : j < ds.length := (List.getElem?_eq_some_iff.mp hd).1
        have ktG : ∀ b xs, G4 b = some (.tup xs) → G' b = some (.tup xs) := fun b xs e => S6 _ _ (KG _ _ (ne_of e e14 fun z => by cases z) (ne_of e e24 fun z => by cases z) (ne_of e e34 fun z => by cases z) (s5 _ _ e))
        obtain ⟨c, ft, rfl, hc, hft⟩ := rx.ext ktG
        refine ⟨c, _, rfl, .inl (.inl hc), rfl, .int d.1, _, rfl, .ref ft, [], rfl, rfl, rfl, ?_⟩
        refine ⟨.str f, rfl, .ref ft, rfl, ft, d.2.map V.str, rfl, .inr (.inl (.inl hft)), rfl, flat_ws _, _, rfl, ?_⟩
        rw [inV_strs]
        have tk := filt_take (fun p : KnA.Dat => decide (f ∈ p.2)) hd
        have lt : ((ds.take j).filter fun p => decide (f ∈ p.2)).length ≤ 60 := Nat.le_trans (List.length_filter_le _ _) (by rw [List.length_take]; omega)
        by_cases c1 : f ∈ d.2
        · rw [if_pos (decide_eq_true c1)] at tk
          rw [decide_eq_true c1]
          refine iteT ⟨us, eL, small (by omega), same_set nL S6, us ++ [.bl true], upd_same, ?_⟩
          rw [tk, List.length_append, List.length_append, lu]; rfl
        · rw [if_neg (by rw [decide_eq_false c1]; decide), List.append_nil] at tk
          rw [decide_eq_false c1]
          exact iteF ⟨S6, us, eL, by rw [tk]; exact lu⟩
      · obtain ⟨S6, us, eL, lu⟩ := hP
        rw [lrs, List.take_length] at lu
        have lu : us.length = cntD ds f := lu
        refine ⟨.ref L, us.length, rfl, .inl ⟨_, .inl (.inl eL), rfl⟩, ?_⟩
        refine setn_use rfl ?_
        have elG' := S6 _ _ elG
        refine ⟨.int (us.length : Int), rfl, .ref l, rfl, .ref l, rs.length, rfl, .inl ⟨_, .inl (.inl elG'), rfl⟩, rfl, _, rfl, ?_⟩
        have f1' := S6 _ _ f1
        have f2' := S6 _ _ f2
        have f3' := S6 _ _ f3
        have K6 : ∀ b o, b ≠ a1 → b ≠ a2 → b ≠ a3 → H5 b = some o → G' b = some o := fun b o x1 x2 x3 e => S6 _ _ (KG b o x1 x2 x3 e)
        by_cases c1 : cntD ds f = ds.length
        · rw [decide_eq_true (show V.int (us.length : Int) = V.int (rs.length : Int) by rw [lu, c1, lrs])]
          rw [if_pos (decide_eq_true c1)] at q1
          rw [if_neg (by rw [decide_eq_true c1]; simp), List.append_nil] at q2 q3
          refine iteT ⟨.ref a1, rfl, .inl ⟨rfl, _, .inl (.inl f1')⟩, .str f, rfl, a1, _, .str f, rfl, rfl, f1', small (by rw [List.length_map]; omega), ?_⟩
          refine ⟨_, _, rfl, fun b o x1 x2 x3 e => (upd_ne x1).trans (K6 b o x1 x2 x3 e), ?_, (upd_ne n12.symm).trans ?_, (upd_ne n13.symm).trans ?_⟩
          · rw [upd_same]; unfold sureD; rw [q1, List.map_append]; rfl
          · unfold unsD; rw [q2]; exact f2'
          · unfold outD; rw [q3]; exact f3'
        · rw [decide_eq_false (show ¬ V.int (us.length : Int) = V.int (rs.length : Int) from fun y => c1 (by have := V.int.inj y; omega))]
          rw [if_neg (by rw [decide_eq_false c1]; decide), List.append_nil] at q1
          refine iteF ⟨.int (us.length : Int), rfl, rfl, _, rfl, ?_⟩
          by_cases c2 : cntD ds f = 0
          · rw [decide_eq_true (show V.int (us.length : Int) = V.int 0 by rw [lu, c2]; rfl)]
            rw [if_pos (by rw [decide_eq_false c1, decide_eq_true c2]; decide)] at q3
            rw [if_neg (by rw [decide_eq_false c1, decide_eq_true c2]; decide), List.append_nil] at q2
            refine iteT ⟨.ref a3, rfl, .inl ⟨rfl, _, .inl (.inl f3')⟩, .str f, rfl, a3, _, .str f, rfl, rfl, f3', small (by rw [List.length_map]; omega), ?_⟩
            refine ⟨_, _, rfl, fun b o x1 x2 x3 e => (upd_ne x3).trans (K6 b o x1 x2 x3 e), (upd_ne n13).trans ?_, (upd_ne n23).trans ?_, ?_⟩
            · unfold sureD; rw [q1]; exact f1'
            · unfold unsD; rw [q2]; exact f2'
            · rw [upd_same]; unfold outD; rw [q3, List.map_append]; rfl
          · rw [decide_eq_false (show ¬ V.int (us.length : Int) = V.int 0 from fun y => c2 (by have := V.int.inj y; omega))]
            rw [if_neg (by rw [decide_eq_false c1, decide_eq_false c2]; decide), List.append_nil] at q3
            rw [if_pos (by rw [decide_eq_false c1, decide_eq_false c2]; decide)] at q2
            refine iteF ⟨.ref a2, rfl, .inl ⟨rfl, _, .inl (.inl f2')⟩, .str f, rfl, a2, _, .str f, rfl, rfl, f2', small (by rw [List.length_map]; omega), ?_⟩
            refine ⟨_, _, rfl, fun b o x1 x2 x3 e => (upd_ne x2).trans (K6 b o x1 x2 x3 e), (upd_ne n12).trans ?_, ?_, (upd_ne n23.symm).trans ?_⟩
            · unfold sureD; rw [q1]; exact f1'
            · rw [upd_same]; unfold unsD; rw [q2, List.map_append]; rfl
            · unfold outD; rw [q3]; exact f3'
    · obtain ⟨y7, y8, rfl, KG, f1, f2, f3⟩ := hP
      rw [List.length_map, List.take_length] at f1 f2 f3
      refine ⟨.ref a1, rfl, .ref a2, rfl, .ref a3, rfl, szl rfl, fun t2 nt2 => ?_⟩
      have k6 := same_upd (o := .tup [V.ref a1, .ref a2, .ref a3]) nt2
      have S05 := s04.trans s5
      have nH : ∀ {b : Addr}, H1 b = none → H b = none := fun e => s1.free e
      exact q hp _ _ (fun b o e => k6 _ _ (KG b o (ne_of_none e (nH na1)) (ne_of_none e (nH na2)) (ne_of_none e (nH na3)) (S05 _ _ e)))

end
end Kn

set_option Elab.async false
set_option linter.all false
set_option maxRecDepth 100000
set_option maxHeartbeats 4000000
namespace Kn
open PySem PySem.Spec PyProof.Rows L2
open C8 (Cal pe_c pe_gc Mak pe_mk)
section
variable {P : Program} {w : World} {K : PySem.W.Frag} {mg : Str → Option Value} {base : Heap}
/-! ### runs -/
def goes (ss : List KnA.Stp) : Int → List Nat → Prop
  | _, [] => True
  | s, k :: r => ∃ st, ss[k]? = some st ∧ st.1 = s ∧ goes ss st.2.2 r
/-! ### what a watch sees of a run -/
def wordAt (ss : List KnA.Stp) (k : Nat) : Str := match ss[k]? with
  | some st => st.2.1
  | none => ""
def seenW (tb : List (Str × Str)) (ss : List KnA.Stp) (ks : List Nat) : List Str := (ks.map (wordAt ss)).filterMap (look tb)
theorem look_in {tb : List (Str × Str)} {x y : Str} (h : look tb x = some y) : ∃ p ∈ tb, p.1 = x ∧ p.2 = y := by
  unfold look at h
  cases e : tb.find? (fun p => decide (p.1 = x)) with
  | none => rw [e] at h; cases h
  | some p =>
    rw [e] at h
    have e2 : decide (p.1 = x) = true := @List.find?_some (Str × Str) (fun p => decide (p.1 = x)) _ _ e
    exact ⟨p, List.mem_of_find?_eq_some e, of_decide_eq_true e2, Option.some.inj h⟩
theorem seen_names {tb : List (Str × Str)} (g : GoodW tb) (ss : List KnA.Stp) (ks : List Nat) : ∀ z ∈ seenW tb ss ks, nameB (.str z) = true := by
  intro z hz
  obtain ⟨x, _, hx⟩ := List.mem_filterMap.mp hz
  obtain ⟨p, hp, _, rfl⟩ := look_in hx
  exact (g.1 p hp).2

/-! ### a drawn system -/
structure Sys (H : Hp) (t : Addr) (many : Nat) (s0 : Int) (sl fd n1 n2 : Addr) (as : List Addr) (ss : List KnA.Stp) (fs : List (Str × Str)) (zs : List Str) : Prop where
  at_ : H t = some (.lst [.int s0, .ref sl, .ref fd, .ref n1, .ref n2])
  h1 : H sl = some (.lst (as.map V.ref))
  st : Stps H as ss
  h2 : H fd = some (.dK (fkv fs))
  h3 : H n1 = some (.lst ((zs.take many).map V.str))
  h4 : H n2 = some (.lst ((zs.drop many).map V.str))
  lz : zs.length = many + 2
  hz : ∀ z ∈ zs, nameB (.str z) = true
  hzz : ∀ z ∈ zs, z ≠ "zz" ∧ z ≠ "zzz"
  wd : ∀ x ∈ ss, x.2.1 ∈ zs
  gm : GoodMach s0 ss fs
  ff : FewF fs zs (ss.map (·.2.1)) (zs.drop many)
  fl : ∃ ls : List Int, ls.length ≤ 8 ∧ s0 ∈ ls ∧ ∀ x ∈ ss, x.1 ∈ ls ∧ x.2.2 ∈ ls
def sp__law_system (K : PySem.W.Frag) : Sp := fun vs H Q _ => ∃ (a : Addr) (ns : List Int) (mo ex many : Nat), vs = [.ref a, .int (mo : Int), .int (ex : Int), .int (many : Int)] ∧ SqL K H a (ns.map V.int) ∧ 1 ≤ mo ∧ mo ≤ 8 ∧ ex ≤ 6 ∧ 2 ≤ many ∧ many ≤ 14 ∧
  ∀ H' t s0 sl fd n1 n2 as ss fs zs, Same H H' → Sys H' t many s0 sl fd n1 n2 as ss fs zs → Q (.ref t) H'
theorem ok__law_system {f : Addr} {C D S : Addr} {fd : FuncData} (T : Txt K mg C D S) (F : Fun K "_law_system" "_law_system" s__law_system f fd) (c__law_names : Cal P w K mg base 3 "_law_names" (sp__law_names K) []) (c__law_cell : Cal P w K mg base 2 "_law_cell" (sp__law_cell K) []) (c__law_machine : Cal P w K mg base 3 "_law_machine" (sp__law_machine K) []) (c__law_row : Cal P w K mg base 2 "_law_row" (sp__law_row K) []) (c__law_faults : Cal P w K mg base 1 "_law_faults" (sp__law_faults K) []) : FnOk P w K mg base CX0 4 f fd ["_law_script", "_law_most", "_law_extra", "_law_many"] (sp__law_system K) := by
  have nd := sc__law_system.nd
  refine F.ok sc__law_system (fun vs H Q E h => ?_) (fun cdv A outer s H vs Q E hr h => ?_)
  · obtain ⟨a, ns, mo, ex, many, rfl, _⟩ := h
    rfl
  · obtain ⟨a, ns, mo, ex, many, rfl, hS, mo1, mo8, ex6, m2, m14, q⟩ := h
    refine ⟨_, (pss_cons (ps_set (i := 4) nd rfl (.inl rfl) (pe_c c__law_names hr (by omega) (by rfl) (pa_cons (pe_c c__law_cell hr (by omega) (by rfl) (pa_cons (pv 0) (pa_cons pe_int pa_nil))) (pa_cons (pe_op op_add (pv 3) pe_int) pa_nil))))
      (pss_cons (ps_asg (pe_c c__law_machine hr (by omega) (by rfl) (pa_cons (pe_c c__law_cell hr (by omega) (by rfl) (pa_cons (pv 0) (pa_cons pe_int pa_nil))) (pa_cons (pe_slice sl_list (pv 4) po_none (po_some (pv 3))) (pa_cons (pv 1) (pa_cons (pv 2) pa_nil))))) (pg_lst (by rfl) (pgs_cons (pg_name (i := 5) nd rfl (.inl rfl)) (pgs_cons (pg_name (i := 6) nd rfl (.inl rfl)) pgs_nil))))
      (pss_cons (ps_set (i := 7) nd rfl (.inl rfl) (pe_ix (r := rIxL K) ix_list (pe_c c__law_row hr (by omega) (by rfl) (pa_cons (pe_c c__law_cell hr (by omega) (by rfl) (pa_cons (pv 0) (pa_cons pe_int pa_nil))) (pa_cons (pe_lst (pa_cons pe_int (pa_cons pe_int pa_nil))) pa_nil))) pe_int (fun _ _ => rfl)))
      (pss_cons (ps_set (i := 8) nd rfl (.inl rfl) (pe_c c__law_faults hr (by omega) (by rfl) (pa_cons (pv 7) (pa_cons (pv 6) (pa_cons (pv 4) (pa_cons (pe_slice sl_list (pv 4) (po_some (pv 3)) po_none) pa_nil))))))
      (pss_one (ps_ret (pe_lst (pa_cons (pe_ix (r := rIxL K) ix_list (pv 5) pe_int (fun _ _ => rfl)) (pa_cons (pv 6) (pa_cons (pv 8) (pa_cons (pe_slice sl_list (pv 4) po_none (po_some (pv 3))) (pa_cons (pe_slice sl_list (pv 4) (po_some (pv 3)) po_none) pa_nil)))))))))))), ?_⟩
    refine ⟨.ref a, rfl, a, ns, 0, rfl, hS, fun c0 => ⟨.int many, rfl, many, 2, rfl, rfl, c0, many + 2, rfl, by omega, fun H1 N zs s1 nN eN lz hz _ hzz => ?_⟩⟩
    refine ⟨.ref a, rfl, a, ns, 1, rfl, s1.seq hS, fun c1 => ⟨.ref N, rfl, .int many, rfl, many, rfl, N, zs.map V.str, rfl, .inl (.inl eN), fun N6 nN6 => ?_⟩⟩
    have s6 := same_upd (o := .lst (cutV (zs.map V.str) none (some (many : Int)))) nN6
    have e6 : (upd H1 N6 (.lst (cutV (zs.map V.str) none (some (many : Int))))) N6 = some (.lst ((zs.take many).map V.str)) := by
      rw [upd_same, cut_to, List.map_take]
    generalize upd H1 N6 (.lst (cutV (zs.map V.str) none (some (many : Int)))) = H1' at s6 e6 ⊢
    have s1' := s1.trans s6
    have lt6 : (zs.take many).length = many := by rw [List.length_take]; omega
    refine ⟨.int mo, rfl, .int ex, rfl, c1, N6, zs.take many, mo, ex, rfl, e6, by omega, by omega, fun z h => hz z (List.mem_of_mem_take h), mo1, mo8, ex6, fun H2 t lb sl ls as ss s2 et nlb nsl nls elb esl hst dm => ?_⟩
    have hn6 : ∀ z ∈ zs.take many, nameB (.str z) = true := fun z h => hz z (List.mem_of_mem_take h)
    have gs := dm.steps hn6
    have t2 := s1'.trans s2
    have eN2 := s2 _ _ (s6 _ _ eN)
    have hi80 := gs.hi
    refine ⟨t, _, rfl, .inl (.inl et), rfl, .ref lb, _, rfl, .ref sl, [], rfl, rfl, ?_⟩
    refine ⟨.ref a, rfl, a, ns, 2, rfl, t2.seq hS, fun c2 => ⟨szl rfl, fun p np => ?_⟩⟩
    have sp := same_upd (o := .lst [.int 3, .int 5]) np
    refine ⟨c2, p, [3, 5], rfl, .inl (.inl upd_same), by decide, by decide, fun H3 R rs s3 nR eR hrl hb => ?_⟩
    have s23 := sp.trans s3
    have t3 := t2.trans s23
    obtain ⟨r0, _, g0, l0, u0⟩ := row_at hrl hb (j := 0) (t := 3) rfl
    refine ⟨R, _, 0, .int r0, rfl, rfl, .inl (.inl eR), atI_nat (j := 0) g0, ?_⟩
    have eN3 := s23 _ _ eN2
    have elb3 := s23 _ _ elb
    have esl3 := s23 _ _ esl
    have hst3 := hst.mono s23
    refine ⟨.int r0, rfl, .ref sl, rfl, .ref N, rfl, .ref N, rfl, .int many, rfl, many, rfl, N, zs.map V.str, rfl, .inl (.inl eN3), fun K2 nK2 => ?_⟩
    have sK := same_upd (o := .lst (cutV (zs.map V.str) (some (many : Int)) none)) nK2
    have eK : (upd H3 K2 (.lst (cutV (zs.map V.str) (some (many : Int)) none))) K2 = some (.lst ((zs.drop many).map V.str)) := by
      rw [upd_same, cut_from, List.map_drop]
    refine ⟨r0, sl, N, K2, as, ss, zs, zs.drop many, rfl, sK _ _ esl3, hst3.mono sK, by omega, sK _ _ eN3, eK, by omega, by rw [List.length_drop]; omega, fun x hx => dm.w0 x (by rw [List.getElem?_take_of_lt (by omega)]; exact hx), fun H4 FD fs s4 nFD eFD ff => ?_⟩
    have s34 := sK.trans s4
    have eN4 := s34 _ _ eN3
    have elb4 := s34 _ _ elb3
    have esl4 := s34 _ _ esl3
    have hst4 := hst3.mono s34
    obtain ⟨s0, gs0, ms0⟩ : ∃ b, (ls.map V.int)[0]? = some (.int b) ∧ b ∈ ls := by
      have hlb : 0 < ls.length := List.length_pos_iff.mpr dm.ne
      exact ⟨ls[0]'hlb, by rw [List.getElem?_map, List.getElem?_eq_getElem hlb]; rfl, List.getElem_mem hlb⟩
    have gmach : GoodMach s0 ss fs := ⟨dm.st _ ms0, gs, fun w2 hw2 => by
      have := sub_len (m := zs.take many) hw2.nd (fun x hx => by
        obtain ⟨u, hu, e⟩ := List.mem_map.mp ((hw2.mem x).mp hx)
        rw [← e]
        exact (dm.dr.good u hu).2.1)
      omega, ff.good (List.Perm.refl _) hz (fun z h => hz z (List.mem_of_mem_drop h)), dm.live ms0⟩
    refine ⟨.ref lb, rfl, lb, ls.map V.int, 0, .int s0, rfl, rfl, .inl (.inl elb4), atI_nat (j := 0) gs0, .ref sl, rfl, .ref FD, rfl, .ref N, rfl, .int many, rfl, many, rfl, N, zs.map V.str, rfl, .inl (.inl eN4), fun Na nNa => ?_⟩
    have sa := same_upd (o := .lst (cutV (zs.map V.str) none (some (many : Int)))) nNa
    have ea : (upd H4 Na (.lst (cutV (zs.map V.str) none (some (many : Int))))) Na = some (.lst ((zs.take many).map V.str)) := by
      rw [upd_same, cut_to, List.map_take]
    generalize upd H4 Na (.lst (cutV (zs.map V.str) none (some (many : Int)))) = H5 at sa ea ⊢
    refine ⟨.ref N, rfl, .int many, rfl, many, rfl, N, zs.map V.str, rfl, .inl (.inl (sa _ _ eN4)), fun Nb nNb => ?_⟩
    have sb := same_upd (o := .lst (cutV (zs.map V.str) (some (many : Int)) none)) nNb
    have eb : (upd H5 Nb (.lst (cutV (zs.map V.str) (some (many : Int)) none))) Nb = some (.lst ((zs.drop many).map V.str)) := by
      rw [upd_same, cut_from, List.map_drop]
    generalize upd H5 Nb (.lst (cutV (zs.map V.str) (some (many : Int)) none)) = H6 at sb eb ⊢
    refine ⟨szl rfl, fun T nT => ?_⟩
    have sT := same_upd (o := .lst [.int s0, .ref sl, .ref FD, .ref Na, .ref Nb]) nT
    have s46 := sa.trans (sb.trans sT)
    exact q _ T s0 sl FD Na Nb as ss fs zs (t3.trans (s34.trans s46)) ⟨upd_same, s46 _ _ esl4, hst4.mono s46, s46 _ _ eFD, (sb.trans sT) _ _ ea, sT _ _ eb, lz, hz, hzz, (fun x hx => List.mem_of_mem_take (dm.dr.good x hx).2.1), gmach, ff, ls, dm.few, ms0, fun x hx => ⟨(dm.dr.good x hx).1, (dm.dr.good x hx).2.2⟩⟩

/-! ### drawn sights -/
theorem fkv_put (tb : List (Str × Str)) (x y : Str) : ∃ tb', putK (fkv tb) (.inr x) (.str y) = fkv tb' ∧ tb'.length ≤ tb.length + 1 ∧ (∀ p ∈ tb', p ∈ tb ∨ p = (x, y)) ∧ ((tb.map (·.1)).Nodup → (tb'.map (·.1)).Nodup) := by
  unfold putK
  split
  · refine ⟨tb.map fun p => if p.1 = x then (x, y) else p, ?_, by rw [List.length_map]; omega, fun p hp => ?_, fun n => ?_⟩
    · unfold fkv
      rw [List.map_map, List.map_map]
      refine List.map_congr_left fun p _ => ?_
      show (if (Sum.inr p.1 : Key) = Sum.inr x then ((Sum.inr p.1 : Key), V.str y) else (Sum.inr p.1, V.str p.2)) = (Sum.inr (if p.1 = x then (x, y) else p).1, V.str (if p.1 = x then (x, y) else p).2)
      by_cases e : p.1 = x
      · rw [if_pos (by rw [e]), if_pos e, e]
      · rw [if_neg (fun z => e (Sum.inr.inj z)), if_neg e]
    · obtain ⟨u, hu, rfl⟩ := List.mem_map.mp hp
      by_cases e : u.1 = x
      · rw [if_pos e]; exact .inr rfl
      · rw [if_neg e]; exact .inl hu
    · rw [List.map_map]
      have e : tb.map ((·.1) ∘ fun p => if p.1 = x then (x, y) else p) = tb.map (·.1) := List.map_congr_left fun p _ => by
        show (if p.1 = x then (x, y) else p).1 = p.1
        by_cases e : p.1 = x
        · rw [if_pos e, e]
        · rw [if_neg e]
      rw [e]; exact n
  · rename_i no
    refine ⟨tb ++ [(x, y)], ?_, by simp, fun p hp => ?_, fun n => ?_⟩
    · unfold fkv
      rw [List.map_append]; rfl
    · rcases List.mem_append.mp hp with h | h
      · exact .inl h
      · exact .inr (List.mem_singleton.mp h)
    · rw [List.map_append]
      refine List.nodup_append.mpr ⟨n, by simp, fun a ha b hb e => no ?_⟩
      obtain ⟨p, hp, ep⟩ := List.mem_map.mp ha
      have hb' : b = x := List.mem_singleton.mp hb
      refine List.any_eq_true.mpr ⟨(Sum.inr p.1, V.str p.2), List.mem_map.mpr ⟨p, hp, rfl⟩, decide_eq_true ?_⟩
      show (Sum.inr p.1 : Key) = Sum.inr x
      rw [ep, e, hb']
def sp__law_sights (_ : PySem.W.Frag) : Sp := fun vs H Q _ => ∃ (c : Int) (n1 n2 : Addr) (names marks : List Str), vs = [.int c, .ref n1, .ref n2] ∧ H n1 = some (.lst (names.map V.str)) ∧ H n2 = some (.lst (marks.map V.str)) ∧ 1 ≤ names.length ∧ names.length ≤ 100 ∧ marks.length ≤ 100 ∧
  (∀ z ∈ names, nameB (.str z) = true) ∧ (∀ z ∈ marks, nameB (.str z) = true) ∧ ∀ H' d tb, Same H H' → H d = none → H' d = some (.dK (fkv tb)) → GoodW tb → tb.length ≤ 100 → (tb.map (·.1)).Nodup → Q (.ref d) H'
theorem ok__law_sights {f : Addr} {C D S : Addr} {fd : FuncData} (T : Txt K mg C D S) (F : Fun K "_law_sights" "_law_sights" s__law_sights f fd) (c__law_row : Cal P w K mg base 2 "_law_row" (sp__law_row K) []) : FnOk P w K mg base CX0 3 f fd ["_law_cell_here", "_law_names_here", "_law_marks"] (sp__law_sights K) := by
  have nd := sc__law_sights.nd
  refine F.ok sc__law_sights (fun vs H Q E h => ?_) (fun cdv A outer s H vs Q E hr h => ?_)
  · obtain ⟨c, n1, n2, names, marks, rfl, _⟩ := h
    rfl
  · obtain ⟨c, n1, n2, names, marks, rfl, h1, h2, ln1, ln2, lm, hn, hm, q⟩ := h
    refine ⟨_, (pss_cons (ps_set (i := 3) nd rfl (.inl rfl) (pe_op op_add (pe_callB call_len (by rfl) T.m_len (by decide +kernel) (pa_cons (pv 2) pa_nil)) pe_int))
      (pss_cons (ps_set (i := 4) nd rfl (.inl rfl) (pe_c c__law_row hr (by omega) (by rfl) (pa_cons (pv 0) (pa_cons (pe_op op_cat (pe_lst (pa_cons (pe_op op_mul pe_int (pv 3)) pa_nil)) (pe_op op_rep (pe_lst (pa_cons (pv 3) pa_nil)) (pe_op op_sub (pe_callB call_len (by rfl) T.m_len (by decide +kernel) (pa_cons (pv 1) pa_nil)) pe_int))) pa_nil))))
      (pss_cons (ps_set (i := 5) nd rfl (.inl rfl) pe_dnewK)
      (pss_cons (ps_for PassesOwn.never rfl (pi_range1 (by rfl) T.m_range (pa_cons (pe_callB call_len (by rfl) T.m_len (by decide +kernel) (pa_cons (pv 1) pa_nil)) pa_nil)) (pg_name (i := 6) nd rfl (.inl rfl)) (pss_one (ps_if (pt_cmpR op_eq (pe_ix (r := rIxL K) ix_list (pv 4) (pv 6) (fun _ _ => rfl)) pe_int (nomark _)) (pss_one (ps_dput (hu_of hr) (pv 5) (pe_ix (r := rIxL K) ix_list (pv 1) (pv 6) (fun _ _ => rfl)) (pe_ix (r := rIxL K) ix_list (pv 1) (pv 6) (fun _ _ => rfl)) rfl)) (pss_one (ps_if (pt_chain op_le op_lt pe_int (pe_ix (r := rIxL K) ix_list (pv 4) (pv 6) (fun _ _ => rfl)) (pv 3)) (pss_one (ps_dput (hu_of hr) (pv 5) (pe_ix (r := rIxL K) ix_list (pv 1) (pv 6) (fun _ _ => rfl)) (pe_ix (r := rIxL K) ix_list (pv 2) (pe_op op_sub (pe_ix (r := rIxL K) ix_list (pv 4) (pv 6) (fun _ _ => rfl)) pe_int) (fun _ _ => rfl)) rfl)) pss_nil)))))
      (pss_one (ps_ret (pv 5))))))), ?_⟩
    refine ⟨.ref n2, rfl, .ref n2, marks.length, rfl, .inl ⟨_, .inl (.inl h2), (List.length_map _).symm⟩, (marks.length : Int), 2, rfl, rfl, ?_⟩
    obtain ⟨wd, hwd⟩ : ∃ wd : Int, wd = (marks.length : Int) + 2 := ⟨_, rfl⟩
    have ewd : V.int ((marks.length : Int) + 2) = V.int wd := by rw [hwd]
    refine ⟨.int c, rfl, .int ((marks.length : Int) + 2), rfl, 3, (marks.length : Int) + 2, rfl, rfl, .inl ⟨by omega, by omega⟩, szl rfl, ?_⟩
    intro p1 m1
    have s1 := same_upd (o := .lst [.int (3 * ((marks.length : Int) + 2))]) m1
    have e1 : (upd H p1 (.lst [.int (3 * ((marks.length : Int) + 2))])) p1 = some (.lst [.int (3 * ((marks.length : Int) + 2))]) := upd_same
    refine ⟨.int ((marks.length : Int) + 2), rfl, szl rfl, fun p2 m2 => ?_⟩
    have s2 := same_upd (o := .lst [.int ((marks.length : Int) + 2)]) m2
    have s12 := s1.trans s2
    have en : ((names.length : Int) - 1) = ((names.length - 1 : Nat) : Int) := by omega
    refine ⟨.ref n1, rfl, .ref n1, names.length, rfl, .inl ⟨_, .inl (.inl (s12 _ _ h1)), (List.length_map _).symm⟩, (names.length : Int), 1, rfl, rfl, p2, (names.length : Int) - 1, [.int ((marks.length : Int) + 2)], rfl, rfl, upd_same, by omega, by omega, smallE (by rw [en, Int.toNat_natCast]; show 1 * (names.length - 1) ≤ _; omega), fun p3 m3 => ?_⟩
    have s3 := same_upd (o := .lst (List.replicate ((names.length : Int) - 1).toNat [V.int ((marks.length : Int) + 2)]).flatten) m3
    have e1' := (same_upd (o := .lst [.int ((marks.length : Int) + 2)]) m2 _ _ e1)
    refine ⟨p1, p3, _, _, rfl, rfl, s3 _ _ e1', upd_same, smallE (by rw [flat_len, en, Int.toNat_natCast]; show 1 + 1 * (names.length - 1) ≤ _; omega), fun p4 m4 => ?_⟩
    have eo : [V.int (3 * ((marks.length : Int) + 2))] ++ (List.replicate ((names.length : Int) - 1).toNat [V.int ((marks.length : Int) + 2)]).flatten = ((3 * ((marks.length : Int) + 2)) :: List.replicate (names.length - 1) ((marks.length : Int) + 2)).map V.int := by
      rw [List.flatten_replicate_singleton, en, Int.toNat_natCast, List.map_cons, List.map_replicate]; rfl
    have s4 := (s12.trans s3).trans (same_upd (o := .lst ([V.int (3 * ((marks.length : Int) + 2))] ++ (List.replicate ((names.length : Int) - 1).toNat [V.int ((marks.length : Int) + 2)]).flatten)) m4)
    have hpos : ∀ s ∈ (3 * ((marks.length : Int) + 2)) :: List.replicate (names.length - 1) ((marks.length : Int) + 2), 0 < s ∧ s < 1073741824 := fun s hs => by
      rcases List.mem_cons.mp hs with rfl | hs
      · omega
      · rw [(List.mem_replicate.mp hs).2]; omega
    have hlen : ((3 * ((marks.length : Int) + 2)) :: List.replicate (names.length - 1) ((marks.length : Int) + 2)).length = names.length := by rw [List.length_cons, List.length_replicate]; omega
    refine ⟨c, p4, _, rfl, .inl (.inl (by rw [upd_same, eo])), by rw [hlen]; omega, hpos, fun H3 R rs s5 nR eR hrl hb => ?_⟩
    have t3 := s4.trans s5
    rw [hlen] at hrl
    clear hb eo hpos hlen e1' e1
    refine fun FD nFD => ?_
    have sF := same_upd (o := .dK []) nFD
    have nFDH : H FD = none := t3.free nFD
    have eF0 : (upd H3 FD (.dK [])) FD = some (.dK []) := upd_same
    have t4 := t3.trans sF
    have eR4 := sF _ _ eR
    generalize upd H3 FD (.dK []) = H4 at eF0 t4 eR4 ⊢
    refine ⟨.ref n1, rfl, .ref n1, names.length, rfl, .inl ⟨_, .inl (.inl (t4 _ _ h1)), (List.length_map _).symm⟩, (names.length : Int), rfl, by omega, by omega, ?_⟩
    refine for_range (lo := 0) (fun i σ G => ∃ (y6 : Option V) (tb : List (Str × Str)), σ = [some (.int c), some (.ref n1), some (.ref n2), some (.int ((marks.length : Int) + 2)), some (.ref R), some (.ref FD), y6] ∧ Same H G ∧ G R = some (.lst (rs.map V.int)) ∧ G FD = some (.dK (fkv tb)) ∧ tb.length ≤ i ∧ (∀ p ∈ tb, nameB (.str p.1) = true ∧ nameB (.str p.2) = true) ∧ (tb.map (·.1)).Nodup)
      ⟨none, [], rfl, t4, eR4, eF0, Nat.le_refl _, (fun p hp => nomatch hp), List.nodup_nil⟩ (fun i σ G hi hP => ?_) (fun σ G hP => ?_)
    · obtain ⟨y6, tb, rfl, S, eR5, eF, lt, gt, ntb⟩ := hP
      rw [Int.toNat_natCast] at hi
      have e0 : (0 : Int) + (i : Nat) = (i : Nat) := by omega
      rw [e0]
      obtain ⟨x, gx, hx⟩ : ∃ x, (names.map V.str)[i]? = some (.str x) ∧ nameB (.str x) = true := ⟨names[i], by rw [List.getElem?_map, List.getElem?_eq_getElem hi]; rfl, hn _ (List.getElem_mem hi)⟩
      obtain ⟨r, gr⟩ : ∃ r, (rs.map V.int)[i]? = some (.int r) := ⟨rs[i]'(by omega), by rw [List.getElem?_map, List.getElem?_eq_getElem (by omega)]; rfl⟩
      have nRF : R ≠ FD := ne_of eR5 eF (fun z => by cases z)
      have put : ∀ y, nameB (.str y) = true → ∃ tb', putK (fkv tb) (.inr x) (.str y) = fkv tb' ∧ tb'.length ≤ i + 1 ∧ (∀ p ∈ tb', nameB (.str p.1) = true ∧ nameB (.str p.2) = true) ∧ (tb'.map (·.1)).Nodup := fun y hy => by
        obtain ⟨tb', e, l, m, k⟩ := fkv_put tb x y
        exact ⟨tb', e, by omega, (fun p hp => (m p hp).elim (gt p) fun z => by rw [z]; exact ⟨hx, hy⟩), k ntb⟩
      have sz : (fkv tb).length < sizeLine := small (by unfold fkv; rw [List.length_map]; omega)
      have keep : ∀ o, Same H (upd G FD o) := fun o => same_set nFDH S
      refine ⟨.ref R, rfl, .int (i : Nat), rfl, R, rs.map V.int, (i : Nat), .int r, rfl, rfl, .inl (.inl eR5), atI_nat gr, rfl, _, rfl, ite2 (fun e => ?_) (fun e => ?_)⟩
      · obtain ⟨tb', et, lt', gt', nt'⟩ := put x hx
        refine ⟨.ref n1, rfl, .int (i : Nat), rfl, n1, names.map V.str, (i : Nat), .str x, rfl, rfl, .inl (.inl (S _ _ h1)), atI_nat gx, .ref FD, rfl, .ref n1, rfl, .int (i : Nat), rfl, n1, names.map V.str, (i : Nat), .str x, rfl, rfl, .inl (.inl (S _ _ h1)), atI_nat gx, FD, _, rfl, DPut.k (k := .inr x) eF sz, ?_⟩
        exact ⟨_, tb', rfl, keep _, (upd_ne nRF).trans eR5, by rw [upd_same, et], lt', gt', nt'⟩
      · refine ⟨.ref R, rfl, .int (i : Nat), rfl, R, rs.map V.int, (i : Nat), .int r, rfl, rfl, .inl (.inl eR5), atI_nat gr, 2, r, rfl, rfl, _, rfl, ?_⟩
        have stay : ∃ (y6 : Option V) (tb_1 : List (Str × Str)), [some (V.int c), some (.ref n1), some (.ref n2), some (.int ((marks.length : Int) + 2)), some (.ref R), some (.ref FD), some (.int (i : Nat))] = [some (V.int c), some (.ref n1), some (.ref n2), some (.int ((marks.length : Int) + 2)), some (.ref R), some (.ref FD), y6] ∧ Same H G ∧ G R = some (.lst (rs.map V.int)) ∧ G FD = some (.dK (fkv tb_1)) ∧ tb_1.length ≤ i + 1 ∧ (∀ p ∈ tb_1, nameB (.str p.1) = true ∧ nameB (.str p.2) = true) ∧ (tb_1.map (·.1)).Nodup := ⟨_, tb, rfl, S, eR5, eF, by omega, gt, ntb⟩
        by_cases c1 : (2 : Int) ≤ r
        · rw [decide_eq_true c1]
          refine iteT ⟨.int ((marks.length : Int) + 2), rfl, r, (marks.length : Int) + 2, rfl, rfl, _, rfl, ite2 (fun c2 => ?_) (fun c2 => ?_)⟩
          · have c3 : r < (marks.length : Int) + 2 := of_decide_eq_true c2
            obtain ⟨j, hj⟩ : ∃ j : Nat, r - 2 = (j : Int) := ⟨(r - 2).toNat, by omega⟩
            have hj2 : j < marks.length := by omega
            have gy : (marks.map V.str)[j]? = some (.str marks[j]) := by rw [List.getElem?_map, List.getElem?_eq_getElem hj2]; rfl
            obtain ⟨tb', et, lt', gt', nt'⟩ := put marks[j] (hm _ (List.getElem_mem hj2))
            refine ⟨.ref n2, rfl, .ref R, rfl, .int (i : Nat), rfl, R, rs.map V.int, (i : Nat), .int r, rfl, rfl, .inl (.inl eR5), atI_nat gr, r, 2, rfl, rfl, n2, marks.map V.str, r - 2, .str marks[j], rfl, rfl, .inl (.inl (S _ _ h2)), by rw [hj]; exact atI_nat gy, .ref FD, rfl, .ref n1, rfl, .int (i : Nat), rfl, n1, names.map V.str, (i : Nat), .str x, rfl, rfl, .inl (.inl (S _ _ h1)), atI_nat gx, FD, _, rfl, DPut.k (k := .inr x) eF sz, ?_⟩
            exact ⟨_, tb', rfl, keep _, (upd_ne nRF).trans eR5, by rw [upd_same, et], lt', gt', nt'⟩
          · exact stay
        · rw [decide_eq_false c1]
          exact iteF ⟨_, rfl, iteF stay⟩
    · obtain ⟨y6, tb, rfl, S, eR5, eF, lt, gt, ntb⟩ := hP
      rw [Int.toNat_natCast] at lt
      exact ⟨.ref FD, rfl, q G FD tb S nFDH eF ⟨gt, by omega⟩ (by omega) ntb⟩

/-! ### drawn runs -/
def goesTo (ss : List KnA.Stp) : Int → List Nat → Int → Prop
  | s, [], e => s = e
  | s, k :: r, e => ∃ st, ss[k]? = some st ∧ st.1 = s ∧ goesTo ss st.2.2 r e
theorem goesTo.goes {ss : List KnA.Stp} : ∀ {s : Int} {ks : List Nat} {e : Int}, goesTo ss s ks e → goes ss s ks
  | _, [], _, _ => trivial
  | _, _ :: _, _, ⟨st, h1, h2, h3⟩ => ⟨st, h1, h2, h3.goes⟩
theorem goesTo.push {ss : List KnA.Stp} {k : Nat} {st : KnA.Stp} (h : ss[k]? = some st) : ∀ {s : Int} {ks : List Nat} {e : Int}, goesTo ss s ks e → st.1 = e → goesTo ss s (ks ++ [k]) st.2.2
  | s, [], e, h1, h2 => ⟨st, h, by rw [h2]; exact h1.symm, rfl⟩
  | s, _ :: _, e, ⟨u, h1, h2, h3⟩, h4 => ⟨u, h1, h2, h3.push h h4⟩
theorem goes.to {ss : List KnA.Stp} : ∀ {s : Int} {ks : List Nat}, goes ss s ks → ∃ e, goesTo ss s ks e
  | s, [], _ => ⟨s, rfl⟩
  | s, _ :: _, ⟨u, h1, h2, h3⟩ => let ⟨e, he⟩ := h3.to; ⟨e, u, h1, h2, he⟩
theorem goesTo.reach {ss : List KnA.Stp} {s0 : Int} : ∀ {s : Int} {ks : List Nat} {e : Int}, goesTo ss s ks e → KnA.Reach ss s0 s → KnA.Reach ss s0 e
  | s, [], e, h, r => h ▸ r
  | s, _ :: _, e, ⟨u, h1, h2, h3⟩, r => h3.reach (by
    subst h2
    exact KnA.Reach.step r (List.mem_of_getElem? h1))
theorem goesTo.last {ss : List KnA.Stp} : ∀ {s : Int} {ks : List Nat} {e : Int}, goesTo ss s ks e → ∀ (n : ks ≠ []), ∃ st, ss[ks.getLast n]? = some st ∧ st.2.2 = e
  | s, [], e, _, n => absurd rfl n
  | s, [k], e, ⟨u, h1, h2, h3⟩, n => ⟨u, h1, h3⟩
  | s, k :: j :: r, e, ⟨u, h1, h2, h3⟩, n => by
    obtain ⟨st, a, b⟩ := h3.last (List.cons_ne_nil j r)
    exact ⟨st, by rw [List.getLast_cons (List.cons_ne_nil j r)]; exact a, b⟩
def srcIs (ss : List KnA.Stp) (s : Int) (k : Nat) : Bool := match ss[k]? with
  | some st => decide (st.1 = s)
  | none => false
def waysL (ss : List KnA.Stp) (s : Int) (n : Nat) : List Nat := (List.range n).filter (srcIs ss s)
theorem ways_in {ss : List KnA.Stp} {s : Int} {n k : Nat} (h : k ∈ waysL ss s n) : ∃ st, ss[k]? = some st ∧ st.1 = s := by
  have h2 := (List.mem_filter.mp h).2
  unfold srcIs at h2
  cases e : ss[k]? with
  | none => rw [e] at h2; cases h2
  | some st => rw [e] at h2; exact ⟨st, rfl, of_decide_eq_true h2⟩
theorem ways_some {ss : List KnA.Stp} {s : Int} (h : ∃ w y, (s, w, y) ∈ ss) : 0 < (waysL ss s ss.length).length := by
  obtain ⟨w, y, m⟩ := h
  obtain ⟨k, hk, e⟩ := List.mem_iff_getElem.mp m
  refine List.length_pos_of_mem (a := k) (List.mem_filter.mpr ⟨List.mem_range.mpr hk, ?_⟩)
  unfold srcIs
  rw [List.getElem?_eq_getElem hk, e]
  exact decide_eq_true rfl
theorem ways_succ (ss : List KnA.Stp) (s : Int) (n : Nat) : waysL ss s (n + 1) = waysL ss s n ++ if srcIs ss s n = true then [n] else [] := by
  unfold waysL
  rw [List.range_succ, List.filter_append, List.filter_cons, List.filter_nil]
theorem ways_len (ss : List KnA.Stp) (s : Int) (n : Nat) : (waysL ss s n).length ≤ n := by
  unfold waysL
  refine Nat.le_trans (List.length_filter_le _ _) ?_
  rw [List.length_range]; exact Nat.le_refl _
theorem kInts_app (a b : List Nat) : kInts (a ++ b) = kInts a ++ kInts b := List.map_append
theorem kInts_len (a : List Nat) : (kInts a).length = a.length := List.length_map _
theorem kInts_at {a : List Nat} {j : Nat} (h : j < a.length) : (kInts a)[j]? = some (.int (a[j] : Int)) := by
  unfold kInts
  rw [List.getElem?_map, List.getElem?_eq_getElem h]; rfl
def sp__law_walk (_ : PySem.W.Frag) : Sp := fun vs H Q _ => ∃ (r l : Addr) (s0 : Int) (ds : List Int) (as : List Addr) (ss : List KnA.Stp), vs = [.ref r, .ref l, .int s0] ∧ H r = some (.lst (ds.map V.int)) ∧ H l = some (.lst (as.map V.ref)) ∧ Stps H as ss ∧ ss.length ≤ 1000 ∧ ds.length ≤ 1000 ∧
  (∀ x, KnA.Reach ss s0 x → ∃ w y, (x, w, y) ∈ ss) ∧ ∀ H' p ks, Same H H' → H p = none → H' p = some (.lst (kInts ks)) → goes ss s0 ks → ks.length = ds.length → Q (.ref p) H'
theorem ok__law_walk {f : Addr} {C D S : Addr} {fd : FuncData} (T : Txt K mg C D S) (F : Fun K "_law_walk" "_law_walk" s__law_walk f fd)  : FnOk P w K mg base CX0 1 f fd ["_law_row_here", "_law_steps", "_law_start"] (sp__law_walk K) := by
  have nd := sc__law_walk.nd
  refine F.ok sc__law_walk (fun vs H Q E h => ?_) (fun cdv A outer s H vs Q E hr h => ?_)
  · obtain ⟨r, l, s0, ds, as, ss, rfl, _⟩ := h
    rfl
  · obtain ⟨r, l, s0, ds, as, ss, rfl, hd, hl, hst, lss, lds, live, q⟩ := h
    refine ⟨_, (pss_cons (ps_set (i := 3) nd rfl (.inl rfl) (pe_lst pa_nil))
      (pss_cons (ps_set (i := 4) nd rfl (.inr rfl) (pv 2))
      (pss_cons (ps_for PassesOwn.never rfl (pi_list (pv 0)) (pg_name (i := 5) nd rfl (.inl rfl)) (pss_cons (ps_setLc (i := 6) (own := [("_law_k", 8)]) (g := gName 8) rfl nd rfl rfl (sw_true rfl rfl rfl (by decide +kernel)) (pi_range1 (by rfl) T.m_range (pa_cons (pe_callB call_len (by rfl) T.m_len (by decide +kernel) (pa_cons (pv 1) pa_nil)) pa_nil)) (blkOk_by (N := ["_law_row_here", "_law_steps", "_law_start", "_law_path", "_law_state", "_law_digit", "_law_ways", "_law_number", "_law_k"]) (sc := defScope s__law_walk) (by decide +kernel)) (fun _ _ _ _ _ => (pg_name (i := 8) nd rfl (.inl rfl))) (fun _ _ _ _ _ => (pts_one (pt_cmpR op_eq (pe_ix (r := rIxT K) ix_tup (pe_ix (r := rIxL K) ix_list (pv 1) (pv 8) (fun _ _ => rfl)) pe_int (fun _ _ => rfl)) (pv 4) (nomark _)))) (fun _ _ _ _ _ => (pv 8)))
      (pss_cons (ps_set (i := 7) nd rfl (.inl rfl) (pe_ix (r := rIxL K) ix_list (pv 6) (pe_op op_mod (pe_callTy call_int1 (by rfl) T.m_int (by decide +kernel) (pa_cons (pv 5) pa_nil)) (pe_callB call_len (by rfl) T.m_len (by decide +kernel) (pa_cons (pv 6) pa_nil))) (fun _ _ => rfl)))
      (pss_cons (ps_expr (pe_bm PySem.F.plainAttrs_list PySem.F.slot_list_append PySem.F.type_list_append mt_append (pv 3) (pa_cons (pv 7) pa_nil)))
      (pss_one (ps_set (i := 4) nd rfl (.inr rfl) (pe_ix (r := rIxT K) ix_tup (pe_ix (r := rIxL K) ix_list (pv 1) (pv 7) (fun _ _ => rfl)) pe_int (fun _ _ => rfl))))))))
      (pss_one (ps_ret (pv 3)))))), ?_⟩
    refine ⟨Nat.zero_le _, fun P0 nP => ⟨.int s0, rfl, ?_⟩⟩
    have sP := same_upd (o := .lst []) nP
    refine ⟨.ref r, rfl, r, rfl, ⟨_, .inl (.inl (sP _ _ hd))⟩, ?_⟩
    refine for_list (K := K) (xs := ds.map V.int) (fun i σ G => ∃ (y5 y6 y7 : Option V) (ks : List Nat) (s1 : Int), σ = [some (.ref r), some (.ref l), some (.int s0), some (.ref P0), some (.int s1), y5, y6, y7, none] ∧ Same H G ∧ G P0 = some (.lst (kInts ks)) ∧ goesTo ss s0 ks s1 ∧ ks.length = i)
      ⟨none, none, none, [], s0, rfl, sP, upd_same, rfl, rfl⟩ (fun i σ G _ hP => .inl (.inl (hP.choose_spec.choose_spec.choose_spec.choose_spec.choose_spec.2.1 _ _ hd))) (fun i x σ G hx hP => ?_) (fun σ G hP => ?_)
    · obtain ⟨y5, y6, y7, ks, s1, rfl, S, eP, go, lk⟩ := hP
      rw [List.getElem?_map] at hx
      cases gx : ds[i]? with
      | none => rw [gx] at hx; cases hx
      | some dg =>
      rw [gx] at hx
      cases hx
      have hi : i < ds.length := (List.getElem?_eq_some_iff.mp gx).1
      refine ⟨.ref l, rfl, .ref l, ss.length, rfl, .inl ⟨_, .inl (.inl (S _ _ hl)), by rw [List.length_map]; exact hst.length.symm⟩, (ss.length : Int), rfl, by omega, by omega, fun W nW => ?_⟩
      refine lc_range (lo := 0) (fun j G2 => Same G G2 ∧ G2 W = some (.lst (kInts (waysL ss s1 j)))) ⟨same_upd nW, upd_same⟩ (fun j G2 hj hP => ?_) (fun G2 hP => ?_)
      · obtain ⟨S2, eW⟩ := hP
        rw [Int.toNat_natCast] at hj
        have e0 : (0 : Int) + (j : Nat) = (j : Nat) := by omega
        rw [e0]
        obtain ⟨ai, gai, hai⟩ := stp_get (hst.mono (S.trans S2)) (List.getElem?_eq_getElem hj)
        refine ⟨rfl, ?_⟩
        refine ⟨.ref l, rfl, .int (j : Nat), rfl, l, as.map V.ref, (j : Nat), .ref ai, rfl, rfl, .inl (.inl ((S.trans S2) _ _ hl)), atI_nat gai, ai, [.int ss[j].1, .str ss[j].2.1, .int ss[j].2.2], 0, .int ss[j].1, rfl, rfl, .inl (.inl hai), atI_nat (j := 0) rfl, .int s1, rfl, rfl, _, rfl, ?_⟩
        have es : srcIs ss s1 j = decide (V.int ss[j].1 = V.int s1) := by
          unfold srcIs
          rw [List.getElem?_eq_getElem hj]
          show decide (ss[j].1 = s1) = _
          by_cases z : ss[j].1 = s1
          · rw [decide_eq_true z, decide_eq_true (by rw [z])]
          · rw [decide_eq_false z, decide_eq_false (fun t => z (V.int.inj t))]
        have wl := ways_len ss s1 j
        have wsu := ways_succ ss s1 j
        rw [es] at wsu
        refine ite2 (fun c => ?_) (fun c => ?_)
        · rw [if_pos c] at wsu
          refine ⟨.int (j : Nat), rfl, _, eW, small (by rw [kInts_len]; omega), same_set nW S2, ?_⟩
          rw [upd_same, wsu, kInts_app]; rfl
        · rw [if_neg c, List.append_nil] at wsu
          exact ⟨S2, by rw [wsu]; exact eW⟩
      · obtain ⟨S2, eW⟩ := hP
        rw [Int.toNat_natCast] at eW
        have S02 := S.trans S2
        have lw := ways_some (live s1 (go.reach .start))
        have wl := ways_len ss s1 ss.length
        obtain ⟨j, hj⟩ : ∃ j : Nat, dg % ((waysL ss s1 ss.length).length : Int) = (j : Int) := ⟨(dg % ((waysL ss s1 ss.length).length : Int)).toNat, by have := Int.emod_nonneg dg (show ((waysL ss s1 ss.length).length : Int) ≠ 0 by omega); omega⟩
        have hj2 : j < (waysL ss s1 ss.length).length := by have := Int.emod_lt_of_pos dg (show 0 < ((waysL ss s1 ss.length).length : Int) by omega); omega
        have gk := kInts_at hj2
        have mk := List.getElem_mem hj2
        generalize (waysL ss s1 ss.length)[j] = k at gk mk
        obtain ⟨st, gst, es⟩ := ways_in mk
        obtain ⟨ai, gai, hai⟩ := stp_get (hst.mono S02) gst
        refine ⟨.ref W, rfl, .int dg, rfl, .inl ⟨dg, rfl, .ref W, rfl, .ref W, (waysL ss s1 ss.length).length, rfl, .inl ⟨_, .inl (.inl eW), (kInts_len _).symm⟩, dg, ((waysL ss s1 ss.length).length : Int), rfl, rfl, (show (0 : Int) < ((waysL ss s1 ss.length).length : Int) by omega), W, kInts (waysL ss s1 ss.length), _, .int (k : Int), rfl, rfl, .inl (.inl eW), by rw [hj]; exact atI_nat gk, ?_⟩⟩
        have eP2 := S2 _ _ eP
        refine ⟨.ref P0, rfl, .inl ⟨rfl, _, .inl (.inl eP2)⟩, .int (k : Int), rfl, P0, kInts ks, .int (k : Int), rfl, rfl, eP2, small (by rw [kInts_len]; omega), ?_⟩
        have nPl : l ≠ P0 := ne_of_none hl nP
        have nPa : ai ≠ P0 := ne_of hai eP2 (fun z => by cases z)
        refine ⟨.ref l, rfl, .int (k : Int), rfl, l, as.map V.ref, (k : Int), .ref ai, rfl, rfl, .inl (.inl ((upd_ne nPl).trans (S02 _ _ hl))), atI_nat gai, ai, [.int st.1, .str st.2.1, .int st.2.2], 2, .int st.2.2, rfl, rfl, .inl (.inl ((upd_ne nPa).trans hai)), atI_nat (j := 2) rfl, ?_⟩
        refine ⟨_, _, _, ks ++ [k], st.2.2, rfl, same_set nP S02, by rw [upd_same, kInts_app]; rfl, go.push gst es, by rw [List.length_append, lk]; rfl⟩
    · obtain ⟨y5, y6, y7, ks, s1, rfl, S, eP, go, lk⟩ := hP
      exact ⟨.ref P0, rfl, q G P0 ks S nP eP go.goes (by rw [lk, List.length_map])⟩

/-! ### what the law sees of a run -/
def sp__law_seen (_ : PySem.W.Frag) : Sp := fun vs H Q _ => ∃ (l d a : Addr) (as : List Addr) (ss : List KnA.Stp) (tb : List (Str × Str)) (ks : List Nat), vs = [.ref l, .ref d, .ref a] ∧ H l = some (.lst (as.map V.ref)) ∧ Stps H as ss ∧ H d = some (.dK (fkv tb)) ∧ H a = some (.lst (kInts ks)) ∧ (∀ k ∈ ks, k < ss.length) ∧ ks.length ≤ 1000 ∧
  ∀ H' p, Same H H' → H' p = some (.lst ((seenW tb ss ks).map V.str)) → Q (.ref p) H'
theorem seen_step {tb : List (Str × Str)} {ss : List KnA.Stp} {ks : List Nat} {i k : Nat} (e : ks[i]? = some k) : seenW tb ss (ks.take (i + 1)) = seenW tb ss (ks.take i) ++ (look tb (wordAt ss k)).toList := by
  unfold seenW
  have e1 : List.filterMap (look tb) (List.map (wordAt ss) [k]) = (look tb (wordAt ss k)).toList := by
    show List.filterMap (look tb) [wordAt ss k] = _
    cases h : look tb (wordAt ss k) <;> simp [List.filterMap, h]
  rw [take_more e, List.map_append, List.filterMap_append, e1]
theorem seen_len {tb : List (Str × Str)} {ss : List KnA.Stp} {ks : List Nat} (i : Nat) : (seenW tb ss (ks.take i)).length ≤ i := by
  unfold seenW
  refine Nat.le_trans (List.length_filterMap_le _ _) ?_
  rw [List.length_map, List.length_take]
  omega
theorem ok__law_seen {f : Addr} {C D S : Addr} {fd : FuncData} (T : Txt K mg C D S) (F : Fun K "_law_seen" "_law_seen" s__law_seen f fd)  : FnOk P w K mg base CX0 1 f fd ["_law_steps", "_law_table", "_law_path"] (sp__law_seen K) := by
  have nd := sc__law_seen.nd
  refine F.ok sc__law_seen (fun vs H Q E h => ?_) (fun cdv A outer s H vs Q E hr h => ?_)
  · obtain ⟨l, d, a, as, ss, tb, ks, rfl, _⟩ := h
    rfl
  · obtain ⟨l, d, a, as, ss, tb, ks, rfl, hl, hst, hd, ha, hk, lks, q⟩ := h
    refine ⟨_, (pss_cons (ps_setLc (i := 3) (own := [("_law_number", 4)]) (g := gName 4) (tt := tYes) rfl nd rfl rfl (sw_true rfl rfl rfl (by decide +kernel)) (pi_list (pv 2)) (blkOk_by (N := ["_law_steps", "_law_table", "_law_path", "_law_words", "_law_number", "_law_word"]) (sc := defScope s__law_seen) (by decide +kernel)) (fun _ _ _ _ _ => (pg_name (i := 4) nd rfl (.inl rfl))) (fun _ _ _ _ _ => pts_nil) (fun _ _ _ _ _ => (pe_ix (r := rIxT K) ix_tup (pe_ix (r := rIxL K) ix_list (pv 0) (pv 4) (fun _ _ => rfl)) pe_int (fun _ _ => rfl))))
      (pss_one (ps_ret (pe_lc (own := [("_law_word", 5)]) (g := gName 5) rfl nd (pi_list (pv 3)) (blkOk_by (N := ["_law_steps", "_law_table", "_law_path", "_law_words", "_law_number", "_law_word"]) (sc := defScope s__law_seen) (by decide +kernel)) (fun _ _ _ _ _ => (pg_name (i := 5) nd rfl (.inl rfl))) (fun _ _ _ _ _ => (pts_one (pt_cmp (pc_din (hu_of hr) (pv 5) (pv 1))))) (fun _ _ _ _ _ => (pe_dget (hu_of hr) (pv 1) (pv 5) (fun _ _ => rfl))))))), ?_⟩
    have word_get : ∀ k ∈ ks, ∃ st ai, ss[k]? = some st ∧ (as.map V.ref)[k]? = some (.ref ai) ∧ H ai = some (tup3 st) ∧ wordAt ss k = st.2.1 := fun k hk' => by
      have e := List.getElem?_eq_getElem (hk k hk')
      obtain ⟨ai, g1, g2⟩ := stp_get hst e
      exact ⟨_, ai, e, g1, g2, by unfold wordAt; rw [e]⟩
    refine ⟨.ref a, rfl, a, rfl, ⟨_, .inl (.inl ha)⟩, fun L2 n2 => ?_⟩
    refine lc_list (K := K) (xs := kInts ks) (fun i G2 => Same H G2 ∧ G2 L2 = some (.lst ((ks.take i).map fun k => .str (wordAt ss k)))) ⟨same_upd n2, upd_same⟩ (fun i G2 _ hP => .inl (.inl (hP.1 _ _ ha))) (fun i x G2 hx hP => ?_) (fun G2 hP => ?_)
    · obtain ⟨S2, e2⟩ := hP
      obtain ⟨k, ek, rfl, _⟩ := kInts_get hx
      obtain ⟨st, ai, g1, g2, g3, g4⟩ := word_get k (List.mem_of_getElem? ek)
      refine ⟨rfl, ?_⟩
      unfold tYes
      refine iteT ?_
      have hi : i < ks.length := (List.getElem?_eq_some_iff.mp ek).1
      refine ⟨.ref l, rfl, .int (k : Int), rfl, l, as.map V.ref, (k : Int), .ref ai, rfl, rfl, .inl (.inl (S2 _ _ hl)), atI_nat g2, ai, [.int st.1, .str st.2.1, .int st.2.2], 1, .str st.2.1, rfl, rfl, .inl (.inl (S2 _ _ g3)), atI_nat (j := 1) rfl, _, e2, small (by rw [List.length_map, List.length_take]; omega), same_set n2 S2, ?_⟩
      rw [upd_same, take_more ek, List.map_append, ← g4]; rfl
    · obtain ⟨S2, e2⟩ := hP
      rw [kInts_len, List.take_length] at e2
      refine ⟨.ref L2, rfl, L2, rfl, ⟨_, .inl (.inl e2)⟩, fun L3 n3 => ?_⟩
      refine lc_list (K := K) (xs := ks.map fun k => V.str (wordAt ss k)) (fun i G3 => Same G2 G3 ∧ G3 L3 = some (.lst ((seenW tb ss (ks.take i)).map V.str))) ⟨same_upd n3, upd_same⟩ (fun i G3 _ hP => .inl (.inl (hP.1 _ _ e2))) (fun i x G3 hx hP => ?_) (fun G3 hP => ?_)
      · obtain ⟨S3, e3⟩ := hP
        rw [List.getElem?_map] at hx
        cases ek : ks[i]? with
        | none => rw [ek] at hx; cases hx
        | some k =>
        rw [ek] at hx
        cases hx
        have hi : i < ks.length := (List.getElem?_eq_some_iff.mp ek).1
        have s1 := seen_step (tb := tb) (ss := ss) ek
        have l1 := seen_len (tb := tb) (ss := ss) (ks := ks) i
        have S23 := S2.trans S3
        have dg : DGet G3 d (.str (wordAt ss k)) (valV (fkv tb) (.inr (wordAt ss k))) := DGet.k (k := .inr (wordAt ss k)) (S23 _ _ hd)
        rw [look_val] at dg
        refine ⟨rfl, .str (wordAt ss k), rfl, .ref d, rfl, d, _, rfl, dg, _, rfl, ?_⟩
        cases h : look tb (wordAt ss k) with
        | none =>
          rw [h] at s1
          refine iteF ⟨S3, ?_⟩
          rw [s1]
          simpa using e3
        | some y =>
          rw [h] at s1 dg
          refine iteT ⟨.ref d, rfl, .str (wordAt ss k), rfl, d, .str y, rfl, dg, _, e3, small (by rw [List.length_map]; omega), same_set n3 S3, ?_⟩
          rw [upd_same, s1, List.map_append]; rfl
      · obtain ⟨S3, e3⟩ := hP
        rw [List.length_map, List.take_length] at e3
        exact q _ L3 (S2.trans S3) e3

/-! ### the law's own estimates -/
def sp__law_pair_behind (_ : PySem.W.Frag) : Sp := fun vs H Q _ => ∃ (c a td : Addr) (d : KnA.Dat) (x : KnA.Stp) (fs : List (Str × Str)), vs = [.ref c, .ref a, .ref td] ∧ KnA.RowAt H (.ref c) d.1 d.2 ∧ H a = some (tup3 x) ∧ H td = some (.dK (fkv fs)) ∧ KnA.Words d.2 d.2 ∧ d.2.length ≤ 40 ∧
  ∀ H' r, Same H H' → KnA.RowAt H' (.ref r) (bhd (look fs) d x).1 (bhd (look fs) d x).2 → Q (.ref r) H'
theorem ok__law_pair_behind {f : Addr} {C D S : Addr} {fd : FuncData} (T : Txt K mg C D S) (F : Fun K "_law_pair_behind" "_law_pair_behind" s__law_pair_behind f fd)  : FnOk P w K mg base CX0 1 f fd ["_law_pair", "_law_step", "_law_table"] (sp__law_pair_behind K) := by
  have nd := sc__law_pair_behind.nd
  refine F.ok sc__law_pair_behind (fun vs H Q E h => ?_) (fun cdv A outer s H vs Q E hr h => ?_)
  · obtain ⟨c, a, td, d, x, fs, rfl, _⟩ := h
    rfl
  · obtain ⟨c, a, td, d, x, fs, rfl, rx, ha, htd, wd, ld, q⟩ := h
    refine ⟨_, (pss_cons (ps_set (i := 3) nd rfl (.inl rfl) (pe_callTy call_list_of (by rfl) T.m_list (by decide +kernel) (pa_cons (pe_ix (r := rIxT K) ix_tup (pv 0) pe_int (fun _ _ => rfl)) pa_nil)))
      (pss_cons (ps_if (PW.pt (pw_and (pt_cmp (pc_din (hu_of hr) (pe_ix (r := rIxT K) ix_tup (pv 1) pe_int (fun _ _ => rfl)) (pv 2))) (pw_and1 (pt_cmpR op_notIn_seq (pe_dget (hu_of hr) (pv 2) (pe_ix (r := rIxT K) ix_tup (pv 1) pe_int (fun _ _ => rfl)) (fun _ _ => rfl)) (pv 3) (by with_unfolding_all rfl))))) (pss_one (ps_expr (pe_bm PySem.F.plainAttrs_list PySem.F.slot_list_append PySem.F.type_list_append mt_append (pv 3) (pa_cons (pe_dget (hu_of hr) (pv 2) (pe_ix (r := rIxT K) ix_tup (pv 1) pe_int (fun _ _ => rfl)) (fun _ _ => rfl)) pa_nil)))) pss_nil)
      (pss_one (ps_ret (pe_tup (pa_cons (pe_ix (r := rIxT K) ix_tup (pv 1) pe_int (fun _ _ => rfl)) (pa_cons (pe_callTy call_tuple_of (by rfl) T.m_tuple (by decide +kernel) (pa_cons (pe_callB cr_sortedS (by rfl) T.m_sorted (by decide +kernel) (pa_cons (pv 3) pa_nil)) pa_nil)) pa_nil))))))), ?_⟩
    obtain ⟨c', ft, ec, hc, hft⟩ := rx
    cases ec
    refine ⟨.ref c, rfl, c, _, 1, .ref ft, rfl, rfl, .inl (.inl hc), atI_nat (j := 1) rfl, ft, d.2.map V.str, rfl, .inr (.inl (.inl hft)), fun p np => ?_⟩
    have s1 := same_upd (o := .lst (d.2.map V.str)) np
    have e1 : (upd H p (.lst (d.2.map V.str))) p = some (.lst (d.2.map V.str)) := upd_same
    refine setn_use rfl ?_
    generalize upd H p (.lst (d.2.map V.str)) = H1 at s1 e1 ⊢
    have ha1 := s1 _ _ ha
    have dg : DGet H1 td (.str x.2.1) ((look fs x.2.1).map V.str) := by
      have := DGet.k (k := .inr x.2.1) (s1 _ _ htd)
      rwa [look_val] at this
    refine KnC.nx_if (fun σ G => ∃ E : List Str, σ = [some (.ref c), some (.ref a), some (.ref td), some (.ref p)] ∧ Same H G ∧ G p = some (.lst (E.map V.str)) ∧ E.Nodup ∧ (∀ z, z ∈ E ↔ z ∈ d.2 ++ (look fs x.2.1).toList) ∧ E.length ≤ 41) (fun k => ?_) (fun σ G hT => ?_)
    · refine ⟨.ref a, rfl, a, [.int x.1, .str x.2.1, .int x.2.2], 1, .str x.2.1, rfl, rfl, .inl (.inl ha1), atI_nat (j := 1) rfl, .ref td, rfl, td, _, rfl, dg, _, rfl, ?_⟩
      cases hl : look fs x.2.1 with
      | none =>
        rw [hl] at k
        exact iteF (k _ _ ⟨d.2, rfl, s1, e1, wd.nd, fun z => by rw [Option.toList_none, List.append_nil], by omega⟩)
      | some f =>
        rw [hl] at k dg
        refine iteT ⟨.ref td, rfl, .ref a, rfl, a, [.int x.1, .str x.2.1, .int x.2.2], 1, .str x.2.1, rfl, rfl, .inl (.inl ha1), atI_nat (j := 1) rfl, td, .str f, rfl, dg, .ref p, rfl, p, d.2.map V.str, rfl, .inl (.inl (.inl e1)), rfl, flat_ws _, _, rfl, ?_⟩
        rw [inV_strs]
        by_cases m : f ∈ d.2
        · rw [decide_eq_true m]
          exact iteF (k _ _ ⟨d.2, rfl, s1, e1, wd.nd, fun z => ⟨fun h => List.mem_append_left _ h, fun h => (List.mem_append.mp h).elim id fun h => List.mem_singleton.mp h ▸ m⟩, by omega⟩)
        · rw [decide_eq_false m]
          refine iteT ⟨.ref p, rfl, .inl ⟨rfl, _, .inl (.inl e1)⟩, .ref td, rfl, .ref a, rfl, a, [.int x.1, .str x.2.1, .int x.2.2], 1, .str x.2.1, rfl, rfl, .inl (.inl ha1), atI_nat (j := 1) rfl, td, .str f, rfl, dg, p, _, .str f, rfl, rfl, e1, small (by rw [List.length_map]; omega), ?_⟩
          exact k _ _ ⟨d.2 ++ [f], rfl, same_set np s1, by rw [upd_same, List.map_append]; rfl, List.nodup_append.mpr ⟨wd.nd, List.pairwise_singleton _ f, fun a ha b hb e => m (List.mem_singleton.mp hb ▸ e ▸ ha)⟩, fun z => Iff.rfl, by rw [List.length_append]; show d.2.length + 1 ≤ 41; omega⟩
    · obtain ⟨E', rfl, S1, eE, nE, mE, lE⟩ := hT
      have haG := S1 _ _ ha
      refine ⟨.ref a, rfl, a, [.int x.1, .str x.2.1, .int x.2.2], 2, .int x.2.2, rfl, rfl, .inl (.inl haG), atI_nat (j := 2) rfl, .ref p, rfl, p, E', rfl, .inl (.inl eE), by omega, fun ys r pm so nr => ?_⟩
      have s2 := same_upd (o := .lst (ys.map V.str)) nr
      have e2 : (upd G r (.lst (ys.map V.str))) r = some (.lst (ys.map V.str)) := upd_same
      generalize upd G r (.lst (ys.map V.str)) = G2 at s2 e2 ⊢
      refine ⟨r, _, rfl, .inl ⟨.inl (.inl e2), fun t nt => ?_⟩⟩
      have s3 := same_upd (o := .tup (ys.map V.str)) nt
      have e3 : (upd G2 t (.tup (ys.map V.str))) t = some (.tup (ys.map V.str)) := upd_same
      generalize upd G2 t (.tup (ys.map V.str)) = G3 at s3 e3 ⊢
      refine ⟨szl rfl, fun u nu => ?_⟩
      have s4 := same_upd (o := .tup [V.int x.2.2, .ref t]) nu
      have ey : ys = addF d.2 (look fs x.2.1) := KnA.Words.uniq (xs := d.2 ++ (look fs x.2.1).toList) ⟨KnA.sorted_pair so, pm.nodup_iff.mpr nE, fun z => pm.mem_iff.trans (mE z)⟩ (addF_words wd _)
      refine q _ u (S1.trans (s2.trans (s3.trans s4))) ⟨u, t, rfl, upd_same, ?_⟩
      show _ = some (HO.tup ((addF d.2 (look fs x.2.1)).map V.str))
      rw [← ey]
      exact s4 _ _ e3

end
end Kn

set_option Elab.async false
set_option linter.all false
set_option maxRecDepth 100000
set_option maxHeartbeats 4000000
namespace Kn
open PySem PySem.Spec PyProof.Rows L2
open C8 (Cal pe_c pe_gc Mak pe_mk)
section
variable {P : Program} {w : World} {K : PySem.W.Frag} {mg : Str → Option Value} {base : Heap}





theorem dp_rowsP {K : PySem.W.Frag} {H : Hp} {vs : List V} {ds : List KnA.Dat} (h : RowsP H vs ds) : DpAll K H vs (ds.map KnA.rowD) := by
  unfold RowsP at h
  induction h with
  | nil => exact .nil
  | @cons v d vs ds a _ ih => exact .cons (dp_row a) ih
theorem rows_ks {H : Hp} {vs : List V} {ds : List KnA.Dat} (h : RowsP H vs ds) : ∃ ks : List KnH.NRow, ks.map (fun p => V.ref p.1) = vs ∧ ks.map (·.2) = ds.map keyD ∧ ∀ p ∈ ks, (KnN.NIs H p.2 (.ref p.1) ∧ p.2.depth ≤ 8) ∧ ∃ d ∈ ds, p.2 = keyD d ∧ KnA.RowAt H (.ref p.1) d.1 d.2 := by
  unfold RowsP at h
  induction h with
  | nil => exact ⟨[], rfl, rfl, fun _ h => nomatch h⟩
  | @cons v d vs ds a _ ih =>
    obtain ⟨ks, e1, e2, e3⟩ := ih
    obtain ⟨t, rfl, nk⟩ := row_nis a
    refine ⟨(t, keyD d) :: ks, by rw [List.map_cons, e1], by rw [List.map_cons, e2]; rfl, fun p hp => ?_⟩
    rcases List.mem_cons.mp hp with rfl | hp
    · exact ⟨⟨nk, rk_depth _ _⟩, d, List.mem_cons_self, rfl, a⟩
    · obtain ⟨x, d', hd, y⟩ := e3 p hp
      exact ⟨x, d', List.mem_cons_of_mem _ hd, y⟩
theorem set_rows {H : Hp} : ∀ {M : List KnH.NRow}, (∀ p ∈ M, ∃ d : KnA.Dat, p.2 = keyD d ∧ KnA.RowAt H (.ref p.1) d.1 d.2) → ∃ bs : List (Addr × KnA.Dat), bs.map (·.1) = M.map (·.1) ∧ bs.map (fun b => keyD b.2) = M.map (·.2) ∧ ∀ b ∈ bs, KnA.RowAt H (.ref b.1) b.2.1 b.2.2
  | [], _ => ⟨[], rfl, rfl, fun _ h => nomatch h⟩
  | p :: M, h => by
    obtain ⟨bs, e1, e2, e3⟩ := set_rows (M := M) fun x hx => h x (List.mem_cons_of_mem _ hx)
    obtain ⟨d, a, b⟩ := h p List.mem_cons_self
    refine ⟨(p.1, d) :: bs, by rw [List.map_cons, List.map_cons, e1], by rw [List.map_cons, List.map_cons, e2, a], fun x hx => ?_⟩
    rcases List.mem_cons.mp hx with rfl | hx
    · exact b
    · exact e3 x hx
structure EInv (ss : List KnA.Stp) (lf lw : Lk) (U ds0 F : List KnA.Dat) (i : Nat) : Prop where
  nd : F.Nodup
  sub : ∀ p ∈ F, p ∈ U
  re : ∀ p ∈ F, ∃ p0 ∈ ds0, Rch ss lf lw p0 p
  base : ∀ p ∈ ds0, p ∈ F
  cl : ∀ j < i, ∀ q, F[j]? = some q → ∀ r ∈ unD ss lf lw q, r ∈ F
theorem EInv.add {ss : List KnA.Stp} {lf lw : Lk} {U ds0 F : List KnA.Dat} {i : Nat} (h : EInv ss lf lw U ds0 F i) {r : KnA.Dat} (hi : i ≤ F.length) (hU : r ∈ U) (hr : ∃ p0 ∈ ds0, Rch ss lf lw p0 r) (nr : r ∉ F) : EInv ss lf lw U ds0 (F ++ [r]) i := by
  refine ⟨List.nodup_append.mpr ⟨h.nd, List.pairwise_singleton _ r, fun a ha b hb e => nr (List.mem_singleton.mp hb ▸ e ▸ ha)⟩, fun p hp => ?_, fun p hp => ?_, fun p hp => List.mem_append_left _ (h.base p hp), fun j hj q hq x hx => ?_⟩
  · exact (List.mem_append.mp hp).elim (h.sub p) fun z => List.mem_singleton.mp z ▸ hU
  · exact (List.mem_append.mp hp).elim (h.re p) fun z => List.mem_singleton.mp z ▸ hr
  · rw [List.getElem?_append_left (by omega)] at hq
    exact List.mem_append_left _ (h.cl j hj q hq x hx)
theorem EInv.done {ss : List KnA.Stp} {lf lw : Lk} {U ds0 F : List KnA.Dat} {i : Nat} (h : EInv ss lf lw U ds0 F i) (hi : F.length ≤ i) (q : KnA.Dat) : q ∈ F ↔ ∃ p ∈ ds0, Rch ss lf lw p q := by
  have g : ∀ p ∈ ds0, ∀ q, Rch ss lf lw p q → q ∈ F := fun p hp q r => by
    induction r with
    | refl => exact h.base p hp
    | step _ m e n ih =>
      obtain ⟨j, hj⟩ := List.getElem?_of_mem ih
      exact h.cl j (Nat.lt_of_lt_of_le (List.getElem?_eq_some_iff.mp hj).1 hi) _ hj _ (unD_mem.mpr ⟨_, m, e, n, rfl⟩)
  exact ⟨h.re q, fun ⟨p, hp, r⟩ => g p hp q r⟩
/-- where the law's pairs lie -/
structure InU (ss : List KnA.Stp) (lf : Lk) (U : List KnA.Dat) : Prop where
  few : U.length ≤ 60
  step : ∀ p ∈ U, ∀ x ∈ ss, x.1 = p.1 → bhd lf p x ∈ U
  ok : ∀ p ∈ U, KnA.Words p.2 p.2 ∧ p.2.length ≤ 40 ∧ ∀ z ∈ p.2, nameB (.str z) = true
def sp__law_estimate {P : Program} {w : World} (_ : PySem.W.Frag) : Sp := fun vs H Q _ => ∃ (p l td sd : Addr) (rs : List V) (ds0 U : List KnA.Dat) (as : List Addr) (ss : List KnA.Stp) (fs tb : List (Str × Str)), vs = [.ref p, .ref l, .ref td, .ref sd] ∧ H p = some (.lst rs) ∧ RowsP H rs ds0 ∧ H l = some (.lst (as.map V.ref)) ∧ Stps H as ss ∧ H td = some (.dK (fkv fs)) ∧ H sd = some (.dK (fkv tb)) ∧ (∀ d ∈ ds0, d ∈ U) ∧ InU ss (look fs) U ∧
  ∀ (H' : Hp) (r : Addr) (rs' : List V) (ds' : List KnA.Dat), Same H H' → H r = none → H' r = some (.lst rs') → RowsP H' rs' ds' → ds'.Pairwise (fun p q => KnA.rowLe p q = true) → ds'.Nodup → (∀ q, q ∈ ds' ↔ ∃ p ∈ ds0, Rch ss (look fs) (look tb) p q) → Q (.ref r) H'
theorem ok__law_estimate {f : Addr} {C D S : Addr} {fd : FuncData} (T : Txt K mg C D S) (F : Fun K "_law_estimate" "_law_estimate" s__law_estimate f fd) (c__law_pair_behind : Cal P w K mg base 1 "_law_pair_behind" (sp__law_pair_behind K) []) : FnOk P w K mg base CX0 2 f fd ["_law_pairs", "_law_steps", "_law_table", "_law_sights_here"] (sp__law_estimate (P := P) (w := w) K) := by
  have nd := sc__law_estimate.nd
  refine F.ok sc__law_estimate (fun vs H Q E h => ?_) (fun cdv A outer s H vs Q E hr h => ?_)
  · obtain ⟨p, l, td, sd, rs, ds0, U, as, ss, fs, tb, rfl, _⟩ := h
    rfl
  · obtain ⟨p, l, td, sd, rs, ds0, U, as, ss, fs, tb, rfl, hp, rows, hl, hst, htd, hsd, inU, iu, q⟩ := h
    refine ⟨_, (pss_cons (ps_set (i := 4) nd rfl (.inl rfl) (pe_callB (show CallR _ (.builtin "sorted") (KnH.rSortedSN P w) from KnH.cr_sortedSN rfl (KnC.un65 hr)) (by rfl) T.m_sorted (by decide +kernel) (pa_cons (pe_callTy (show CallR _ (.type "set") (KnH.rSetOfN K P w) from KnH.cr_setOfN rfl (KnC.un65 hr)) (by rfl) T.m_set (by decide +kernel) (pa_cons (pv 0) pa_nil)) pa_nil)))
      (pss_cons (ps_for PassesOwn.never rfl (pi_range1 (by rfl) T.m_range (pa_cons pe_int pa_nil)) (pg_name (i := 5) nd rfl (.inl rfl)) (pss_one (ps_if (pt_cmpR op_lt (pv 5) (pe_callB call_len (by rfl) T.m_len (by decide +kernel) (pa_cons (pv 4) pa_nil)) (nomark _)) (pss_one (ps_for PassesOwn.never rfl (pi_list (pv 1)) (pg_name (i := 6) nd rfl (.inl rfl)) (pss_one (ps_if (PW.pt (pw_and (pt_cmpR op_eq (pe_ix (r := rIxT K) ix_tup (pv 6) pe_int (fun _ _ => rfl)) (pe_ix (r := rIxT K) ix_tup (pe_ix (r := rIxL K) ix_list (pv 4) (pv 5) (fun _ _ => rfl)) pe_int (fun _ _ => rfl)) (nomark _)) (pw_and1 (pt_cmp (pc_dnotin (hu_of hr) (pe_ix (r := rIxT K) ix_tup (pv 6) pe_int (fun _ _ => rfl)) (pv 3)))))) (pss_cons (ps_set (i := 7) nd rfl (.inl rfl) (pe_c c__law_pair_behind hr (by omega) (by rfl) (pa_cons (pe_ix (r := rIxL K) ix_list (pv 4) (pv 5) (fun _ _ => rfl)) (pa_cons (pv 6) (pa_cons (pv 2) pa_nil)))))
      (pss_one (ps_if (pt_cmpR (op_notInD (KnC.un65 hr)) (pv 7) (pv 4) (by with_unfolding_all rfl)) (pss_one (ps_expr (pe_bm PySem.F.plainAttrs_list PySem.F.slot_list_append PySem.F.type_list_append mt_append (pv 4) (pa_cons (pv 7) pa_nil)))) pss_nil))) pss_nil)))) pss_nil)))
      (pss_one (ps_ret (pe_callB (show CallR _ (.builtin "sorted") (KnA.rSortedRO K) from KnA.cr_sortedRO (KnC.un65 hr)) (by rfl) T.m_sorted (by decide +kernel) (pa_cons (pv 4) pa_nil)))))), ?_⟩
    obtain ⟨ks, k1, k2, k3⟩ := rows_ks rows
    refine ⟨.ref p, rfl, p, ks, rfl, by rw [k1]; exact .inl (.inl hp), fun x hx => (k3 x hx).1, fun L nL sL => ?_, fun Sx M nS sM m1 m2 m3 => ?_⟩
    · have : L.length ≤ (U.map keyD).length := nodup_le nL fun k hk => by
        have := sL k hk
        rw [k2] at this
        obtain ⟨d, hd, rfl⟩ := List.mem_map.mp this
        exact List.mem_map.mpr ⟨d, inU d hd, rfl⟩
      rw [List.length_map] at this
      have := iu.few
      omega
    have sS := same_upd (o := KnH.SetFN P w Sx M) nS
    have eS : (upd H Sx (KnH.SetFN P w Sx M)) Sx = some (KnH.SetFN P w Sx M) := upd_same
    generalize upd H Sx (KnH.SetFN P w Sx M) = H1 at sS eS sM ⊢
    obtain ⟨bs, b1, b2, b3⟩ := set_rows (H := H1) (M := M) fun x hx => let ⟨_, d, _, e, r⟩ := k3 x (m1 x hx); ⟨d, e, r.ext fun _ _ z => sS _ _ z⟩
    refine ⟨Sx, bs, rfl, ⟨M, eS, b1.symm⟩, b3, fun bs' Lp pm up nLp => ?_⟩
    have sL := same_upd (o := .lst (bs'.map (·.1))) nLp
    have eL : (upd H1 Lp (.lst (bs'.map (·.1)))) Lp = some (.lst (bs'.map (·.1))) := upd_same
    have rL : RowsP (upd H1 Lp (.lst (bs'.map (·.1)))) (bs'.map (·.1)) (bs'.map (·.2)) := (rows_unzip fun b hb => by
      obtain ⟨c, hc, rfl⟩ := List.mem_map.mp (pm.subset hb)
      exact b3 c hc).ext fun _ _ z => sL _ _ z
    have pd : (bs'.map (·.2)).Perm (bs.map (·.2)) := by have := pm.map (·.2); rwa [List.map_map] at this
    have ndk : ((bs.map (·.2)).map keyD).Nodup := by rw [List.map_map]; show (bs.map fun b => keyD b.2).Nodup; rw [b2]; exact m3
    have memF : ∀ d, d ∈ bs'.map (·.2) ↔ d ∈ ds0 := fun d => by
      rw [pd.mem_iff]
      constructor
      · intro hd
        obtain ⟨b, hb, rfl⟩ := List.mem_map.mp hd
        have : keyD b.2 ∈ M.map (·.2) := by rw [← b2]; exact List.mem_map.mpr ⟨b, hb, rfl⟩
        obtain ⟨x, hx, e⟩ := List.mem_map.mp this
        obtain ⟨_, d', hd', e', _⟩ := k3 x (m1 x hx)
        have : keyD d' = keyD b.2 := e'.symm.trans e
        exact keyD_inj this ▸ hd'
      · intro hd
        have : keyD d ∈ ks.map (·.2) := by rw [k2]; exact List.mem_map.mpr ⟨d, hd, rfl⟩
        obtain ⟨x, hx, e⟩ := List.mem_map.mp this
        have h2 := m2 x hx
        rw [e, ← b2] at h2
        obtain ⟨b, hb, e2⟩ := List.mem_map.mp h2
        exact List.mem_map.mpr ⟨b, hb, keyD_inj e2⟩
    have ndF : (bs'.map (·.2)).Nodup := pd.symm.nodup (keys_nd ndk)
    refine setn_use rfl ?_
    generalize upd H1 Lp (.lst (bs'.map (·.1))) = H2 at sL eL rL ⊢
    generalize bs'.map (·.1) = rs0 at eL rL ⊢
    generalize bs'.map (·.2) = F0 at memF ndF up rL ⊢
    have S2 := sS.trans sL
    have nLpH : H Lp = none := sS.free nLp
    have inv0 : EInv ss (look fs) (look tb) U ds0 F0 0 := ⟨ndF, fun x hx => inU x ((memF x).mp hx), fun x hx => ⟨x, (memF x).mp hx, .refl⟩, fun x hx => (memF x).mpr hx, fun j hj => absurd hj (Nat.not_lt_zero j)⟩
    refine ⟨400, rfl, by decide, by decide, ?_⟩
    refine for_range (lo := 0) (n := 400) (fun i σ G => ∃ (y5 y6 y7 : Option V) (F : List KnA.Dat) (rs : List V), σ = [some (.ref p), some (.ref l), some (.ref td), some (.ref sd), some (.ref Lp), y5, y6, y7] ∧ Same H G ∧ G Lp = some (.lst rs) ∧ RowsP G rs F ∧ EInv ss (look fs) (look tb) U ds0 F i)
      ⟨none, none, none, F0, rs0, rfl, S2, eL, rL, inv0⟩ (fun i σ G hi hP => ?_) (fun σ G hP => ?_)
    · obtain ⟨y5, y6, y7, F, rs, rfl, S3, eL3, rF, ei⟩ := hP
      have lF := Paired.length rF
      rw [show (0 : Int) + ((i : Nat) : Int) = ((i : Nat) : Int) from Int.zero_add _]
      refine setn_use rfl ?_
      refine ⟨.int (i : Int), rfl, .ref Lp, rfl, .ref Lp, rs.length, rfl, .inl ⟨_, .inl (.inl eL3), rfl⟩, (i : Int), (rs.length : Int), rfl, rfl, _, rfl, ?_⟩
      by_cases c : i < F.length
      · rw [decide_eq_true (show (i : Int) < (rs.length : Int) by omega)]
        refine iteT ?_
        have gF : F[i]? = some F[i] := List.getElem?_eq_getElem c
        generalize F[i] = q0 at gF
        have q0F := List.mem_of_getElem? gF
        have q0U := ei.sub q0 q0F
        obtain ⟨wq, lq, nq⟩ := iu.ok q0 q0U
        refine ⟨.ref l, rfl, l, rfl, ⟨_, .inl (.inl (S3 _ _ hl))⟩, ?_⟩
        refine for_list (K := K) (a := l) (xs := as.map V.ref) (fun j σ G => ∃ (y6 y7 : Option V) (F : List KnA.Dat) (rs : List V), σ = [some (.ref p), some (.ref l), some (.ref td), some (.ref sd), some (.ref Lp), some (.int (i : Int)), y6, y7] ∧ Same H G ∧ G Lp = some (.lst rs) ∧ RowsP G rs F ∧ EInv ss (look fs) (look tb) U ds0 F i ∧ F[i]? = some q0 ∧ ∀ r ∈ unD (ss.take j) (look fs) (look tb) q0, r ∈ F)
          ⟨y6, y7, F, rs, rfl, S3, eL3, rF, ei, gF, fun r hr => by rw [List.take_zero] at hr; cases hr⟩ (fun j σ G _ hP => .inl (.inl (hP.choose_spec.choose_spec.choose_spec.choose_spec.2.1 _ _ hl))) (fun j x σ G hx hP => ?_) (fun σ G hP => ?_)
        · obtain ⟨y6, y7, F, rs, rfl, S4, eL4, rF, ei, gF, dn⟩ := hP
          obtain ⟨ai, st, rfl, gi, gst, hai0⟩ := ref_get hst hx
          have mst := List.mem_of_getElem? gst
          have hai := S4 _ _ hai0
          obtain ⟨v0, gv, rq0⟩ : ∃ v, rs[i]? = some v ∧ KnA.RowAt G v q0.1 q0.2 := by
            have hi' : i < rs.length := by rw [Paired.length rF]; exact (List.getElem?_eq_some_iff.mp gF).1
            obtain ⟨d, hd, rx⟩ := paired_get rF (List.getElem?_eq_getElem hi')
            rw [gF] at hd; cases hd
            exact ⟨_, List.getElem?_eq_getElem hi', rx⟩
          obtain ⟨t, ft, rfl, ht, hft⟩ := id rq0
          have u1 : unD (ss.take (j + 1)) (look fs) (look tb) q0 = unD (ss.take j) (look fs) (look tb) q0 ++ if st.1 = q0.1 ∧ look tb st.2.1 = none then [bhd (look fs) q0 st] else [] := flat_take _ gst
          have idle : ¬ (st.1 = q0.1 ∧ look tb st.2.1 = none) → ∀ r ∈ unD (ss.take (j + 1)) (look fs) (look tb) q0, r ∈ F := fun c r hr => by
            rw [u1, if_neg c, List.append_nil] at hr; exact dn r hr
          refine setn_use rfl ?_
          refine ⟨.ref ai, rfl, ai, [.int st.1, .str st.2.1, .int st.2.2], 0, .int st.1, rfl, rfl, .inl (.inl hai), atI_nat (j := 0) rfl, .ref Lp, rfl, .int (i : Int), rfl, Lp, rs, (i : Int), .ref t, rfl, rfl, .inl (.inl eL4), atI_nat gv, t, _, 0, .int q0.1, rfl, rfl, .inl (.inl ht), atI_nat (j := 0) rfl, rfl, _, rfl, ?_⟩
          by_cases c1 : st.1 = q0.1
          · rw [decide_eq_true (show V.int st.1 = V.int q0.1 by rw [c1])]
            have dg : DGet G sd (.str st.2.1) ((look tb st.2.1).map V.str) := by
              have := DGet.k (k := .inr st.2.1) (S4 _ _ hsd)
              rwa [look_val] at this
            refine iteT ⟨.ref ai, rfl, ai, [.int st.1, .str st.2.1, .int st.2.2], 1, .str st.2.1, rfl, rfl, .inl (.inl hai), atI_nat (j := 1) rfl, .ref sd, rfl, sd, _, rfl, dg, _, rfl, ?_⟩
            cases hl2 : look tb st.2.1 with
            | some z => exact iteF ⟨_, _, F, rs, rfl, S4, eL4, rF, ei, gF, idle fun y => by rw [hl2] at y; cases y.2⟩
            | none =>
              refine iteT ⟨.ref Lp, rfl, .int (i : Int), rfl, Lp, rs, (i : Int), .ref t, rfl, rfl, .inl (.inl eL4), atI_nat gv, .ref ai, rfl, .ref td, rfl, t, ai, td, q0, st, fs, rfl, rq0, hai, S4 _ _ htd, wq, lq, fun G5 r s5 rr => ?_⟩
              refine setn_use rfl ?_
              have rF5 : RowsP G5 rs F := rF.ext fun _ _ z => s5 _ _ z
              have eL5 := s5 _ _ eL4
              have bU := iu.step q0 q0U st mst c1
              have nmF : ∀ p ∈ F, ∀ z ∈ p.2, nameB (.str z) = true := fun p hp => (iu.ok p (ei.sub p hp)).2.2
              refine ⟨.ref r, rfl, .ref Lp, rfl, KnA.rowD (bhd (look fs) q0 st), _, dp_row rr, .lst (.inl (.inl eL5)) (dp_rowsP rF5), rowD_shaped (iu.ok _ bU).2.2, rowDs_shaped nmF, _, rfl, ?_⟩
              rw [rowD_any]
              by_cases c2 : bhd (look fs) q0 st ∈ F
              · rw [decide_eq_true c2]
                refine iteF ⟨_, _, F, rs, rfl, S4.trans s5, eL5, rF5, ei, gF, fun r hr => ?_⟩
                rw [u1, if_pos ⟨c1, hl2⟩] at hr
                exact (List.mem_append.mp hr).elim (dn r) fun y => List.mem_singleton.mp y ▸ c2
              · rw [decide_eq_false c2]
                have iF : i < F.length := (List.getElem?_eq_some_iff.mp gF).1
                have lFU := nodup_le ei.nd ei.sub
                have lr := Paired.length rF5
                have := iu.few
                refine iteT ⟨.ref Lp, rfl, .inl ⟨rfl, _, .inl (.inl eL5)⟩, .ref r, rfl, Lp, rs, .ref r, rfl, rfl, eL5, small (by omega), ?_⟩
                have kt : ∀ b xs, G5 b = some (.tup xs) → (upd G5 Lp (.lst (rs ++ [.ref r]))) b = some (.tup xs) := fun b xs e => (upd_ne (ne_of e eL5 fun y => by cases y)).trans e
                obtain ⟨p0, hp0, rp0⟩ := ei.re q0 (List.mem_of_getElem? gF)
                refine ⟨_, _, F ++ [bhd (look fs) q0 st], rs ++ [.ref r], rfl, same_set nLpH (S4.trans s5), upd_same, Paired.snoc (RowsP.ext kt rF5) (rr.ext kt), ei.add (by omega) bU ⟨p0, hp0, .step rp0 mst c1 hl2⟩ c2, by rw [List.getElem?_append_left iF]; exact gF, fun r hr => ?_⟩
                rw [u1, if_pos ⟨c1, hl2⟩] at hr
                exact (List.mem_append.mp hr).elim (fun y => List.mem_append_left _ (dn r y)) fun y => List.mem_append_right _ y
          · rw [decide_eq_false (show ¬ V.int st.1 = V.int q0.1 from fun y => c1 (V.int.inj y))]
            exact iteF ⟨_, _, F, rs, rfl, S4, eL4, rF, ei, gF, idle fun y => c1 y.1⟩
        · obtain ⟨y6, y7, F, rs, rfl, S4, eL4, rF, ei, gF, dn⟩ := hP
          have la : (as.map V.ref).length = ss.length := by rw [List.length_map]; exact Paired.length hst
          rw [la, List.take_length] at dn
          refine ⟨_, _, _, F, rs, rfl, S4, eL4, rF, ei.nd, ei.sub, ei.re, ei.base, fun j hj q hq r hr => ?_⟩
          by_cases e : j = i
          · rw [e, gF] at hq; cases hq
            exact dn r hr
          · exact ei.cl j (by omega) q hq r hr
      · rw [decide_eq_false (show ¬ (i : Int) < (rs.length : Int) by omega)]
        refine iteF ⟨_, _, _, F, rs, rfl, S3, eL3, rF, ei.nd, ei.sub, ei.re, ei.base, fun j hj q hq r hr => ?_⟩
        have := (List.getElem?_eq_some_iff.mp hq).1
        exact ei.cl j (by omega) q hq r hr
    · obtain ⟨y5, y6, y7, F, rs, rfl, S3, eL3, rF, ei⟩ := hP
      have lFU := nodup_le ei.nd ei.sub
      have := iu.few
      obtain ⟨bs2, c1, c2, c3⟩ := rows_zip rF
      refine ⟨.ref Lp, rfl, ?_⟩
      refine tNil_use ?_
      refine ⟨Lp, bs2, rfl, by rw [c1]; exact .inl (.inl eL3), c3, fun bs3 r pm3 up3 nr => ?_⟩
      have sr := same_upd (o := .lst (bs3.map (·.1))) nr
      have pd3 : (bs3.map (·.2)).Perm F := by have := pm3.map (·.2); rwa [c2] at this
      refine q _ r _ (bs3.map (·.2)) (S3.trans sr) (S3.free nr) upd_same ((rows_unzip fun b hb => c3 b (pm3.subset hb)).ext fun _ _ z => sr _ _ z) up3 (pd3.symm.nodup ei.nd) fun x => pd3.mem_iff.trans (ei.done (by omega) x)

end
end Kn

set_option Elab.async false
set_option linter.all false
set_option maxRecDepth 100000
set_option maxHeartbeats 4000000
namespace Kn
open PySem PySem.Spec PyProof.Rows L2
open C8 (Cal pe_c pe_gc Mak pe_mk)
section
variable {P : Program} {w : World} {K : PySem.W.Frag} {mg : Str → Option Value} {base : Heap}





theorem sees_take {ss : List KnA.Stp} {lf lw : Lk} {z : Str} {d r : KnA.Dat} {j : Nat} {st : KnA.Stp} (h : ss[j]? = some st) : Sees (ss.take (j + 1)) lf lw z d r ↔ Sees (ss.take j) lf lw z d r ∨ (st.1 = d.1 ∧ lw st.2.1 = some z ∧ r = bhd lf d st) := by
  unfold Sees
  rw [take_more h]
  constructor
  · rintro ⟨x, hx, a⟩
    rcases List.mem_append.mp hx with hx | hx
    · exact .inl ⟨x, hx, a⟩
    · rw [List.mem_singleton.mp hx] at a; exact .inr a
  · rintro (⟨x, hx, a⟩ | a)
    · exact ⟨x, List.mem_append_left _ hx, a⟩
    · exact ⟨st, List.mem_append_right _ (List.mem_singleton.mpr rfl), a⟩
def sp__law_later {P : Program} {w : World} (_ : PySem.W.Frag) : Sp := fun vs H Q _ => ∃ (p l td sd : Addr) (z : Str) (rs : List V) (ds U : List KnA.Dat) (as : List Addr) (ss : List KnA.Stp) (fs tb : List (Str × Str)), vs = [.ref p, .ref l, .ref td, .ref sd, .str z] ∧ H p = some (.lst rs) ∧ RowsP H rs ds ∧ ds.length ≤ 60 ∧ H l = some (.lst (as.map V.ref)) ∧ Stps H as ss ∧ ss.length ≤ 80 ∧ H td = some (.dK (fkv fs)) ∧ H sd = some (.dK (fkv tb)) ∧ (∀ d ∈ ds, d ∈ U) ∧ InU ss (look fs) U ∧
  ∀ (H' : Hp) (r : Addr) (rs' : List V) (ds' : List KnA.Dat), Same H H' → H r = none → H' r = some (.lst rs') → RowsP H' rs' ds' → ds'.Pairwise (fun p q => KnA.rowLe p q = true) → ds'.Nodup → (∀ q, q ∈ ds' ↔ nextE ss (look fs) (look tb) z (· ∈ ds) q) → Q (.ref r) H'
theorem ok__law_later {f : Addr} {C D S : Addr} {fd : FuncData} (T : Txt K mg C D S) (F : Fun K "_law_later" "_law_later" s__law_later f fd) (c__law_pair_behind : Cal P w K mg base 1 "_law_pair_behind" (sp__law_pair_behind K) []) (c__law_estimate : Cal P w K mg base 2 "_law_estimate" (sp__law_estimate (P := P) (w := w) K) []) : FnOk P w K mg base CX0 3 f fd ["_law_pairs", "_law_steps", "_law_table", "_law_sights_here", "_law_sight"] (sp__law_later (P := P) (w := w) K) := by
  have nd := sc__law_later.nd
  refine F.ok sc__law_later (fun vs H Q E h => ?_) (fun cdv A outer s H vs Q E hr h => ?_)
  · obtain ⟨p, l, td, sd, z, rs, ds, U, as, ss, fs, tb, rfl, _⟩ := h
    rfl
  · obtain ⟨p, l, td, sd, z, rs, ds, U, as, ss, fs, tb, rfl, hp, rows, lds, hl, hst, lss, htd, hsd, inU, iu, q⟩ := h
    refine ⟨_, (pss_cons (ps_set (i := 5) nd rfl (.inl rfl) (pe_lst pa_nil))
      (pss_cons (ps_for PassesOwn.never rfl (pi_list (pv 0)) (pg_name (i := 6) nd rfl (.inl rfl)) (pss_one (ps_for PassesOwn.never rfl (pi_list (pv 1)) (pg_name (i := 7) nd rfl (.inl rfl)) (pss_one (ps_if (PW.pt (pw_and (pt_cmpR op_eq (pe_ix (r := rIxT K) ix_tup (pv 7) pe_int (fun _ _ => rfl)) (pe_ix (r := rIxT K) ix_tup (pv 6) pe_int (fun _ _ => rfl)) (nomark _)) (pw_and (pt_cmp (pc_din (hu_of hr) (pe_ix (r := rIxT K) ix_tup (pv 7) pe_int (fun _ _ => rfl)) (pv 3))) (pw_and1 (pt_cmpR op_eq (pe_dget (hu_of hr) (pv 3) (pe_ix (r := rIxT K) ix_tup (pv 7) pe_int (fun _ _ => rfl)) (fun _ _ => rfl)) (pv 4) (nomark _)))))) (pss_one (ps_expr (pe_bm PySem.F.plainAttrs_list PySem.F.slot_list_append PySem.F.type_list_append mt_append (pv 5) (pa_cons (pe_c c__law_pair_behind hr (by omega) (by rfl) (pa_cons (pv 6) (pa_cons (pv 7) (pa_cons (pv 2) pa_nil)))) pa_nil)))) pss_nil)))))
      (pss_one (ps_ret (pe_c c__law_estimate hr (by omega) (by rfl) (pa_cons (pv 5) (pa_cons (pv 1) (pa_cons (pv 2) (pa_cons (pv 3) pa_nil))))))))), ?_⟩
    have lrs := Paired.length rows
    refine ⟨szl rfl, fun L nL => ?_⟩
    have sL := same_upd (o := .lst []) nL
    have eL : (upd H L (.lst [])) L = some (.lst []) := upd_same
    refine setn_use rfl ?_
    generalize upd H L (.lst []) = H1 at sL eL ⊢
    refine ⟨.ref p, rfl, p, rfl, ⟨_, .inl (.inl (sL _ _ hp))⟩, ?_⟩
    refine for_list (K := K) (a := p) (xs := rs) (fun i σ G => ∃ (y6 y7 : Option V) (es : List KnA.Dat) (us : List V), σ = [some (.ref p), some (.ref l), some (.ref td), some (.ref sd), some (.str z), some (.ref L), y6, y7] ∧ Same H G ∧ G L = some (.lst us) ∧ RowsP G us es ∧ es.length ≤ 80 * i ∧ ∀ r, r ∈ es ↔ ∃ d ∈ ds.take i, Sees ss (look fs) (look tb) z d r)
      ⟨none, none, [], [], rfl, sL, eL, .nil, Nat.zero_le _, fun r => ⟨fun h => (nomatch h), fun ⟨d, hd, _⟩ => by rw [List.take_zero] at hd; cases hd⟩⟩ (fun i σ G _ hP => .inl (.inl (hP.choose_spec.choose_spec.choose_spec.choose_spec.2.1 _ _ hp))) (fun i x σ G hx hP => ?_) (fun σ G hP => ?_)
    · obtain ⟨y6, y7, es, us, rfl, S1, eL1, re, le, me⟩ := hP
      obtain ⟨d, hd, rx⟩ := paired_get rows hx
      have hi : i < ds.length := (List.getElem?_eq_some_iff.mp hd).1
      have dU := inU d (List.mem_of_getElem? hd)
      obtain ⟨wd, ld, nmd⟩ := iu.ok d dU
      obtain ⟨c, ft, rfl, hc0, hft0⟩ := rx
      refine setn_use rfl ?_
      refine ⟨.ref l, rfl, l, rfl, ⟨_, .inl (.inl (S1 _ _ hl))⟩, ?_⟩
      refine for_list (K := K) (a := l) (xs := as.map V.ref) (fun j σ G => ∃ (y7 : Option V) (es : List KnA.Dat) (us : List V), σ = [some (.ref p), some (.ref l), some (.ref td), some (.ref sd), some (.str z), some (.ref L), some (.ref c), y7] ∧ Same H G ∧ G L = some (.lst us) ∧ RowsP G us es ∧ es.length ≤ 80 * i + j ∧ ∀ r, r ∈ es ↔ (∃ d ∈ ds.take i, Sees ss (look fs) (look tb) z d r) ∨ Sees (ss.take j) (look fs) (look tb) z d r)
        ⟨y7, es, us, rfl, S1, eL1, re, le, fun r => (me r).trans ⟨.inl, fun h => h.resolve_right fun ⟨x, hx, _⟩ => by rw [List.take_zero] at hx; cases hx⟩⟩ (fun j σ G _ hP => .inl (.inl (hP.choose_spec.choose_spec.choose_spec.2.1 _ _ hl))) (fun j x σ G hx hP => ?_) (fun σ G hP => ?_)
      · obtain ⟨y7, es, us, rfl, S2, eL2, re, le, me⟩ := hP
        obtain ⟨ai, st, rfl, gi, gst, hai0⟩ := ref_get hst hx
        have hai := S2 _ _ hai0
        have hc := S2 _ _ hc0
        have hj : j < ss.length := (List.getElem?_eq_some_iff.mp gst).1
        have idle : ¬ (st.1 = d.1 ∧ look tb st.2.1 = some z) → ∃ (y7 : Option V) (es : List KnA.Dat) (us : List V), [some (V.ref p), some (.ref l), some (.ref td), some (.ref sd), some (.str z), some (.ref L), some (.ref c), some (.ref ai)] = [some (.ref p), some (.ref l), some (.ref td), some (.ref sd), some (.str z), some (.ref L), some (.ref c), y7] ∧ Same H G ∧ G L = some (.lst us) ∧ RowsP G us es ∧ es.length ≤ 80 * i + (j + 1) ∧ ∀ r, r ∈ es ↔ (∃ d ∈ ds.take i, Sees ss (look fs) (look tb) z d r) ∨ Sees (ss.take (j + 1)) (look fs) (look tb) z d r := fun n =>
          ⟨_, es, us, rfl, S2, eL2, re, by omega, fun r => (me r).trans (by rw [sees_take gst]; exact ⟨fun h => h.imp id .inl, fun h => h.imp id fun h => h.resolve_right fun h => n ⟨h.1, h.2.1⟩⟩)⟩
        refine setn_use rfl ?_
        refine ⟨.ref ai, rfl, ai, [.int st.1, .str st.2.1, .int st.2.2], 0, .int st.1, rfl, rfl, .inl (.inl hai), atI_nat (j := 0) rfl, .ref c, rfl, c, _, 0, .int d.1, rfl, rfl, .inl (.inl hc), atI_nat (j := 0) rfl, rfl, _, rfl, ?_⟩
        by_cases c1 : st.1 = d.1
        · rw [decide_eq_true (show V.int st.1 = V.int d.1 by rw [c1])]
          have dg : DGet G sd (.str st.2.1) ((look tb st.2.1).map V.str) := by
            have := DGet.k (k := .inr st.2.1) (S2 _ _ hsd)
            rwa [look_val] at this
          refine iteT ⟨.ref ai, rfl, ai, [.int st.1, .str st.2.1, .int st.2.2], 1, .str st.2.1, rfl, rfl, .inl (.inl hai), atI_nat (j := 1) rfl, .ref sd, rfl, sd, _, rfl, dg, _, rfl, ?_⟩
          cases hl2 : look tb st.2.1 with
          | none => exact iteF (idle fun y => by rw [hl2] at y; cases y.2)
          | some z' =>
            rw [hl2] at dg
            refine iteT ⟨.ref sd, rfl, .ref ai, rfl, ai, [.int st.1, .str st.2.1, .int st.2.2], 1, .str st.2.1, rfl, rfl, .inl (.inl hai), atI_nat (j := 1) rfl, sd, .str z', rfl, dg, .str z, rfl, rfl, _, rfl, ?_⟩
            by_cases c2 : z' = z
            · subst c2
              rw [decide_eq_true rfl]
              refine iteT ⟨.ref L, rfl, .inl ⟨rfl, _, .inl (.inl eL2)⟩, .ref c, rfl, .ref ai, rfl, .ref td, rfl, c, ai, td, d, st, fs, rfl, ⟨c, ft, rfl, hc, S2 _ _ hft0⟩, hai, S2 _ _ htd, wd, ld, fun G3 r s3 rr => ?_⟩
              have lu := Paired.length re
              have eL3 := s3 _ _ eL2
              refine ⟨L, us, .ref r, rfl, rfl, eL3, small (by omega), ?_⟩
              have kt : ∀ b xs, G3 b = some (.tup xs) → (upd G3 L (.lst (us ++ [.ref r]))) b = some (.tup xs) := fun b xs e => (upd_ne (ne_of e eL3 fun y => by cases y)).trans e
              refine ⟨_, es ++ [bhd (look fs) d st], us ++ [.ref r], rfl, same_set nL (S2.trans s3), upd_same, Paired.snoc (RowsP.ext kt (re.ext fun _ _ z => s3 _ _ z)) (rr.ext kt), by rw [List.length_append]; show es.length + 1 ≤ _; omega, fun r' => ?_⟩
              rw [List.mem_append, me r', List.mem_singleton, sees_take gst, or_assoc]
              exact or_congr_right (or_congr_right ⟨fun h => ⟨c1, hl2, h⟩, fun h => h.2.2⟩)
            · rw [decide_eq_false (show ¬ V.str z' = V.str z from fun y => c2 (V.str.inj y))]
              exact iteF (idle fun y => by rw [hl2] at y; exact c2 (Option.some.inj y.2))
        · rw [decide_eq_false (show ¬ V.int st.1 = V.int d.1 from fun y => c1 (V.int.inj y))]
          exact iteF (idle fun y => c1 y.1)
      · obtain ⟨y7, es, us, rfl, S2, eL2, re, le, me⟩ := hP
        have la : (as.map V.ref).length = ss.length := by rw [List.length_map]; exact Paired.length hst
        rw [la] at le me
        rw [List.take_length] at me
        refine ⟨_, _, es, us, rfl, S2, eL2, re, by omega, fun r => (me r).trans ?_⟩
        rw [take_more hd]
        constructor
        · rintro (⟨d', h1, h2⟩ | h)
          · exact ⟨d', List.mem_append_left _ h1, h2⟩
          · exact ⟨d, List.mem_append_right _ (List.mem_singleton.mpr rfl), h⟩
        · rintro ⟨d', h1, h2⟩
          rcases List.mem_append.mp h1 with h1 | h1
          · exact .inl ⟨d', h1, h2⟩
          · rw [List.mem_singleton.mp h1] at h2; exact .inr h2
    · obtain ⟨y6, y7, es, us, rfl, S1, eL1, re, le, me⟩ := hP
      rw [lrs, List.take_length] at me
      have eU : ∀ r ∈ es, r ∈ U := fun r hr => by
        obtain ⟨d, hd, x, hx, e, _, rfl⟩ := (me r).mp hr
        exact iu.step d (inU d hd) x hx e
      refine ⟨.ref L, rfl, .ref l, rfl, .ref td, rfl, .ref sd, rfl, L, l, td, sd, us, es, U, as, ss, fs, tb, rfl, eL1, re, S1 _ _ hl, hst.mono S1, S1 _ _ htd, S1 _ _ hsd, eU, iu, fun G2 r rs' ds' s2 nr er rr up ndd mem => ?_⟩
      refine q G2 r rs' ds' (S1.trans s2) (S1.free nr) er rr up ndd fun x => (mem x).trans ?_
      constructor
      · rintro ⟨r0, h0, h1⟩
        obtain ⟨d, hd, h2⟩ := (me r0).mp h0
        exact ⟨d, r0, hd, h2, h1⟩
      · rintro ⟨d, r0, hd, h2, h1⟩
        exact ⟨r0, (me r0).mpr ⟨d, hd, h2⟩, h1⟩

end
end Kn

set_option Elab.async false
set_option linter.all false
set_option maxRecDepth 100000
set_option maxHeartbeats 4000000
namespace Kn
open PySem PySem.Spec PyProof.Rows L2
open C8 (Cal pe_c pe_gc Mak pe_mk)
section
variable {P : Program} {w : World} {K : PySem.W.Frag} {mg : Str → Option Value} {base : Heap}





def itemsOf : Option HO → Option (List V)
  | some (.lst xs) => some xs
  | some (.tup xs) => some xs
  | _ => none
def rowOf (H : Hp) : V → Option (List V)
  | .ref a => itemsOf (H a)
  | _ => none
/-- a value whose items are values, where it is a tuple -/
def Val2 (K : PySem.W.Frag) (H : Hp) (v : V) : Prop := Val K H v ∧ ∀ a xs, v = .ref a → H a = some (.tup xs) → ∀ x ∈ xs, Val K H x
def triple : V → V → V → Option KnA.Stp
  | .int s, .str x, .int t => if (stateB (.int s) && (nameB (.str x) && stateB (.int t))) = true then some (s, x, t) else none
  | _, _, _ => none
def tupOf : Option HO → Option KnA.Stp
  | some (.tup [x, y, z]) => triple x y z
  | _ => none
def stepOf (H : Hp) : V → Option KnA.Stp
  | .ref a => tupOf (H a)
  | _ => none
theorem rowOf_mono {K : PySem.W.Frag} {H G : Hp} {row : V} (h : Val K H row) (s : Same H G) : rowOf G row = rowOf H row := by
  cases h with
  | lst e => show itemsOf _ = itemsOf _; rw [e, s _ _ e]
  | tup e => show itemsOf _ = itemsOf _; rw [e, s _ _ e]
  | dK e => show itemsOf _ = itemsOf _; rw [e, s _ _ e]
  | _ => rfl
/-! ### things, with what their items are -/
theorem Val.there {K : PySem.W.Frag} {H G : Hp} {c : Addr} {o : HO} (h : Val K H (.ref c)) (s : Same H G) (e : G c = some o) : H c = some o := by
  cases h with
  | lst e' => rw [s _ _ e'] at e; rw [e', e]
  | tup e' => rw [s _ _ e'] at e; rw [e', e]
  | dK e' => rw [s _ _ e'] at e; rw [e', e]
structure Thing (K : PySem.W.Frag) (H : Hp) (v : V) : Prop where
  hv : Val K H v
  hz : ∀ z, v = .str z → z.cps.size ≤ 13
  hr : ∀ xs, rowOf H v = some xs → xs.length ≤ 1 ∧ ∀ x ∈ xs, Val K H x ∧ ∀ a ys, x = .ref a → H a ≠ some (.tup ys)
theorem Thing.mono {K : PySem.W.Frag} {H G : Hp} {v : V} (h : Thing K H v) (s : Same H G) : Thing K G v := by
  refine ⟨h.hv.mono s, h.hz, fun xs e => ?_⟩
  rw [rowOf_mono h.hv s] at e
  obtain ⟨l, hx⟩ := h.hr xs e
  refine ⟨l, fun x q => ⟨(hx x q).1.mono s, fun a ys ea ga => ?_⟩⟩
  subst ea
  exact (hx _ q).2 a ys rfl ((hx _ q).1.there s ga)
theorem Thing.val2 {K : PySem.W.Frag} {H : Hp} {v : V} (h : Thing K H v) : Val2 K H v :=
  ⟨h.hv, fun a xs e ha x hx => ((h.hr xs (by subst e; show itemsOf (H a) = _; rw [ha]; rfl)).2 x hx).1⟩
theorem Thing.items {K : PySem.W.Frag} {H : Hp} {v : V} (h : Thing K H v) {xs : List V} (e : rowOf H v = some xs) : xs.length ≤ 1 ∧ (∀ x ∈ xs, Val2 K H x) ∧ ∀ x ∈ xs, stepOf H x = none := by
  obtain ⟨l, hx⟩ := h.hr xs e
  refine ⟨l, fun x q => ⟨(hx x q).1, fun a ys ea ga => ((hx x q).2 a ys ea ga).elim⟩, fun x q => ?_⟩
  obtain ⟨v1, v2⟩ := hx x q
  cases x with
  | ref a =>
    show tupOf (H a) = none
    cases g : H a with
    | none => rfl
    | some o =>
      cases o with
      | tup ys => exact (v2 a ys rfl g).elim
      | _ => rfl
  | _ => rfl
theorem Thing.flat {K : PySem.W.Frag} {H : Hp} {v : V} (h : Val K H v) (z : ∀ z, v = .str z → z.cps.size ≤ 13) (r : rowOf H v = none) : Thing K H v := ⟨h, z, fun xs e => by rw [r] at e; cases e⟩
/-- the deep list -/
structure DeepAt (H : Hp) (p : Addr) (xs : List V) : Prop where
  at_ : H p = some (.lst xs)
  l : xs.length ≤ 1
  it : ∀ x ∈ xs, ∃ c ys, x = V.ref c ∧ H c = some (.lst ys)
theorem DeepAt.mono {H G : Hp} {p : Addr} {xs : List V} (h : DeepAt H p xs) (s : Same H G) : DeepAt G p xs := ⟨s _ _ h.at_, h.l, fun x hx => by
  obtain ⟨c, ys, e, g⟩ := h.it x hx
  exact ⟨c, ys, e, s _ _ g⟩⟩
theorem DeepAt.setL {H : Hp} {p L : Addr} {xs zs : List V} (h : DeepAt H p xs) (n : p ≠ L) : DeepAt (upd H L (.lst zs)) p xs := ⟨(upd_ne n).trans h.at_, h.l, fun x hx => by
  obtain ⟨c, ys, e, g⟩ := h.it x hx
  by_cases q : c = L
  · exact ⟨c, zs, e, by rw [q, upd_same]⟩
  · exact ⟨c, ys, e, (upd_ne q).trans g⟩⟩
theorem DeepAt.thing {K : PySem.W.Frag} {H : Hp} {p : Addr} {xs : List V} (h : DeepAt H p xs) : Thing K H (.ref p) := ⟨.lst h.at_, fun _ e => (by cases e), fun ys e => by
  have e' : itemsOf (H p) = some ys := e
  rw [h.at_] at e'
  cases e'
  refine ⟨h.l, fun x hx => ?_⟩
  obtain ⟨c, ys, rfl, g⟩ := h.it x hx
  exact ⟨.lst g, fun a zs ea ga => by cases ea; rw [g] at ga; cases ga⟩⟩
def sp__law_deep (_ : PySem.W.Frag) : Sp := fun vs H Q _ => ∃ m : Int, vs = [.int m] ∧ 0 ≤ m ∧ m < 100000 ∧ ∀ H' p xs, Same H H' → H p = none → DeepAt H' p xs → Q (.ref p) H'
def sp__law_thing (K : PySem.W.Frag) : Sp := fun vs H Q _ => ∃ d : Int, vs = [.int d] ∧ ∀ v H', Same H H' → Thing K H' v → Q v H'
theorem ok__law_deep {f : Addr} {C D S : Addr} {fd : FuncData} (T : Txt K mg C D S) (F : Fun K "_law_deep" "_law_deep" s__law_deep f fd)  : FnOk P w K mg base CX0 1 f fd ["_law_many"] (sp__law_deep K) := by
  have nd := sc__law_deep.nd
  refine F.ok sc__law_deep (fun vs H Q E h => ?_) (fun cdv A outer s H vs Q E hr h => ?_)
  · obtain ⟨m, rfl, _⟩ := h
    rfl
  · obtain ⟨m, rfl, m0, m1, q⟩ := h
    refine ⟨_, (pss_cons (ps_set (i := 1) nd rfl (.inl rfl) (pe_lst pa_nil))
      (pss_cons (ps_for PassesOwn.never rfl (pi_range1 (by rfl) T.m_range (pa_cons (pv 0) pa_nil)) (pg_name (i := 2) nd rfl (.inl rfl)) (pss_one (ps_set (i := 1) nd rfl (.inl rfl) (pe_lst (pa_cons (pv 1) pa_nil)))))
      (pss_one (ps_ret (pv 1))))), ?_⟩
    refine ⟨Nat.zero_le _, fun R nR => ⟨.int m, rfl, m, rfl, by omega, by omega, ?_⟩⟩
    refine for_range (lo := 0) (fun i σ H' => ∃ (p : Addr) (y : Option V) (xs : List V), σ = [some (.int m), some (.ref p), y] ∧ Same H H' ∧ H p = none ∧ DeepAt H' p xs)
      ⟨R, none, [], rfl, same_upd nR, nR, upd_same, Nat.zero_le _, fun x hx => nomatch hx⟩ (fun i σ H' hi hP => ?_) (fun σ H' hP => ?_)
    · obtain ⟨p, y, xs, rfl, sm, np, ep⟩ := hP
      exact ⟨.ref p, rfl, szl rfl, fun p2 n2 => ⟨p2, _, _, rfl, sm.trans (same_upd n2), sm.free n2, upd_same, Nat.le_refl _, fun x hx => ⟨p, xs, List.mem_singleton.mp hx, same_upd n2 _ _ ep.at_⟩⟩⟩
    · obtain ⟨p, y, xs, rfl, sm, np, ep⟩ := hP
      exact ⟨.ref p, rfl, q H' p xs sm np ep⟩
theorem thing_at {K : PySem.W.Frag} {H : Hp} {xs : List V} (h : ∀ v ∈ xs, Thing K H v) {m : Int} {n : Nat} (hn : n = xs.length) (h0 : 0 < n) : ∃ v, atI xs (m % (n : Int)) = some v ∧ Thing K H v := by
  have l : 0 ≤ m % (n : Int) := Int.emod_nonneg _ (by omega)
  have u : m % (n : Int) < (n : Int) := Int.emod_lt_of_pos _ (by omega)
  obtain ⟨j, hj⟩ : ∃ j : Nat, m % (n : Int) = (j : Int) := ⟨(m % (n : Int)).toNat, by omega⟩
  have hj2 : j < xs.length := by omega
  exact ⟨xs[j], by rw [hj]; exact atI_nat (List.getElem?_eq_getElem hj2), h _ (List.getElem_mem hj2)⟩
def things0 (p1 p2 p3 p4 p5 : Addr) : List V := [.non, .bl true, .bl false, .int (-1), .int 100, .int (10 ^ (40 : Int).toNat), .str "", .str "a b", .str "Abc", .str "abcdefghijklm", .ref p1, .ref p2, .ref p3, .ref p4, .ref p5, .str "a\n"]
theorem things_all {H5 : Hp} {p1 p2 p3 p4 p5 : Addr} (v1 : Thing K H5 (.ref p1)) (v2 : Thing K H5 (.ref p2)) (v3 : Thing K H5 (.ref p3)) (v4 : Thing K H5 (.ref p4)) (v5 : Thing K H5 (.ref p5)) : ∀ v ∈ things0 p1 p2 p3 p4 p5, Thing K H5 v := by
  have st : ∀ z : Str, z.cps.size ≤ 13 → Thing K H5 (.str z) := fun z hz => .flat (.str z (by omega)) (fun y e => by cases e; exact hz) rfl
  intro v hv
  simp only [things0, List.mem_cons, List.not_mem_nil, or_false] at hv
  rcases hv with rfl | rfl | rfl | rfl | rfl | rfl | rfl | rfl | rfl | rfl | rfl | rfl | rfl | rfl | rfl | rfl
  · exact .flat .non (fun _ e => by cases e) rfl
  · exact .flat (.bl _) (fun _ e => by cases e) rfl
  · exact .flat (.bl _) (fun _ e => by cases e) rfl
  · exact .flat (.int _) (fun _ e => by cases e) rfl
  · exact .flat (.int _) (fun _ e => by cases e) rfl
  · exact .flat (.int _) (fun _ e => by cases e) rfl
  · exact st _ (by decide)
  · exact st _ (by decide)
  · exact st _ (by decide)
  · exact st _ (by decide)
  · exact v1
  · exact v2
  · exact v3
  · exact v4
  · exact v5
  · exact st _ (by decide)
theorem thing_row {H : Hp} {p : Addr} {xs : List V} {b : Bool} (e : H p = some (rowO b xs)) (l : xs.length ≤ 1) (hx : ∀ x ∈ xs, ∃ z : Str, x = .str z ∧ z.cps.size ≤ 100) : Thing K H (.ref p) := by
  refine ⟨?_, fun _ e => (by cases e), fun ys e' => ?_⟩
  · cases b with
    | true => exact .lst e
    | false => exact .tup e
  · have e2 : itemsOf (H p) = some ys := e'
    rw [e] at e2
    have e3 : xs = ys := by cases b <;> exact Option.some.inj e2
    subst e3
    refine ⟨l, fun x hq => ?_⟩
    obtain ⟨z, rfl, hz⟩ := hx x hq
    exact ⟨.str z hz, fun a ys ea => (by cases ea)⟩
theorem ok__law_thing {f : Addr} {C D S : Addr} {fd : FuncData} (T : Txt K mg C D S) (F : Fun K "_law_thing" "_law_thing" s__law_thing f fd) (c__law_deep : Cal P w K mg base 1 "_law_deep" (sp__law_deep K) []) : FnOk P w K mg base CX0 2 f fd ["_law_digit"] (sp__law_thing K) := by
  have nd := sc__law_thing.nd
  refine F.ok sc__law_thing (fun vs H Q E h => ?_) (fun cdv A outer s H vs Q E hr h => ?_)
  · obtain ⟨m, rfl, _⟩ := h
    rfl
  · obtain ⟨m, rfl, q⟩ := h
    refine ⟨_, (pss_cons (ps_set (i := 1) nd rfl (.inl rfl) (pe_lst (pa_cons pe_non (pa_cons pe_bl (pa_cons pe_bl (pa_cons (pe_un un_neg pe_int) (pa_cons pe_int (pa_cons (pe_op op_pow pe_int pe_int) (pa_cons pe_str (pa_cons pe_str (pa_cons pe_str pa_nil)))))))))))
      (pss_cons (ps_set (i := 1) nd rfl (.inl rfl) (pe_op op_cat (pv 1) (pe_lst (pa_cons pe_str (pa_cons (pe_lst pa_nil) (pa_cons pe_dnewK (pa_cons (pe_tup pa_nil) (pa_cons (pe_lst (pa_cons pe_str pa_nil)) (pa_cons (pe_tup (pa_cons pe_str pa_nil)) (pa_cons pe_str pa_nil))))))))))
      (pss_cons (ps_expr (pe_bm PySem.F.plainAttrs_list PySem.F.slot_list_append PySem.F.type_list_append mt_append (pv 1) (pa_cons (pe_c c__law_deep hr (by omega) (by rfl) (pa_cons pe_int pa_nil)) pa_nil)))
      (pss_cons (ps_expr (pe_bm PySem.F.plainAttrs_list PySem.F.slot_list_append PySem.F.type_list_append mt_append (pv 1) (pa_cons (pe_disp (pps_cons pe_str pe_int pps_nil) (by rfl) (by rfl) (fun z => by cases z) (by decide)) pa_nil)))
      (pss_one (ps_ret (pe_ix (r := rIxL K) ix_list (pv 1) (pe_op op_mod (pe_callTy call_int1 (by rfl) T.m_int (by decide +kernel) (pa_cons (pv 0) pa_nil)) (pe_callB call_len (by rfl) T.m_len (by decide +kernel) (pa_cons (pv 1) pa_nil))) (fun _ _ => rfl)))))))), ?_⟩
    refine ⟨1, rfl, 10, 40, rfl, rfl, ⟨by decide, by decide, by decide⟩, szl rfl, ?_⟩
    intro p0 n0
    show gName 1 (.ref p0) _ (upd H p0 (.lst [.non, .bl true, .bl false, .int (-1), .int 100, .int (10 ^ (40 : Int).toNat), .str "", .str "a b", .str "Abc"])) _
    have s0 := same_upd (o := .lst [.non, .bl true, .bl false, .int (-1), .int 100, .int (10 ^ (40 : Int).toNat), .str "", .str "a b", .str "Abc"]) n0
    have g0 : (upd H p0 (.lst [.non, .bl true, .bl false, .int (-1), .int 100, .int (10 ^ (40 : Int).toNat), .str "", .str "a b", .str "Abc"])) p0 = some (.lst [.non, .bl true, .bl false, .int (-1), .int 100, .int (10 ^ (40 : Int).toNat), .str "", .str "a b", .str "Abc"]) := upd_same
    generalize upd H p0 (.lst [.non, .bl true, .bl false, .int (-1), .int 100, .int (10 ^ (40 : Int).toNat), .str "", .str "a b", .str "Abc"]) = H0 at s0 g0 ⊢
    refine ⟨.ref p0, rfl, szl rfl, fun p1 n1 => fun p2 n2 => ⟨szl rfl, fun p3 n3 => ⟨szl rfl, fun p4 n4 => ⟨szl rfl, fun p5 n5 => ⟨szl rfl, fun p6 n6 => ?_⟩⟩⟩⟩⟩
    have s1 := same_upd (o := .lst []) n1
    have s2 := same_upd (o := .dK []) n2
    have s3 := same_upd (o := .tup []) n3
    have s4 := same_upd (o := .lst [.str "a"]) n4
    have s5 := same_upd (o := .tup [.str "a"]) n5
    have one : ∀ x ∈ [V.str "a"], ∃ z : Str, x = .str z ∧ z.cps.size ≤ 100 := fun x hx => ⟨"a", List.mem_singleton.mp hx, by decide⟩
    have v1 : Thing K _ (.ref p1) := (((((thing_row (b := true) (xs := []) (H := upd H0 p1 (.lst [])) upd_same (Nat.zero_le _) fun x hx => nomatch hx).mono s2).mono s3).mono s4).mono s5)
    have v2 : Thing K _ (.ref p2) := ((((Thing.flat (K := K) (H := upd (upd H0 p1 (.lst [])) p2 (.dK [])) (.dK upd_same) (fun _ e => by cases e) (by show itemsOf _ = none; rw [upd_same]; rfl)).mono s3).mono s4).mono s5)
    have v3 : Thing K _ (.ref p3) := (((thing_row (b := false) (xs := []) (H := upd (upd (upd H0 p1 (.lst [])) p2 (.dK [])) p3 (.tup [])) upd_same (Nat.zero_le _) fun x hx => nomatch hx).mono s4).mono s5)
    have v4 : Thing K _ (.ref p4) := ((thing_row (b := true) (xs := [.str "a"]) (H := upd (upd (upd (upd H0 p1 (.lst [])) p2 (.dK [])) p3 (.tup [])) p4 (.lst [.str "a"])) upd_same (Nat.le_refl _) one).mono s5)
    have v5 : Thing K _ (.ref p5) := thing_row (b := false) (xs := [.str "a"]) (H := upd (upd (upd (upd (upd H0 p1 (.lst [])) p2 (.dK [])) p3 (.tup [])) p4 (.lst [.str "a"])) p5 (.tup [.str "a"])) upd_same (Nat.le_refl _) one
    have s05 : Same H0 _ := s1.trans (s2.trans (s3.trans (s4.trans s5)))
    have s15 : Same H _ := s0.trans s05
    have g5 := s05 _ _ g0
    generalize upd (upd (upd (upd (upd H0 p1 (.lst [])) p2 (.dK [])) p3 (.tup [])) p4 (.lst [.str "a"])) p5 (.tup [.str "a"]) = H5 at n6 s05 s15 g5 v1 v2 v3 v4 v5 ⊢
    have all0 := things_all v1 v2 v3 v4 v5
    have s6 := same_upd (o := .lst [.str "abcdefghijklm", .ref p1, .ref p2, .ref p3, .ref p4, .ref p5, .str "a\n"]) n6
    refine ⟨p0, p6, _, _, rfl, rfl, s6 _ _ g5, upd_same, smallE (by show 9 + 7 ≤ 100000; decide), ?_⟩
    intro L nL
    have nLH := (s15.trans s6).free nL
    have nL5 := s6.free nL
    have sL : Same H5 (upd (upd H5 p6 (.lst [.str "abcdefghijklm", .ref p1, .ref p2, .ref p3, .ref p4, .ref p5, .str "a\n"])) L (.lst (things0 p1 p2 p3 p4 p5))) := s6.trans (same_upd nL)
    have gL : (upd (upd H5 p6 (.lst [.str "abcdefghijklm", .ref p1, .ref p2, .ref p3, .ref p4, .ref p5, .str "a\n"])) L (.lst (things0 p1 p2 p3 p4 p5))) L = some (.lst (things0 p1 p2 p3 p4 p5)) := upd_same
    refine ⟨.ref L, rfl, .inl ⟨rfl, things0 p1 p2 p3 p4 p5, .inl (.inl upd_same)⟩, 1980, rfl, (by decide), (by decide), fun H6 pd xd sd nd6 ed => ?_⟩
    have eL := sd _ _ gL
    have npd : pd ≠ L := fun z => by subst z; exact absurd (nd6.symm.trans gL) (by intro h; cases h)
    have sm6 := sL.trans sd
    have l0 : (things0 p1 p2 p3 p4 p5).length = 16 := rfl
    clear gL
    generalize things0 p1 p2 p3 p4 p5 = xs0 at eL all0 l0
    refine ⟨L, xs0, .ref pd, rfl, rfl, eL, small (by omega), ?_⟩
    have ed7 := ed.setL (zs := xs0 ++ [V.ref pd]) npd
    have sm7 : Same H5 (upd H6 L (.lst (xs0 ++ [V.ref pd]))) := same_set nL5 sm6
    have eL7 : (upd H6 L (.lst (xs0 ++ [V.ref pd]))) L = some (.lst (xs0 ++ [V.ref pd])) := upd_same
    generalize upd H6 L (.lst (xs0 ++ [V.ref pd])) = H7 at ed7 sm7 eL7 ⊢
    -- things.append({'a': 1})
    refine ⟨.ref L, rfl, .inl ⟨rfl, _, .inl (.inl eL7)⟩, fun p8 n8 => ⟨upd_same, [(Sum.inr "a", .int 1)], rfl, (by decide), ?_⟩⟩
    have e8 : upd (upd H7 p8 (.dK [])) p8 (.dK (mergeK [] [(Sum.inr "a", .int 1)])) = upd H7 p8 (.dK (mergeK [] [(Sum.inr "a", .int 1)])) := upd_upd
    rw [e8]
    have s8 := same_upd (o := .dK (mergeK [] [(Sum.inr "a", .int 1)])) n8
    have np8 : p8 ≠ L := fun z => by rw [z, eL7] at n8; cases n8
    refine ⟨L, xs0 ++ [V.ref pd], .ref p8, rfl, rfl, s8 _ _ eL7, small (by rw [List.length_append, l0]; show 16 + 1 ≤ 100000; decide), ?_⟩
    have ed9 := (ed7.mono s8).setL (zs := xs0 ++ [V.ref pd] ++ [V.ref p8]) npd
    have sm9 : Same H5 (upd (upd H7 p8 (.dK (mergeK [] [(Sum.inr "a", .int 1)]))) L (.lst (xs0 ++ [V.ref pd] ++ [V.ref p8]))) := same_set nL5 (sm7.trans s8)
    have eL9 : (upd (upd H7 p8 (.dK (mergeK [] [(Sum.inr "a", .int 1)]))) L (.lst (xs0 ++ [V.ref pd] ++ [V.ref p8]))) L = some (.lst (xs0 ++ [V.ref pd] ++ [V.ref p8])) := upd_same
    have e89 : (upd (upd H7 p8 (.dK (mergeK [] [(Sum.inr "a", .int 1)]))) L (.lst (xs0 ++ [V.ref pd] ++ [V.ref p8]))) p8 = some (.dK (mergeK [] [(Sum.inr "a", .int 1)])) := (upd_ne np8).trans upd_same
    generalize upd (upd H7 p8 (.dK (mergeK [] [(Sum.inr "a", .int 1)]))) L (.lst (xs0 ++ [V.ref pd] ++ [V.ref p8])) = H9 at ed9 sm9 eL9 e89 ⊢
    have all3 : ∀ v ∈ xs0 ++ [V.ref pd] ++ [V.ref p8], Thing K H9 v := fun v hv => by
      rcases List.mem_append.mp hv with hv | hv
      · rcases List.mem_append.mp hv with hv | hv
        · exact (all0 v hv).mono sm9
        · rw [List.mem_singleton.mp hv]; exact ed9.thing
      · rw [List.mem_singleton.mp hv]
        exact .flat (.dK e89) (fun _ e => by cases e) (by show itemsOf (H9 p8) = none; rw [e89]; rfl)
    have l2 : (xs0 ++ [V.ref pd] ++ [V.ref p8]).length = 18 := by rw [List.length_append, List.length_append, l0]; rfl
    generalize xs0 ++ [V.ref pd] ++ [V.ref p8] = xs2 at all3 l2 eL9
    obtain ⟨v, hv, hV⟩ := thing_at all3 (m := m) rfl (by omega)
    exact ⟨.ref L, rfl, .int m, rfl, .inl ⟨m, rfl, .ref L, rfl, .ref L, xs2.length, rfl, .inl ⟨_, .inl (.inl eL9), rfl⟩, m, (xs2.length : Int), rfl, rfl, (show (0 : Int) < (xs2.length : Int) by omega), L, xs2, m % (xs2.length : Int), v, rfl, rfl, .inl (.inl eL9), hv, q v H9 (s15.trans sm9) hV⟩⟩

theorem ok__law_is_name {f : Addr} {C D S : Addr} {fd : FuncData} (T : Txt K mg C D S) (F : Fun K "_law_is_name" "_law_is_name" s__law_is_name f fd)  : FnOk P w K mg base CX0 1 f fd ["_law_thing_here"] (sp__law_is_name K) := by
  have nd := sc__law_is_name.nd
  refine F.ok sc__law_is_name (fun vs H Q E h => ?_) (fun cdv A outer s H vs Q E hr h => ?_)
  · obtain ⟨v, rfl, _⟩ := h
    rfl
  · obtain ⟨v, rfl, hv, q⟩ := h
    refine ⟨_, (pss_cons (ps_if (PW.pt (pw_or (pt_not (pt_val (pe_callB call_isi (by rfl) T.m_isinstance (by decide +kernel) (pa_cons (pv 0) (pa_cons (pe_bltn (v := .ty "str") (u := .type "str") (by rfl) T.m_str (by decide +kernel) rfl) pa_nil))))) (pw_or1 (pt_not (pt_chain op_le op_le pe_int (pe_callB call_len (by rfl) T.m_len (by decide +kernel) (pa_cons (pv 0) pa_nil)) pe_int))))) (pss_one (ps_ret pe_bl)) pss_nil)
      (pss_one (ps_ret (pe_cmpR op_eq (pe_callB call_len (by rfl) T.m_len (by decide +kernel) (pa_cons (pe_lc (own := [("_law_sign", 1)]) (g := gName 1) rfl nd (pi_str (pv 0)) (blkOk_by (N := ["_law_thing_here", "_law_sign"]) (sc := defScope s__law_is_name) (by decide +kernel)) (fun _ _ _ _ _ => (pg_name (i := 1) nd rfl (.inl rfl))) (fun _ _ _ _ _ => (pts_one (pt_cmpR op_notIn_sign (pv 1) pe_str (by with_unfolding_all rfl)))) (fun _ _ _ _ _ => (pv 1))) pa_nil)) pe_int (nomark _))))), ?_⟩
    obtain ⟨t, ht, hs, hi, hb⟩ := hv.ty
    refine ⟨v, rfl, v, .ty "str", t, _, isS v, rfl, .ty _, ht, hs, _, rfl, ?_⟩
    cases e : isS v with
    | false =>
      refine iteT ?_
      have q' := q H (Same.refl H)
      rw [nameB_not e] at q'
      exact q'
    | true =>
      obtain ⟨z, rfl⟩ := isS_str e
      have hz := hv.size
      refine iteF ⟨.str z, rfl, .str z, z.cps.size, rfl, ⟨smallE (show z.cps.size ≤ 100000 by omega), rfl⟩, 1, (z.cps.size : Int), rfl, rfl, _, rfl, ?_⟩
      by_cases a : 1 ≤ z.cps.size
      · rw [decide_eq_true (show (1 : Int) ≤ (z.cps.size : Int) by omega)]
        refine iteT ⟨(z.cps.size : Int), 12, rfl, rfl, _, rfl, ?_⟩
        by_cases b : z.cps.size ≤ 12
        · rw [decide_eq_true (show (z.cps.size : Int) ≤ 12 by omega)]
          refine iteF ⟨.str z, rfl, z, rfl, fun D nD => lc_text (fun i H' => Same H H' ∧ ∃ ys : List V, H' D = some (.lst ys) ∧ ys.length ≤ i ∧ decide (ys.length = 0) = (z.cps.toList.take i).all inL) ⟨same_upd nD, [], upd_same, Nat.le_refl _, rfl⟩ (fun i c H' hc hP => ?_) (fun H' hP => ?_)⟩
          · obtain ⟨sm, ys, eD, hl2, hn⟩ := hP
            have hl : i < z.cps.toList.length := (List.getElem?_eq_some_iff.mp hc).1
            rw [Array.length_toList] at hl
            refine ⟨rfl, .str ⟨#[c]⟩, rfl, c, letters, rfl, rfl, _, rfl, ?_⟩
            have e3 : decide (c ∈ letters.cps.toList) = inL c := rfl
            rw [e3]
            cases e4 : inL c with
            | true =>
              refine iteF ⟨sm, ys, eD, by omega, ?_⟩
              rw [take_more hc, List.all_append, ← hn]
              simp [e4]
            | false =>
              refine iteT ⟨.str ⟨#[c]⟩, rfl, ys, eD, small (by omega), same_set nD sm, ys ++ [.str ⟨#[c]⟩], upd_same, by rw [List.length_append]; exact Nat.succ_le_succ hl2, ?_⟩
              rw [take_more hc, List.all_append]
              simp [e4]
          · obtain ⟨sm, ys, eD, hl2, hn⟩ := hP
            rw [List.take_length] at hn
            refine ⟨.ref D, ys.length, rfl, .inl ⟨ys, .inl (.inl eD), rfl⟩, rfl, ?_⟩
            have q' := q H' sm
            rw [nameB_in a b, ← hn] at q'
            have e5 : decide (V.int (ys.length : Int) = V.int 0) = decide (ys.length = 0) := by
              by_cases y0 : ys.length = 0
              · rw [y0]; rfl
              · rw [decide_eq_false y0, decide_eq_false]
                intro z
                have := V.int.inj z
                omega
            rw [e5]
            exact q'
        · rw [decide_eq_false (show ¬ (z.cps.size : Int) ≤ 12 by omega)]
          refine iteT ?_
          have q' := q H (Same.refl H)
          rw [nameB_out (fun h => b h.2)] at q'
          exact q'
      · rw [decide_eq_false (show ¬ (1 : Int) ≤ (z.cps.size : Int) by omega)]
        refine iteF ?_
        have q' := q H (Same.refl H)
        rw [nameB_out (fun h => a h.1)] at q'
        exact ⟨_, rfl, q'⟩

/-! ### what is due -/
inductive Out22 where
  | sights (i : Int)
  | told
  | watch (x : V)
def outV : Out22 → List V
  | .sights i => [.str "sights", .int i]
  | .told => [.str "told", .int 0]
  | .watch x => [.str "watch", x]
def tupS (H : Hp) : V → Option (List V)
  | .ref a => match H a with
    | some (.tup xs) => some xs
    | _ => none
  | _ => none
def DueS (ss : List KnA.Stp) (lf lw : Lk) (s0 : Int) (H : Hp) (v : V) : Out22 → Prop
  | .sights i => (tupS H v = none ∧ i = -1) ∨ ∃ xs n, tupS H v = some xs ∧ i = ((n : Nat) : Int) ∧ BadS ss lf lw s0 xs n
  | .told => ∃ xs, tupS H v = some xs ∧ FineS ss lf lw s0 xs
  | .watch _ => False
theorem DueS.one {ss : List KnA.Stp} {lf lw : Lk} {s0 : Int} {H : Hp} {v : V} {a b : Out22} (h : DueS ss lf lw s0 H v a) (k : DueS ss lf lw s0 H v b) : a = b := by
  cases a with
  | watch x => exact h.elim
  | told =>
    obtain ⟨xs, e, f⟩ := h
    cases b with
    | watch x => exact k.elim
    | told => rfl
    | sights i =>
      rcases k with ⟨n, _⟩ | ⟨ys, n, e2, _, bd⟩
      · rw [e] at n; cases n
      · rw [e] at e2; cases e2; exact (bad_fine bd f).elim
  | sights i =>
    cases b with
    | watch x => exact k.elim
    | told =>
      obtain ⟨xs, e, f⟩ := k
      rcases h with ⟨n, _⟩ | ⟨ys, n, e2, _, bd⟩
      · rw [e] at n; cases n
      · rw [e] at e2; cases e2; exact (bad_fine bd f).elim
    | sights j =>
      rcases h with ⟨n, rfl⟩ | ⟨xs, n, e, rfl, bd⟩ <;> rcases k with ⟨n2, rfl⟩ | ⟨ys, n2, e2, rfl, bd2⟩
      · rfl
      · rw [n] at e2; cases e2
      · rw [n2] at e; cases e
      · rw [e] at e2; cases e2; rw [bad_one bd bd2]
/-- a row of sights that may be asked: a tuple of values, or no tuple -/
def RowArg (K : PySem.W.Frag) (H : Hp) (v : V) : Prop := (∃ (sg : Addr) (xs : List V), v = .ref sg ∧ H sg = some (.tup xs) ∧ xs.length ≤ 1000 ∧ ∀ y ∈ xs, Val K H y) ∨ ∃ t, TyOf K H v t ∧ PySem.W.kitOne K t (.type "tuple") = some false ∧ tupS H v = none
def sp__law_wrong (K : PySem.W.Frag) : Sp := fun vs H Q _ => ∃ (l td sd : Addr) (v : V) (s0 : Int) (U : List KnA.Dat) (as : List Addr) (ss : List KnA.Stp) (fs tb : List (Str × Str)), vs = [.int s0, .ref l, .ref td, .ref sd, v] ∧ H l = some (.lst (as.map V.ref)) ∧ Stps H as ss ∧ ss.length ≤ 80 ∧ H td = some (.dK (fkv fs)) ∧ H sd = some (.dK (fkv tb)) ∧ InU ss (look fs) U ∧ (s0, []) ∈ U ∧ RowArg K H v ∧
  ∀ H' r o, Same H H' → H' r = some (.lst (outV o)) → DueS ss (look fs) (look tb) s0 H v o → Q (.ref r) H'
theorem ok__law_wrong {f : Addr} {C D S : Addr} {fd : FuncData} (T : Txt K mg C D S) (F : Fun K "_law_wrong" "_law_wrong" s__law_wrong f fd) (c__law_estimate : Cal P w K mg base 2 "_law_estimate" (sp__law_estimate (P := P) (w := w) K) []) (c__law_is_name : Cal P w K mg base 1 "_law_is_name" (sp__law_is_name K) []) (c__law_later : Cal P w K mg base 3 "_law_later" (sp__law_later (P := P) (w := w) K) []) : FnOk P w K mg base CX0 4 f fd ["_law_start", "_law_steps", "_law_table", "_law_sights_here", "_law_row_here"] (sp__law_wrong K) := by
  have nd := sc__law_wrong.nd
  refine F.ok sc__law_wrong (fun vs H Q E h => ?_) (fun cdv A outer s H vs Q E hr h => ?_)
  · obtain ⟨l, td, sd, v, s0, U, as, ss, fs, tb, rfl, _⟩ := h
    rfl
  · obtain ⟨l, td, sd, v, s0, U, as, ss, fs, tb, rfl, hl, hst, hi80, htd, hsd, iu, mU0, alt, q⟩ := h
    refine ⟨_, (pss_cons (ps_if (pt_not (pt_val (pe_callB call_isi (by rfl) T.m_isinstance (by decide +kernel) (pa_cons (pv 4) (pa_cons (pe_bltn (v := .ty "tuple") (u := .type "tuple") (by rfl) T.m_tuple (by decide +kernel) rfl) pa_nil))))) (pss_one (ps_ret (pe_lst (pa_cons pe_str (pa_cons (pe_un un_neg pe_int) pa_nil))))) pss_nil)
      (pss_cons (ps_set (i := 5) nd rfl (.inl rfl) (pe_c c__law_estimate hr (by omega) (by rfl) (pa_cons (pe_lst (pa_cons (pe_tup (pa_cons (pv 0) (pa_cons (pe_tup pa_nil) pa_nil))) pa_nil)) (pa_cons (pv 1) (pa_cons (pv 2) (pa_cons (pv 3) pa_nil))))))
      (pss_cons (ps_for PassesOwn.never rfl (pi_range1 (by rfl) T.m_range (pa_cons (pe_callB call_len (by rfl) T.m_len (by decide +kernel) (pa_cons (pv 4) pa_nil)) pa_nil)) (pg_name (i := 6) nd rfl (.inl rfl)) (pss_cons (ps_if (pt_not (pt_val (pe_c c__law_is_name hr (by omega) (by rfl) (pa_cons (pe_ix (r := rIxT K) ix_tup (pv 4) (pv 6) (fun _ _ => rfl)) pa_nil)))) (pss_one (ps_ret (pe_lst (pa_cons pe_str (pa_cons (pv 6) pa_nil))))) pss_nil)
      (pss_cons (ps_set (i := 5) nd rfl (.inl rfl) (pe_c c__law_later hr (by omega) (by rfl) (pa_cons (pv 5) (pa_cons (pv 1) (pa_cons (pv 2) (pa_cons (pv 3) (pa_cons (pe_ix (r := rIxT K) ix_tup (pv 4) (pv 6) (fun _ _ => rfl)) pa_nil)))))))
      (pss_one (ps_if (pt_cmpR op_eq (pe_callB call_len (by rfl) T.m_len (by decide +kernel) (pa_cons (pv 5) pa_nil)) pe_int (nomark _)) (pss_one (ps_ret (pe_lst (pa_cons pe_str (pa_cons (pv 6) pa_nil))))) pss_nil)))))
      (pss_one (ps_ret (pe_lst (pa_cons pe_str (pa_cons pe_int pa_nil)))))))), ?_⟩
    rcases alt.symm with ⟨t, ty, kit, nt⟩ | ⟨sg, xs, rfl, hsg, lxs, nv⟩
    · refine ⟨v, rfl, v, .ty "tuple", t, .type "tuple", false, rfl, .ty _, .base ty, kit, _, rfl, iteT ⟨1, rfl, szl rfl, fun r nr => q _ r (.sights (-1)) (same_upd nr) upd_same (.inl ⟨nt, rfl⟩)⟩⟩
    refine ⟨.ref sg, rfl, .ref sg, .ty "tuple", .type "tuple", _, true, rfl, .ty _, .base (.tup hsg), kit_ty (show kitB "tuple" "tuple" = some true by decide +kernel), _, rfl, iteF ?_⟩
    have hv : tupS H (.ref sg) = some xs := by show (match H sg with | some (.tup xs) => some xs | _ => none) = _; rw [hsg]
    have univ : Univ ss (look fs) s0 U := ⟨mU0, iu.step⟩
    have few60 : ∀ {zs : List Str} {dd : List KnA.Dat}, dd.Nodup → (∀ q, q ∈ dd ↔ Est ss (look fs) (look tb) s0 zs q) → dd.length ≤ 60 ∧ ∀ d ∈ dd, d ∈ U := fun {zs dd} h1 h2 => by
      have h3 : ∀ d ∈ dd, d ∈ U := fun d hd => univ.est _ _ ((h2 d).mp hd)
      exact ⟨Nat.le_trans (nodup_le h1 h3) iu.few, h3⟩
    refine ⟨.int s0, rfl, szl rfl, fun u1 nu1 => ⟨szl rfl, fun u2 nu2 => ⟨szl rfl, fun u3 nu3 => ?_⟩⟩⟩
    have su1 := same_upd (o := .tup []) nu1
    have eu1 : (upd H u1 (.tup [])) u1 = some (.tup []) := upd_same
    generalize upd H u1 (.tup []) = G8 at su1 eu1 nu2 nu3 ⊢
    have su2 := same_upd (o := .tup [V.int s0, .ref u1]) nu2
    have eu2 : (upd G8 u2 (.tup [V.int s0, .ref u1])) u2 = some (.tup [.int s0, .ref u1]) := upd_same
    have eu12 := su2 _ _ eu1
    generalize upd G8 u2 (.tup [V.int s0, .ref u1]) = G9 at su2 eu2 eu12 nu3 ⊢
    have su3 := same_upd (o := .lst [V.ref u2]) nu3
    have eu3 : (upd G9 u3 (.lst [V.ref u2])) u3 = some (.lst [.ref u2]) := upd_same
    have eu13 := su3 _ _ eu12
    have eu23 := su3 _ _ eu2
    have S9 := su1.trans (su2.trans su3)
    generalize upd G9 u3 (.lst [V.ref u2]) = G10 at su3 eu3 eu13 eu23 S9 ⊢
    refine ⟨.ref l, rfl, .ref td, rfl, .ref sd, rfl, u3, l, td, sd, [.ref u2], [(s0, [])], U, as, ss, fs, tb, rfl, eu3, .cons ⟨u2, u1, rfl, eu23, eu13⟩ .nil, S9 _ _ hl, hst.mono S9, S9 _ _ htd, S9 _ _ hsd, fun d hd => List.mem_singleton.mp hd ▸ mU0, iu, fun G11 PL rp dp s11 nPL ePL rrp upp ndp memp => ?_⟩
    refine setn_use rfl ?_
    have S11 := S9.trans s11
    have memp0 : ∀ q, q ∈ dp ↔ Est ss (look fs) (look tb) s0 [] q := fun q => (memp q).trans ⟨fun ⟨p, hp, h⟩ => by rw [List.mem_singleton.mp hp] at h; exact h, fun h => ⟨_, List.mem_singleton.mpr rfl, h⟩⟩
    refine ⟨.ref sg, rfl, .ref sg, xs.length, rfl, .inr ⟨_, .inl (.inl (S11 _ _ hsg)), rfl⟩, (xs.length : Int), rfl, by omega, by omega, ?_⟩
    rw [Int.toNat_natCast]
    refine for_range (lo := 0) (n := xs.length) (fun i σ G => ∃ (y6 : Option V) (PL : Addr) (rp : List V) (dp : List KnA.Dat) (ps : List Str), σ = [some (.int s0), some (.ref l), some (.ref td), some (.ref sd), some (.ref sg), some (.ref PL), y6] ∧ Same H G ∧ G PL = some (.lst rp) ∧ RowsP G rp dp ∧ dp.Nodup ∧ (∀ q, q ∈ dp ↔ Est ss (look fs) (look tb) s0 ps q) ∧ xs.take i = ps.map V.str ∧ (∀ z ∈ ps, nameB (.str z) = true) ∧ ∃ q, Est ss (look fs) (look tb) s0 ps q)
      ⟨none, PL, rp, dp, [], rfl, S11, ePL, rrp, ndp, memp0, rfl, fun _ h => (nomatch h), ⟨_, .refl⟩⟩ (fun i σ G hi hP => ?_) (fun σ G hP => ?_)
    · obtain ⟨y6, PL, rp, dp, ps, rfl, S, ePL, rrp, ndp, memp, eps, nps, exq⟩ := hP
      rw [show (0 : Int) + ((i : Nat) : Int) = ((i : Nat) : Int) from Int.zero_add _]
      refine setn_use rfl ?_
      obtain ⟨f60, fU⟩ := few60 ndp memp
      have gx : xs[i]? = some xs[i] := List.getElem?_eq_getElem hi
      generalize xs[i] = y at gx
      have hy := nv y (List.mem_of_getElem? gx)
      refine ⟨.ref sg, rfl, .int (i : Int), rfl, sg, xs, (i : Int), y, rfl, rfl, .inl (.inl (S _ _ hsg)), atI_nat gx, y, rfl, hy.mono S, fun G1 s1 => ⟨nameB y, rfl, ?_⟩⟩
      have S1 := S.trans s1
      cases nb : nameB y with
      | false => exact iteT ⟨.int (i : Int), rfl, szl rfl, fun r nr => q _ r (.sights (i : Int)) (S1.trans (same_upd nr)) upd_same (.inr ⟨xs, i, hv, rfl, ps, y, eps, nps, exq, gx, .inl nb⟩)⟩
      | true =>
      obtain ⟨z, rfl⟩ := name_str nb
      refine iteF ?_
      refine ⟨.ref PL, rfl, .ref l, rfl, .ref td, rfl, .ref sd, rfl, .ref sg, rfl, .int (i : Int), rfl, sg, xs, (i : Int), .str z, rfl, rfl, .inl (.inl (S1 _ _ hsg)), atI_nat gx, PL, l, td, sd, z, rp, dp, U, as, ss, fs, tb, rfl, s1 _ _ ePL, rrp.ext fun _ _ z => s1 _ _ z, f60, S1 _ _ hl, hst.mono S1, hi80, S1 _ _ htd, S1 _ _ hsd, fU, iu, fun G2 P2 rp2 dp2 s2 n2 e2 rr2 up2 nd2 mem2 => ?_⟩
      refine setn_use rfl ?_
      have S2 := S1.trans s2
      have mem3 : ∀ q, q ∈ dp2 ↔ Est ss (look fs) (look tb) s0 (ps ++ [z]) q := fun q => (mem2 q).trans (by rw [est_snoc]; exact nextE_iff memp q)
      have l2 := Paired.length rr2
      refine ⟨.ref P2, rfl, .ref P2, rp2.length, rfl, .inl ⟨_, .inl (.inl e2), rfl⟩, rfl, _, rfl, ?_⟩
      by_cases c : dp2 = []
      · rw [decide_eq_true (show V.int (rp2.length : Int) = V.int 0 by rw [l2, c]; rfl)]
        refine iteT ⟨.int (i : Int), rfl, szl rfl, fun r nr => q _ r (.sights (i : Int)) (S2.trans (same_upd nr)) upd_same (.inr ⟨xs, i, hv, rfl, ps, .str z, eps, nps, exq, gx, .inr ⟨z, rfl, fun ⟨q, hq⟩ => ?_⟩⟩)⟩
        have := (mem3 q).mpr hq
        rw [c] at this; cases this
      · rw [decide_eq_false (show ¬ V.int (rp2.length : Int) = V.int 0 from fun e => c (List.eq_nil_of_length_eq_zero (by have := V.int.inj e; omega)))]
        obtain ⟨d, hd⟩ := List.exists_mem_of_ne_nil _ c
        exact iteF ⟨_, P2, rp2, dp2, ps ++ [z], rfl, S2, e2, rr2, nd2, mem3, by rw [take_more gx, eps, List.map_append]; rfl, fun y hy => (List.mem_append.mp hy).elim (nps y) fun h => List.mem_singleton.mp h ▸ nb, ⟨d, (mem3 d).mp hd⟩⟩
    · obtain ⟨y6, PL, rp, dp, ps, rfl, S, ePL, rrp, ndp, memp, eps, nps, exq⟩ := hP
      rw [List.take_length] at eps
      exact ⟨szl rfl, fun r nr => q _ r .told (S.trans (same_upd nr)) upd_same ⟨xs, hv, ps, eps, nps, exq⟩⟩

end
end Kn

set_option Elab.async false
set_option linter.all false
set_option maxRecDepth 100000
set_option maxHeartbeats 4000000
namespace Kn
open PySem PySem.Spec PyProof.Rows L2
open C8 (Cal pe_c pe_gc Mak pe_mk)
section
variable {P : Program} {w : World} {K : PySem.W.Frag} {mg : Str → Option Value} {base : Heap}





theorem look1 {g : Str} {v : V} : ([(g, v)] : List (Str × V)).lookup g = some v := by simp [List.lookup]
def sp__law_ask (K : PySem.W.Frag) (C D _S : Addr) : Sp := fun vs H Q _ => ∃ (kd : Int) (m : Addr) (x v : V) (s0 : Int) (ss : List KnA.Stp) (fs : List (Str × Str)), vs = [.int kd, .ref m, x, v] ∧ MachAt C H m s0 ss fs ∧ GoodMach s0 ss fs ∧ (fs.map (·.1)).Nodup ∧ Fit ss fs s0 ∧ RowArg K H v ∧
  ((∃ (wa : Addr) (tb : List (Str × Str)), x = .ref wa ∧ WatchAt D H wa tb ∧ ∀ H' r o, Same H H' → H' r = some (.lst (outV o)) → DueS ss (look fs) (look tb) s0 H v o → Q (.ref r) H')
    ∨ ∃ t, TyOf K H x t ∧ PySem.W.kitOne K t (.ref D) = some false ∧ ∀ H' r, Same H H' → H' r = some (.lst (outV (.watch x))) → Q (.ref r) H')
theorem ok__law_ask {f : Addr} {C D S : Addr} {ce : Es} {fd : FuncData} (T : Txt K mg C D S) (F : Fun K "_law_ask" "_law_ask" s__law_ask f fd) (TE : TxE K mg ce) (c_after : KnX.CalX P w K mg base 7 "after" (sx_after K C D S ce)) (c_known : KnX.CalX P w K mg base 8 "known" (sx_known K C D S ce)) : FnOk P w K mg base CX0 9 f fd ["_law_kind", "_law_machine_here", "_law_watch", "_law_row_here"] (sp__law_ask K C D S) := by
  have nd := sc__law_ask.nd
  refine F.ok sc__law_ask (fun vs H Q E h => ?_) (fun cdv A outer s H vs Q E hr h => ?_)
  · obtain ⟨kd, m, x, v, s0, ss, fs, rfl, _⟩ := h
    rfl
  · obtain ⟨kd, m, x, v, s0, ss, fs, rfl, hm, gm, ndf, fit, hv, alt⟩ := h
    refine ⟨_, (pss_cons (KnX.ps_try_all rfl rfl nd takes0 (fun W pn xe tk po => (pss_one (ps_if (pt_cmpR op_eq (pv 0) pe_int (nomark _)) (pss_one (ps_expr (KnX.pe_cx c_after hr (by omega) (by rfl) tk (pa_cons (pv 1) (pa_cons (pv 2) (pa_cons (pv 3) pa_nil)))))) (pss_one (ps_expr (KnX.pe_cx c_known hr (by omega) (by rfl) tk (pa_cons (pv 1) (pa_cons (pv 2) (pa_cons (pv 3) pa_nil))))))))) (.cons ⟨rfl, by decide, .inl TE.g_BadSights⟩ (i := 4) rfl rfl (fun a oe cls d pn hz hf => (pss_one (ps_ret (pe_lst (pa_cons pe_str (pa_cons (pe_xf TE.f_BadSights TE.o_BadSights hz hf (pv 4)) pa_nil)))))) (.cons ⟨rfl, by decide, .inl TE.g_BadWatch⟩ (i := 4) rfl rfl (fun a oe cls d pn hz hf => (pss_one (ps_ret (pe_lst (pa_cons pe_str (pa_cons (pe_xf TE.f_BadWatch TE.o_BadWatch hz hf (pv 4)) pa_nil)))))) .nil)))
      (pss_one (ps_ret (pe_lst (pa_cons pe_str (pa_cons pe_int pa_nil)))))), ?_⟩
    rcases alt with ⟨wa, tb, rfl, hw, q⟩ | ⟨t, ty, kit, q⟩
    · rcases hv with ⟨sg, xs, rfl, hsg, lxs, nv⟩ | ⟨t, ty, kit, nt⟩
      · have hv : tupS H (.ref sg) = some xs := by show (match H sg with | some (.tup xs) => some xs | _ => none) = _; rw [hsg]
        refine ⟨.int kd, rfl, rfl, _, rfl, ite2 (fun c0 => ?_) (fun c0 => ?_)⟩
        · exact ⟨.ref m, rfl, .ref wa, rfl, .ref sg, rfl, m, .ref wa, .ref sg, s0, ss, fs, rfl, hm, gm, ndf, fit, .inl ⟨wa, tb, rfl, hw, fun _ _ => FineS ss (look fs) (look tb) s0 xs, fun H' l rs ds s' _ _ _ hf => ⟨szl rfl, fun r nr => q _ r .told (s'.trans (same_upd nr)) upd_same ⟨xs, hv, hf⟩⟩, .inl ⟨sg, xs, rfl, hsg, lxs, nv, fun h _ _ _ => h, fun i hi H' d s' nd' => ⟨true, TE.x_BadSights_BadSights, (fun _ a na => ⟨.ref a, rfl, rfl, rfl, d, _, .int (i : Int), rfl, upd_same, look1, szl rfl, fun r nr => q _ r (.sights (i : Int)) ((s'.trans (same_upd nd')).trans (same_upd nr)) upd_same (.inr ⟨xs, i, hv, rfl, hi⟩)⟩), fun z => by cases z⟩⟩⟩⟩
        · exact ⟨.ref m, rfl, .ref wa, rfl, .ref sg, rfl, m, .ref wa, .ref sg, s0, ss, fs, rfl, hm, gm, ndf, fit, .inl ⟨wa, tb, rfl, hw, .inl ⟨sg, xs, rfl, hsg, lxs, nv, fun hf r' H' s' => ⟨szl rfl, fun r nr => q _ r .told (s'.trans (same_upd nr)) upd_same ⟨xs, hv, hf⟩⟩, fun i hi H' d s' nd' => ⟨true, TE.x_BadSights_BadSights, (fun _ a na => ⟨.ref a, rfl, rfl, rfl, d, _, .int (i : Int), rfl, upd_same, look1, szl rfl, fun r nr => q _ r (.sights (i : Int)) ((s'.trans (same_upd nd')).trans (same_upd nr)) upd_same (.inr ⟨xs, i, hv, rfl, hi⟩)⟩), fun z => by cases z⟩⟩⟩⟩
      · refine ⟨.int kd, rfl, rfl, _, rfl, ite2 (fun c0 => ?_) (fun c0 => ?_)⟩
        · exact ⟨.ref m, rfl, .ref wa, rfl, v, rfl, m, .ref wa, v, s0, ss, fs, rfl, hm, gm, ndf, fit, .inl ⟨wa, tb, rfl, hw, fun _ _ => False, fun H' l rs ds s' _ _ _ hf => hf.elim, .inr ⟨t, ty, kit, fun H' d s' nd' => ⟨true, TE.x_BadSights_BadSights, (fun _ a na => ⟨.ref a, rfl, rfl, rfl, d, _, .int (-1), rfl, upd_same, look1, szl rfl, fun r nr => q _ r (.sights (-1)) ((s'.trans (same_upd nd')).trans (same_upd nr)) upd_same (.inl ⟨nt, rfl⟩)⟩), fun z => by cases z⟩⟩⟩⟩
        · exact ⟨.ref m, rfl, .ref wa, rfl, v, rfl, m, .ref wa, v, s0, ss, fs, rfl, hm, gm, ndf, fit, .inl ⟨wa, tb, rfl, hw, .inr ⟨t, ty, kit, fun H' d s' nd' => ⟨true, TE.x_BadSights_BadSights, (fun _ a na => ⟨.ref a, rfl, rfl, rfl, d, _, .int (-1), rfl, upd_same, look1, szl rfl, fun r nr => q _ r (.sights (-1)) ((s'.trans (same_upd nd')).trans (same_upd nr)) upd_same (.inl ⟨nt, rfl⟩)⟩), fun z => by cases z⟩⟩⟩⟩
    · refine ⟨.int kd, rfl, rfl, _, rfl, ite2 (fun c0 => ?_) (fun c0 => ?_)⟩
      · exact ⟨.ref m, rfl, x, rfl, v, rfl, m, x, v, s0, ss, fs, rfl, hm, gm, ndf, fit, .inr ⟨t, ty, kit, fun d nd' => ⟨false, TE.x_BadWatch_BadSights, (fun z => by cases z), fun _ => ⟨true, TE.x_BadWatch_BadWatch, (fun _ a na => ⟨.ref a, rfl, rfl, rfl, d, _, x, rfl, upd_same, look1, szl rfl, fun r nr => q _ r ((same_upd nd').trans (same_upd nr)) upd_same⟩), fun z => by cases z⟩⟩⟩⟩
      · exact ⟨.ref m, rfl, x, rfl, v, rfl, m, x, v, s0, ss, fs, rfl, hm, gm, ndf, fit, .inr ⟨t, ty, kit, fun d nd' => ⟨false, TE.x_BadWatch_BadSights, (fun z => by cases z), fun _ => ⟨true, TE.x_BadWatch_BadWatch, (fun _ a na => ⟨.ref a, rfl, rfl, rfl, d, _, x, rfl, upd_same, look1, szl rfl, fun r nr => q _ r ((same_upd nd').trans (same_upd nr)) upd_same⟩), fun z => by cases z⟩⟩⟩⟩

end
end Kn

set_option Elab.async false
set_option linter.all false
set_option maxRecDepth 100000
set_option maxHeartbeats 4000000
namespace Kn
open PySem PySem.Spec PyProof.Rows L2
open C8 (Cal pe_c pe_gc Mak pe_mk)
section
variable {P : Program} {w : World} {K : PySem.W.Frag} {mg : Str → Option Value} {base : Heap}





theorem goes_lt {ss : List KnA.Stp} : ∀ {s : Int} {ks : List Nat}, goes ss s ks → ∀ k ∈ ks, k < ss.length
  | s, [], _, k, h => nomatch h
  | s, j :: r, h, k, hk => by
    obtain ⟨st, e, _, g⟩ := h
    rcases List.mem_cons.mp hk with rfl | hk
    · exact (List.getElem?_eq_some_iff.mp e).1
    · exact goes_lt g k hk
theorem cut_ints (rs : List Int) (lo hi : Option Int) : ∃ ds : List Int, cutV (rs.map V.int) lo hi = ds.map V.int ∧ ds.length ≤ rs.length := by
  refine ⟨(rs.drop (HT.sIx (rs.map V.int).length 0 lo)).take (HT.sIx (rs.map V.int).length (rs.map V.int).length hi - HT.sIx (rs.map V.int).length 0 lo), ?_, ?_⟩
  · unfold cutV
    rw [List.map_take, List.map_drop]
  · rw [List.length_take, List.length_drop]; omega
theorem states_few {ss : List KnA.Stp} {s0 : Int} {ls ns : List Int} (h0 : s0 ∈ ls) (hc : ∀ x ∈ ss, x.1 ∈ ls ∧ x.2.2 ∈ ls) (h : KnA.States ns ss s0) : ns.length ≤ ls.length := by
  refine nodup_le (h.up.imp fun a e => by omega) fun x hx => ?_
  have r := (h.mem x).mp hx
  cases r with
  | start => exact h0
  | step _ m => exact (hc _ m).2
theorem fit_of {ss : List KnA.Stp} {fs : List (Str × Str)} {s0 : Int} {ls : List Int} (few : ls.length ≤ 8) (h0 : s0 ∈ ls) (hc : ∀ x ∈ ss, x.1 ∈ ls ∧ x.2.2 ∈ ls) (lf : fs.length ≤ 2) : Fit ss fs s0 := fun ns xs hn hx => by
  have a := words_le hx
  rw [List.length_map] at a
  have b := states_few h0 hc hn
  have c : 2 ^ xs.length ≤ 4 := Nat.le_trans (Nat.pow_le_pow_right (by decide) (show xs.length ≤ 2 by omega)) (by decide)
  have d : ns.length * 2 ^ xs.length ≤ 8 * 4 := Nat.mul_le_mul (by omega) c
  exact ⟨by omega, by omega⟩
theorem inU_of {ss : List KnA.Stp} {fs : List (Str × Str)} {ls : List Int} {xs : List Str} (few : ls.length ≤ 8) (hc : ∀ x ∈ ss, x.1 ∈ ls ∧ x.2.2 ∈ ls) (lf : fs.length ≤ 2) (wx : KnA.Words xs (fs.map (·.2))) (hn : ∀ p ∈ fs, nameB (.str p.2) = true) : InU ss (look fs) (allU ls xs) := by
  have a := words_le wx
  rw [List.length_map] at a
  have c : 2 ^ xs.length ≤ 4 := Nat.le_trans (Nat.pow_le_pow_right (by decide) (show xs.length ≤ 2 by omega)) (by decide)
  have w := words_self wx
  refine ⟨?_, fun p hp x hx e => ?_, fun p hp => ?_⟩
  · rw [allU_len]
    have d : ls.length * 2 ^ xs.length ≤ 8 * 4 := Nat.mul_le_mul few c
    omega
  · obtain ⟨h1, h2⟩ := (allU_mem ls xs p).mp hp
    have sp := (partsD_mem _ _).mp h2
    have wp := sub_words w sp
    refine (allU_mem ls xs _).mpr ⟨(hc x hx).2, (partsD_mem _ _).mpr (sub_of_words (bhd_ok wp) w fun z hz => ?_)⟩
    rcases List.mem_append.mp (((addF_words wp (look fs x.2.1)).mem z).mp hz) with h | h
    · exact sp.subset h
    · exact (wx.mem z).mpr (look_val_in (Option.mem_toList.mp h))
  · have sp := (partsD_mem _ _).mp ((allU_mem ls xs p).mp hp).2
    refine ⟨sub_words w sp, by have := sp.length_le; omega, fun z hz => ?_⟩
    obtain ⟨q, hq, rfl⟩ := List.mem_map.mp ((wx.mem z).mp (sp.subset hz))
    exact hn q hq
theorem Val.plain {K : PySem.W.Frag} {H : Hp} {v : V} (h : Val K H v) : ∃ T, T ∈ KnW.plainTys ∧ TyOf K H v (.type T) := by
  cases h with
  | non => exact ⟨"NoneType", by decide, .non⟩
  | bl b => exact ⟨"bool", by decide, .bl b⟩
  | int i => exact ⟨"int", by decide, .int i⟩
  | str z h => exact ⟨"str", by decide, .str z⟩
  | lst e => exact ⟨"list", by decide, .lst e⟩
  | tup e => exact ⟨"tuple", by decide, .tup e⟩
  | dK e => exact ⟨"dict", by decide, .dK e⟩
theorem rch_congr {ss : List KnA.Stp} {lf lw lv : Lk} (h : ∀ x ∈ ss, lw x.2.1 = lv x.2.1) {p q : KnA.Dat} (r : Rch ss lf lw p q) : Rch ss lf lv p q := by
  induction r with
  | refl => exact .refl
  | step _ m e n ih => exact .step ih m e ((h _ m).symm.trans n)
theorem est_congr {ss : List KnA.Stp} {lf lw lv : Lk} {s0 : Int} (h : ∀ x ∈ ss, lw x.2.1 = lv x.2.1) (zs : List Str) : ∀ q, Est ss lf lw s0 zs q → Est ss lf lv s0 zs q := by
  refine snoc_rec (M := fun zs => ∀ q, Est ss lf lw s0 zs q → Est ss lf lv s0 zs q) (fun q r => rch_congr h r) (fun xs x ih q r => ?_) zs
  rw [est_snoc] at r ⊢
  obtain ⟨p, t, a, ⟨y, my, e1, e2, e3⟩, c⟩ := r
  exact ⟨p, t, ih p a, ⟨y, my, e1, (h y my).symm.trans e2, e3⟩, rch_congr h c⟩
theorem due_congr {ss : List KnA.Stp} {lf lw lv : Lk} {s0 : Int} (h : ∀ x ∈ ss, lw x.2.1 = lv x.2.1) {H : Hp} {v : V} {o : Out22} (d : DueS ss lf lw s0 H v o) : DueS ss lf lv s0 H v o := by
  have h' : ∀ x ∈ ss, lv x.2.1 = lw x.2.1 := fun x hx => (h x hx).symm
  cases o with
  | watch x => exact d
  | told =>
    obtain ⟨xs, e, zs, a, b, q, c⟩ := d
    exact ⟨xs, e, zs, a, b, q, est_congr h _ _ c⟩
  | sights i =>
    rcases d with d | ⟨xs, n, e, ei, zs, y, a, b, ⟨q, c⟩, d, alt⟩
    · exact .inl d
    · refine .inr ⟨xs, n, e, ei, zs, y, a, b, ⟨q, est_congr h _ _ c⟩, d, ?_⟩
      rcases alt with x | ⟨z, ez, n⟩
      · exact .inl x
      · exact .inr ⟨z, ez, fun ⟨q, hq⟩ => n ⟨q, est_congr h' _ _ hq⟩⟩
theorem Val.own {K : PySem.W.Frag} {H : Hp} {v : V} (h : Val K H v) : KnQ.Own v := by cases h <;> trivial
theorem out_own22 {o : Out22} (h : ∀ x, o = .watch x → KnQ.Own x) : ∀ v ∈ outV o, KnQ.Own v := fun v hv => by
  cases o with
  | sights i =>
    have hv : v ∈ [V.str "sights", V.int i] := hv
    simp only [List.mem_cons, List.not_mem_nil, or_false] at hv
    rcases hv with rfl | rfl <;> trivial
  | told =>
    have hv : v ∈ [V.str "told", V.int 0] := hv
    simp only [List.mem_cons, List.not_mem_nil, or_false] at hv
    rcases hv with rfl | rfl <;> trivial
  | watch x =>
    have hv : v ∈ [V.str "watch", x] := hv
    simp only [List.mem_cons, List.not_mem_nil, or_false] at hv
    rcases hv with rfl | rfl
    · trivial
    · exact h _ rfl
theorem Val.setL {K : PySem.W.Frag} {H : Hp} {L : Addr} {xs ys : List V} (e : H L = some (.lst xs)) {v : V} (h : Val K H v) : Val K (upd H L (.lst ys)) v := by
  cases h with
  | non => exact .non
  | bl b => exact .bl b
  | int i => exact .int i
  | str z l => exact .str z l
  | @lst a zs ea =>
    by_cases c : a = L
    · subst c; exact .lst upd_same
    · exact .lst ((upd_ne c).trans ea)
  | tup ea => exact .tup ((upd_ne (fun c => by rw [c, e] at ea; cases ea)).trans ea)
  | dK ea => exact .dK ((upd_ne (fun c => by rw [c, e] at ea; cases ea)).trans ea)
theorem thing_arg {K : PySem.W.Frag} {H : Hp} {v : V} (h : Thing K H v) : RowArg K H v := by
  obtain ⟨hv, hz, hr⟩ := h
  cases hv with
  | non => exact .inr ⟨_, .non, kit_ty (show kitB "NoneType" "tuple" = some false by decide +kernel), rfl⟩
  | bl b => exact .inr ⟨_, .bl b, kit_ty (show kitB "bool" "tuple" = some false by decide +kernel), rfl⟩
  | int i => exact .inr ⟨_, .int i, kit_ty (show kitB "int" "tuple" = some false by decide +kernel), rfl⟩
  | str z l => exact .inr ⟨_, .str z, kit_ty (show kitB "str" "tuple" = some false by decide +kernel), rfl⟩
  | lst e => exact .inr ⟨_, .lst e, kit_ty (show kitB "list" "tuple" = some false by decide +kernel), by show (match H _ with | some (.tup xs) => some xs | _ => none) = _; rw [e]⟩
  | dK e => exact .inr ⟨_, .dK e, kit_ty (show kitB "dict" "tuple" = some false by decide +kernel), by show (match H _ with | some (.tup xs) => some xs | _ => none) = _; rw [e]⟩
  | @tup a xs e =>
    obtain ⟨l, hx⟩ := hr xs (by show itemsOf (H a) = _; rw [e]; rfl)
    exact .inl ⟨a, xs, rfl, e, by omega, fun y hy => (hx y hy).1⟩
theorem tupS_same {K : PySem.W.Frag} {H G : Hp} {v : V} (h : RowArg K H v) (s : Same H G) : tupS G v = tupS H v ∧ RowArg K G v := by
  rcases h with ⟨sg, xs, rfl, e, l, nv⟩ | ⟨t, ty, kit, nt⟩
  · refine ⟨?_, .inl ⟨sg, xs, rfl, s _ _ e, l, fun y hy => (nv y hy).mono s⟩⟩
    show (match G sg with | some (.tup xs) => some xs | _ => none) = (match H sg with | some (.tup xs) => some xs | _ => none)
    rw [e, s _ _ e]
  · have key : ∀ {a : Addr} {o : HO}, H a = some o → tupS H (.ref a) = none → tupS G (.ref a) = none := fun {a o} e n => by
      have n' : (match H a with | some (.tup xs) => some xs | _ => none) = none := n
      show (match G a with | some (.tup xs) => some xs | _ => none) = none
      rw [e] at n'
      rw [s _ _ e]
      exact n'
    cases ty with
    | non => exact ⟨rfl, .inr ⟨_, .non, kit, rfl⟩⟩
    | bl b => exact ⟨rfl, .inr ⟨_, .bl b, kit, rfl⟩⟩
    | int i => exact ⟨rfl, .inr ⟨_, .int i, kit, rfl⟩⟩
    | str z => exact ⟨rfl, .inr ⟨_, .str z, kit, rfl⟩⟩
    | flt z => exact ⟨rfl, .inr ⟨_, .flt z, kit, rfl⟩⟩
    | lst e => exact ⟨(key e nt).trans nt.symm, .inr ⟨_, .lst (s _ _ e), kit, key e nt⟩⟩
    | frz e => exact ⟨(key e nt).trans nt.symm, .inr ⟨_, .frz (s _ _ e), kit, key e nt⟩⟩
    | tup e => exact ⟨(key e nt).trans nt.symm, .inr ⟨_, .tup (s _ _ e), kit, key e nt⟩⟩
    | dK e => exact ⟨(key e nt).trans nt.symm, .inr ⟨_, .dK (s _ _ e), kit, key e nt⟩⟩
    | dT e => exact ⟨(key e nt).trans nt.symm, .inr ⟨_, .dT (s _ _ e), kit, key e nt⟩⟩
    | ins e cl a b c d => exact ⟨(key e nt).trans nt.symm, .inr ⟨_, .ins (s _ _ e) cl a b c d, kit, key e nt⟩⟩
theorem due_same {ss : List KnA.Stp} {lf lw : Lk} {s0 : Int} {H G : Hp} {v : V} {o : Out22} (e : tupS G v = tupS H v) (d : DueS ss lf lw s0 G v o) : DueS ss lf lw s0 H v o := by
  cases o with
  | watch x => exact d
  | told => obtain ⟨xs, a, b⟩ := d; exact ⟨xs, e ▸ a, b⟩
  | sights i =>
    rcases d with ⟨a, b⟩ | ⟨xs, n, a, b⟩
    · exact .inl ⟨e ▸ a, b⟩
    · exact .inr ⟨xs, n, e ▸ a, b⟩
theorem DueS.own {ss : List KnA.Stp} {lf lw : Lk} {s0 : Int} {H : Hp} {v : V} {o : Out22} (d : DueS ss lf lw s0 H v o) : ∀ v ∈ outV o, KnQ.Own v :=
  out_own22 fun x e => by subst e; exact d.elim
theorem two_own {a b : V} (ha : KnQ.Own a) (hb : KnQ.Own b) : ∀ v ∈ [a, b], KnQ.Own v := fun v hv => by
  simp only [List.mem_cons, List.not_mem_nil, or_false] at hv
  rcases hv with rfl | rfl
  · exact ha
  · exact hb
theorem ixN_nat {n j : Nat} (h : j < n) : ixN n (j : Int) = some j := by
  unfold ixN
  rw [if_pos (Int.natCast_nonneg j), if_pos (Int.ofNat_lt.mpr h), Int.toNat_natCast]
theorem ins_ok {K : PySem.W.Frag} {H : Hp} {L : Addr} {xs ys : List V} {v : V} (e : H L = some (.lst xs)) (hx : ∀ y ∈ xs, Val K H y) (hv : Val K H v) (sub : ∀ y ∈ ys, y ∈ xs ∨ y = v) : ∀ y ∈ ys, Val K (upd H L (.lst ys)) y := fun y hy =>
  (sub y hy).elim (fun h => (hx y h).setL e) (fun h => h ▸ hv.setL e)
theorem ins_mem {xs : List V} {v : V} {n : Nat} : ∀ y ∈ xs.take n ++ [v] ++ xs.drop n, y ∈ xs ∨ y = v := fun y hy => by
  rcases List.mem_append.mp hy with h | h
  · rcases List.mem_append.mp h with h | h
    · exact .inl (List.mem_of_mem_take h)
    · exact .inr (List.mem_singleton.mp h)
  · exact .inl (List.mem_of_mem_drop h)
theorem ins_len {xs : List V} {v : V} {n : Nat} (h : n ≤ xs.length) : (xs.take n ++ [v] ++ xs.drop n).length = xs.length + 1 := by
  rw [List.length_append, List.length_append, List.length_take, List.length_drop]
  show min n xs.length + 1 + (xs.length - n) = _
  omega
theorem set_mem {xs : List V} {v : V} {n : Nat} : ∀ y ∈ xs.set n v, y ∈ xs ∨ y = v := fun y hy => List.mem_or_eq_of_mem_set hy
theorem mod_ix {n : Nat} (h : 0 < n) (i : Int) : ∃ j : Nat, j < n ∧ i % (n : Int) = (j : Int) := by
  have l : 0 ≤ i % (n : Int) := Int.emod_nonneg _ (by omega)
  have u : i % (n : Int) < (n : Int) := Int.emod_lt_of_pos _ (by omega)
  exact ⟨(i % (n : Int)).toNat, by omega, by omega⟩
theorem ok_law {f : Addr} {C D S : Addr} {fd : FuncData} (T : Txt K mg C D S) (F : Fun K "law" "law" s_law f fd) (c__law_system : Cal P w K mg base 4 "_law_system" (sp__law_system K) []) (c__law_sights : Cal P w K mg base 3 "_law_sights" (sp__law_sights K) []) (c__law_cell : Cal P w K mg base 2 "_law_cell" (sp__law_cell K) []) (c_Machine_init : Mak P w K mg base 5 "Machine" C (sp_Machine_init K C) []) (c_Watch_init : Mak P w K mg base 3 "Watch" D (sp_Watch_init K D) []) (c__law_row : Cal P w K mg base 2 "_law_row" (sp__law_row K) []) (c__law_walk : Cal P w K mg base 1 "_law_walk" (sp__law_walk K) []) (c__law_seen : Cal P w K mg base 1 "_law_seen" (sp__law_seen K) []) (c__law_thing : Cal P w K mg base 2 "_law_thing" (sp__law_thing K) []) (c__law_wrong : Cal P w K mg base 4 "_law_wrong" (sp__law_wrong K) []) (c__law_ask : Cal P w K mg base 9 "_law_ask" (sp__law_ask K C D S) []) : FnOk P w K mg base CX0 10 f fd ["_law_script"] (sp_law K) := by
  have nd := sc_law.nd
  refine F.ok sc_law (fun vs H Q E h => ?_) (fun cdv A outer s H vs Q E hr h => ?_)
  · obtain ⟨a, ns, rfl, _⟩ := h
    rfl
  · obtain ⟨a, ns, rfl, hS, hlen, q⟩ := h
    refine ⟨_, (pss_cons (ps_asg (pe_c c__law_system hr (by omega) (by rfl) (pa_cons (pv 0) (pa_cons pe_int (pa_cons pe_int (pa_cons pe_int pa_nil))))) (pg_lst (by rfl) (pgs_cons (pg_name (i := 1) nd rfl (.inl rfl)) (pgs_cons (pg_name (i := 2) nd rfl (.inl rfl)) (pgs_cons (pg_name (i := 3) nd rfl (.inl rfl)) (pgs_cons (pg_name (i := 4) nd rfl (.inl rfl)) (pgs_cons (pg_name (i := 5) nd rfl (.inl rfl)) pgs_nil)))))))
      (pss_cons (ps_set (i := 6) nd rfl (.inl rfl) (pe_c c__law_sights hr (by omega) (by rfl) (pa_cons (pe_c c__law_cell hr (by omega) (by rfl) (pa_cons (pv 0) (pa_cons pe_int pa_nil))) (pa_cons (pv 4) (pa_cons (pv 5) pa_nil)))))
      (pss_cons (ps_set (i := 7) nd rfl (.inl rfl) (pe_mk c_Machine_init hr (by omega) (by rfl) (pa_cons (pv 1) (pa_cons (pv 2) (pa_cons (pv 3) pa_nil)))))
      (pss_cons (ps_set (i := 8) nd rfl (.inl rfl) (pe_callTy call_dictD (by rfl) T.m_dict (by decide +kernel) (pa_cons (pv 6) pa_nil)))
      (pss_cons (ps_dput (hu_of hr) (pv 8) pe_str pe_str rfl)
      (pss_cons (ps_set (i := 9) nd rfl (.inl rfl) (pe_mk c_Watch_init hr (by omega) (by rfl) (pa_cons (pv 8) pa_nil)))
      (pss_cons (ps_for PassesOwn.never rfl (pi_range1 (by rfl) T.m_range (pa_cons pe_int pa_nil)) (pg_name (i := 10) nd rfl (.inl rfl)) (pss_cons (ps_set (i := 11) nd rfl (.inl rfl) (pe_c c__law_row hr (by omega) (by rfl) (pa_cons (pe_c c__law_cell hr (by omega) (by rfl) (pa_cons (pv 0) (pa_cons (pe_op op_add pe_int (pv 10)) pa_nil))) (pa_cons (pe_op op_cat (pe_op op_cat (pe_lst (pa_cons pe_int pa_nil)) (pe_op op_rep (pe_lst (pa_cons pe_int pa_nil)) pe_int)) (pe_lst (pa_cons pe_int (pa_cons pe_int (pa_cons pe_int (pa_cons pe_int (pa_cons pe_int (pa_cons pe_int (pa_cons pe_int pa_nil))))))))) pa_nil))))
      (pss_cons (ps_set (i := 12) nd rfl (.inl rfl) (pe_c c__law_walk hr (by omega) (by rfl) (pa_cons (pe_slice sl_list (pv 11) (po_some pe_int) (po_some (pe_op op_add pe_int (pe_ix (r := rIxL K) ix_list (pv 11) pe_int (fun _ _ => rfl))))) (pa_cons (pv 2) (pa_cons (pv 1) pa_nil)))))
      (pss_cons (ps_set (i := 13) nd rfl (.inl rfl) (pe_slice sl_list (pe_c c__law_seen hr (by omega) (by rfl) (pa_cons (pv 2) (pa_cons (pv 6) (pa_cons (pv 12) pa_nil)))) po_none (po_some pe_int)))
      (pss_cons (ps_for PassesOwn.never rfl (pi_range1 (by rfl) T.m_range (pa_cons pe_int pa_nil)) (pg_name (i := 14) nd rfl (.inl rfl)) (pss_cons (ps_set (i := 15) nd rfl (.inl rfl) (pe_ix (r := rIxL K) ix_list (pv 11) (pe_op op_add pe_int (pe_op op_mul pe_int (pv 14))) (fun _ _ => rfl)))
      (pss_cons (ps_set (i := 16) nd rfl (.inl rfl) (pe_op op_mod (pe_callTy call_int1 (by rfl) T.m_int (by decide +kernel) (pa_cons (pe_ix (r := rIxL K) ix_list (pv 11) (pe_op op_add pe_int (pe_op op_mul pe_int (pv 14))) (fun _ _ => rfl)) pa_nil)) (pe_op op_add (pe_callB call_len (by rfl) T.m_len (by decide +kernel) (pa_cons (pv 13) pa_nil)) pe_int)))
      (pss_cons (ps_set (i := 17) nd rfl (.inl rfl) (pe_ix (r := rIxL K) ix_list (pv 11) (pe_op op_add pe_int (pe_op op_mul pe_int (pv 14))) (fun _ _ => rfl)))
      (pss_one (ps_if (pt_cmpR op_eq (pv 15) pe_int (nomark _)) (pss_one (ps_expr (pe_bm PySem.F.plainAttrs_list PySem.F.slot_list_insert PySem.F.type_list_insert mt_insert (pv 13) (pa_cons (pv 16) (pa_cons (pe_c c__law_thing hr (by omega) (by rfl) (pa_cons (pv 17) pa_nil)) pa_nil))))) (pss_one (ps_if (pt_cmpR op_eq (pv 15) pe_int (nomark _)) (pss_one (ps_expr (pe_bm PySem.F.plainAttrs_list PySem.F.slot_list_insert PySem.F.type_list_insert mt_insert (pv 13) (pa_cons (pv 16) (pa_cons (pe_ix (r := rIxL K) ix_list (pe_op op_cat (pe_op op_cat (pv 4) (pv 5)) (pe_lst (pa_cons pe_str pa_nil))) (pe_op op_mod (pe_callTy call_int1 (by rfl) T.m_int (by decide +kernel) (pa_cons (pv 17) pa_nil)) pe_int) (fun _ _ => rfl)) pa_nil))))) (pss_one (ps_if (PW.pt (pw_and (pt_cmpR op_eq (pv 15) pe_int (nomark _)) (pw_and1 (pt_cmpR op_lt (pv 16) (pe_callB call_len (by rfl) T.m_len (by decide +kernel) (pa_cons (pv 13) pa_nil)) (nomark _))))) (pss_one (ps_asg (pe_ix (r := rIxL K) ix_list (pe_op op_cat (pv 4) (pv 5)) (pe_op op_mod (pe_callTy call_int1 (by rfl) T.m_int (by decide +kernel) (pa_cons (pv 17) pa_nil)) pe_int) (fun _ _ => rfl)) (pg_sub (pv 13) (pv 16) set_list))) pss_nil))))))))))
      (pss_cons (ps_set (i := 18) nd rfl (.inl rfl) (pe_callTy call_tuple_of (by rfl) T.m_tuple (by decide +kernel) (pa_cons (pv 13) pa_nil)))
      (pss_cons (ps_if (pt_cmpR op_eq (pe_ix (r := rIxL K) ix_list (pv 11) pe_int (fun _ _ => rfl)) pe_int (nomark _)) (pss_one (ps_set (i := 18) nd rfl (.inl rfl) (pv 13))) (pss_one (ps_if (pt_cmpR op_eq (pe_ix (r := rIxL K) ix_list (pv 11) pe_int (fun _ _ => rfl)) pe_int (nomark _)) (pss_one (ps_set (i := 18) nd rfl (.inl rfl) (pe_c c__law_thing hr (by omega) (by rfl) (pa_cons (pe_ix (r := rIxL K) ix_list (pv 11) pe_int (fun _ _ => rfl)) pa_nil)))) pss_nil)))
      (pss_cons (ps_set (i := 19) nd rfl (.inl rfl) (pe_c c__law_wrong hr (by omega) (by rfl) (pa_cons (pv 1) (pa_cons (pv 2) (pa_cons (pv 3) (pa_cons (pv 6) (pa_cons (pv 18) pa_nil)))))))
      (pss_one (ps_for PassesOwn.never rfl (pi_range1 (by rfl) T.m_range (pa_cons pe_int pa_nil)) (pg_name (i := 15) nd rfl (.inl rfl)) (pss_cons (ps_if (pt_cmpR (KnQ.op_neOwn hr.units0) (pe_c c__law_ask hr (by omega) (by rfl) (pa_cons (pv 15) (pa_cons (pv 7) (pa_cons (pv 9) (pa_cons (pv 18) pa_nil))))) (pv 19) (nomark _)) (pss_one (ps_ret pe_bl)) pss_nil)
      (pss_cons (ps_set (i := 20) nd rfl (.inl rfl) (pe_c c__law_thing hr (by omega) (by rfl) (pa_cons (pe_ix (r := rIxL K) ix_list (pv 11) pe_int (fun _ _ => rfl)) pa_nil)))
      (pss_one (ps_if (pt_cmpR (KnQ.op_neOwn hr.units0) (pe_c c__law_ask hr (by omega) (by rfl) (pa_cons (pv 15) (pa_cons (pv 7) (pa_cons (pv 20) (pa_cons (pv 18) pa_nil))))) (pe_lst (pa_cons pe_str (pa_cons (pv 20) pa_nil))) (nomark _)) (pss_one (ps_ret pe_bl)) pss_nil))))))))))))))
      (pss_one (ps_ret pe_bl))))))))), ?_⟩
    refine ⟨.ref a, rfl, a, ns, 6, 5, 5, rfl, hS, by decide, by decide, by decide, by decide, by decide, fun H1 t s0 sl fd n1 n2 as ss fs zs s1 sy => ?_⟩
    refine ⟨t, _, rfl, .inl (.inl sy.at_), rfl, .int s0, _, rfl, .ref sl, _, rfl, .ref fd, _, rfl, .ref n1, _, rfl, .ref n2, [], rfl, rfl, ?_⟩
    have lz := sy.lz
    have gs := sy.gm.gs
    have hi80 := gs.hi
    obtain ⟨ls, fl8, ms0, fcl⟩ := sy.fl
    have ff2 := sy.ff.len
    have fit := fit_of fl8 ms0 fcl ff2
    have nmf : ∀ p ∈ fs, nameB (.str p.2) = true := fun p hp => sy.hz _ (List.mem_of_mem_drop (sy.ff.mem p hp).2.2)
    -- the sights
    refine ⟨.ref a, rfl, a, ns, 3, rfl, s1.seq hS, fun c3 => ⟨.ref n1, rfl, .ref n2, rfl, ?_⟩⟩
    refine ⟨c3, n1, n2, zs.take 5, zs.drop 5, rfl, sy.h3, sy.h4, by rw [List.length_take]; omega, by rw [List.length_take]; omega, by rw [List.length_drop]; omega, fun z h => sy.hz z (List.mem_of_mem_take h), fun z h => sy.hz z (List.mem_of_mem_drop h), fun H2 SD tb s2 nSD eSD gw l100 ndt => ?_⟩
    refine setn_use rfl ?_
    -- the machine
    refine ⟨.int s0, rfl, .ref sl, rfl, .ref fd, rfl, fun x dx nx ndx nex => ?_⟩
    have sx : Same H2 (upd (upd H2 dx (.own x)) x (.ins C dx [])) := fun b o e => (upd_ne (ne_of_none e nx)).trans ((upd_ne (ne_of_none e ndx)).trans e)
    refine ⟨x, dx, sl, s0, .ref fd, true, as, ss, fs, rfl, upd_same, sx _ _ (s2 _ _ sy.h1), (sy.st.mono s2).mono sx, .inr ⟨fd, rfl, sx _ _ (s2 _ _ sy.h2)⟩, sy.gm, fun H3 dx' l1 l2 l3 l4 w2 n2' kp mo f1 f2 f3 f4 => ⟨rfl, setn_use rfl ?_⟩⟩
    have s23 : Same H2 H3 := fun b o e => kp b o (sx _ _ e) (ne_of_none e nx)
    have hm : MachAt C H3 x s0 ss fs := ⟨_, _, _, _, _, _, _, _, mo⟩
    have s24 := s23
    have s02 := s1.trans s2
    have s03 := s02.trans s23
    have eSD3 := s23 _ _ eSD
    -- the watch, of one sight more
    refine ⟨.ref SD, rfl, SD, _, rfl, .inl eSD3, fun GV nGV => ?_⟩
    have sGV := same_upd (o := .dK (fkv tb)) nGV
    have eGV : (upd H3 GV (.dK (fkv tb))) GV = some (.dK (fkv tb)) := upd_same
    refine setn_use rfl ?_
    have fGV : H3 GV = none := nGV
    generalize upd H3 GV (.dK (fkv tb)) = H3a at sGV eGV ⊢
    obtain ⟨tb2, etb2, ltb2, mtb2, _⟩ := fkv_put tb "zzz" "zz"
    refine ⟨.ref GV, rfl, GV, _, rfl, DPut.k (k := .inr "zzz") eGV (small (by unfold fkv; rw [List.length_map]; have := gw.2; omega)), ?_⟩
    have eGV2 : (upd H3a GV (.dK (putK (fkv tb) (.inr "zzz") (.str "zz")))) GV = some (.dK (fkv tb2)) := by rw [upd_same, etb2]
    have sV : Same H3 (upd H3a GV (.dK (putK (fkv tb) (.inr "zzz") (.str "zz")))) := same_set fGV sGV
    generalize upd H3a GV (.dK (putK (fkv tb) (.inr "zzz") (.str "zz"))) = H3b at sV eGV2 ⊢
    have look2 : ∀ w : Str, w ≠ "zzz" → look tb2 w = look tb w := fun w hw => by
      have e : valV (fkv tb2) (.inr w) = valV (fkv tb) (.inr w) := by rw [← etb2, valV_put, if_neg (fun e => hw (Sum.inr.inj e))]
      rw [look_val, look_val] at e
      generalize look tb2 w = p at e ⊢
      generalize look tb w = r at e ⊢
      cases p <;> cases r <;> cases e <;> rfl
    have gw2 : GoodW tb2 := ⟨fun p hp => (mtb2 p hp).elim (gw.1 p) (fun e => by rw [e]; exact ⟨by decide +kernel, by decide +kernel⟩), by omega⟩
    have hm3 := hm.mono sV
    refine ⟨.ref GV, rfl, fun px dpx npx ndpx nexp => ?_⟩
    have sy2 : Same H3b (upd (upd H3b dpx (.own px)) px (.ins D dpx [])) := fun b o e => (upd_ne (ne_of_none e npx)).trans ((upd_ne (ne_of_none e ndpx)).trans e)
    refine ⟨px, dpx, GV, tb2, rfl, upd_same, sy2 _ _ eGV2, gw2, fun H4 kp2 wa => ⟨rfl, setn_use rfl ?_⟩⟩
    have s34 : Same H3b H4 := fun b o e => kp2 b o (sy2 _ _ e) (ne_of_none e npx)
    have s4 : Same H3 H4 := sV.trans s34
    have s06 := s03.trans s4
    have hm6 := hm3.mono s34
    have hw6 := wa
    have s16 := s2.trans (s23.trans s4)
    have esl6 := s16 _ _ sy.h1
    have est6 := sy.st.mono s16
    have efd6 := s16 _ _ sy.h2
    have en16 := s16 _ _ sy.h3
    have en26 := s16 _ _ sy.h4
    have eSD6 := s4 _ _ eSD3
    clear s16 s34 s4 sV eGV2 sGV sy2 kp2 wa hm3 hm s23 s24 s02 s03 eSD3 eSD eGV s1 s2
    have wz : ∀ x ∈ ss, look tb2 x.2.1 = look tb x.2.1 := fun x hx => look2 _ (sy.hzz _ (sy.wd x hx)).2
    have mV : ∀ (G : Hp) (z : Str), nameB (.str z) = true → Val K G (.str z) := fun G z hz => .str z (by have := (name_size hz).2; omega)
    obtain ⟨fds, _, nfds, mfds⟩ := allL_strs (fs.map (·.2))
    have wF : KnA.Words (srtN fds) (fs.map (·.2)) := ⟨(srtN_words nfds).up, (srtN_words nfds).nd, fun z => ((srtN_words nfds).mem z).trans (mfds z)⟩
    have iu := inU_of fl8 fcl ff2 wF nmf
    have mU0 : ((s0, []) : KnA.Dat) ∈ allU ls (srtN fds) := (allU_mem _ _ _).mpr ⟨ms0, (partsD_mem _ _).mpr (List.nil_sublist _)⟩
    refine ⟨3, rfl, by decide, by decide, ?_⟩
    refine for_range (lo := 0) (n := 3) (fun i σ G => ∃ (y10 y11 y12 y13 y14 y15 y16 y17 y18 y19 y20 : Option V), σ = [some (.ref a), some (.int s0), some (.ref sl), some (.ref fd), some (.ref n1), some (.ref n2), some (.ref SD), some (.ref x), some (.ref GV), some (.ref px), y10, y11, y12, y13, y14, y15, y16, y17, y18, y19, y20] ∧ Same H4 G)
      ⟨none, none, none, none, none, none, none, none, none, none, none, rfl, Same.refl _⟩ (fun i σ G hi hP => ?_) (fun σ G hP => ?_)
    · obtain ⟨y10, y11, y12, y13, y14, y15, y16, y17, y18, y19, y20, rfl, S⟩ := hP
      refine setn_use rfl ?_
      refine ⟨.ref a, rfl, .int (0 + (i : Int)), rfl, 4, (0 + (i : Int)), rfl, rfl, a, ns, 4 + i, by show [V.ref a, V.int (4 + (0 + (i : Int)))] = _; rw [show (4 + (0 + (i : Int))) = ((4 + i : Nat) : Int) by omega], (s06.trans S).seq hS, fun ck => ⟨szl rfl, fun q1 k1 => ⟨szl rfl, fun q2 k2 => ?_⟩⟩⟩
      have v1 := same_upd (o := .lst [.int 25]) k1
      have v2 := same_upd (o := .lst [.int 64]) k2
      refine ⟨q2, 24, [.int 64], rfl, rfl, upd_same, by decide, by decide, smallE (by decide), fun q3 k3 => ?_⟩
      have v3 := same_upd (o := .lst (List.replicate (24 : Int).toNat [V.int 64]).flatten) k3
      refine ⟨q1, q3, _, _, rfl, rfl, (v2.trans v3) _ _ upd_same, upd_same, smallE (by decide), fun q4 k4 => ⟨szl rfl, fun q5 k5 => ?_⟩⟩
      have v4 := same_upd (o := .lst ([V.int 25] ++ (List.replicate (24 : Int).toNat [V.int 64]).flatten)) k4
      have v5 := same_upd (o := .lst [V.int 6, .int 18, .int 18, .int 6, .int 18, .int 18, .int 6]) k5
      refine ⟨q4, q5, _, _, rfl, rfl, v5 _ _ upd_same, upd_same, smallE (by decide), fun q7 k7 => ?_⟩
      have v7 := (v1.trans (v2.trans (v3.trans (v4.trans v5)))).trans (same_upd (o := .lst ([V.int 25] ++ (List.replicate (24 : Int).toNat [V.int 64]).flatten ++ [V.int 6, .int 18, .int 18, .int 6, .int 18, .int 18, .int 6])) k7)
      refine ⟨ck, q7, [25] ++ List.replicate 24 64 ++ [6, 18, 18, 6, 18, 18, 6], rfl, .inl (.inl upd_same), by decide, by decide, fun G2 R rs sG2 nR eR hrl hb => ?_⟩
      have S2 := S.trans (v7.trans sG2)
      refine setn_use rfl ?_
      clear v1 v2 v3 v4 v5 v7 k1 k2 k3 k4 k5 k7
      obtain ⟨r0, _, w0, z0, y0⟩ := row_at hrl hb (j := 0) (t := 25) rfl
      have lrs : rs.length = 32 := hrl
      have digit : ∀ j, j < 32 → ∃ rv, (rs.map V.int)[j]? = some (.int rv) := fun j hj => ⟨rs[j]'(by omega), by rw [List.getElem?_map, List.getElem?_eq_getElem (by omega)]; rfl⟩
      clear hb
      refine ⟨.ref R, rfl, 1, rfl, .ref R, rfl, R, rs.map V.int, 0, .int r0, rfl, rfl, .inl (.inl eR), atI_nat (j := 0) w0, 1, r0, rfl, rfl, _, rfl, R, rs.map V.int, rfl, .inl (.inl eR), fun DG nDG => ?_⟩
      obtain ⟨dgs, eds, lds⟩ := cut_ints rs (some 1) (some (1 + r0))
      have sDG := same_upd (o := .lst (cutV (rs.map V.int) (some 1) (some (1 + r0)))) nDG
      have eDG : (upd G2 DG (.lst (cutV (rs.map V.int) (some 1) (some (1 + r0))))) DG = some (.lst (dgs.map V.int)) := by rw [upd_same, eds]
      generalize upd G2 DG (.lst (cutV (rs.map V.int) (some 1) (some (1 + r0)))) = G3 at sDG eDG ⊢
      have S3 := S2.trans sDG
      have eR3 := sDG _ _ eR
      refine ⟨.ref sl, rfl, .int s0, rfl, DG, sl, s0, dgs, as, ss, rfl, eDG, S3 _ _ esl6, est6.mono S3, by omega, by omega, sy.gm.live, fun G5 p ks s5 np ep gks lks => ?_⟩
      refine setn_use rfl ?_
      have S5 := S3.trans s5
      have eR5 := s5 _ _ eR3
      have hks := goes_lt gks
      have lks' : ks.length ≤ 32 := by omega
      refine ⟨.ref sl, rfl, .ref SD, rfl, .ref p, rfl, sl, SD, p, as, ss, tb, ks, rfl, S5 _ _ esl6, est6.mono S5, S5 _ _ eSD6, ep, hks, by omega, fun G7 SN s7 eSN => ?_⟩
      have S7 := S5.trans s7
      have eR7 := s7 _ _ eR5
      refine ⟨16, rfl, SN, _, rfl, .inl (.inl eSN), fun SL nSL => ?_⟩
      have ecut : cutV ((seenW tb ss ks).map V.str) none (some 16) = ((seenW tb ss ks).take 16).map V.str := by
        rw [show (16 : Int) = ((16 : Nat) : Int) from rfl, cut_to, List.map_take]
      have sSL := same_upd (o := .lst (cutV ((seenW tb ss ks).map V.str) none (some 16))) nSL
      have eSL : (upd G7 SL (.lst (cutV ((seenW tb ss ks).map V.str) none (some 16)))) SL = some (.lst (((seenW tb ss ks).take 16).map V.str)) := by rw [upd_same, ecut]
      refine setn_use rfl ?_
      generalize upd G7 SL (.lst (cutV ((seenW tb ss ks).map V.str) none (some 16))) = G8 at sSL eSL ⊢
      refine ⟨2, rfl, by decide, by decide, ?_⟩
      refine for_range (lo := 0) (n := 2) (fun t σ G => ∃ (y14 y15 y16 y17 : Option V) (xs : List V), σ = [some (.ref a), some (.int s0), some (.ref sl), some (.ref fd), some (.ref n1), some (.ref n2), some (.ref SD), some (.ref x), some (.ref GV), some (.ref px), some (.int (0 + (i : Int))), some (.ref R), some (.ref p), some (.ref SL), y14, y15, y16, y17, y18, y19, y20] ∧ Same G7 G ∧ G SL = some (.lst xs) ∧ xs.length ≤ 16 + t ∧ ∀ y ∈ xs, Val K G y)
        ⟨y14, y15, y16, y17, _, rfl, sSL, eSL, by rw [List.length_map, List.length_take]; omega, fun y hy => ?_⟩ (fun t σ G ht hP => ?_) (fun σ G hP => ?_)
      · obtain ⟨z, hz, rfl⟩ := List.mem_map.mp hy
        exact mV _ z (seen_names gw ss ks z (List.mem_of_mem_take hz))
      · obtain ⟨y14, y15, y16, y17, xs, rfl, SG, eG, lx, nx⟩ := hP
        refine setn_use rfl ?_
        have SH := S7.trans SG
        have eRG := SG _ _ eR7
        obtain ⟨kd, gkd⟩ := digit (25 + 3 * t) (by omega)
        obtain ⟨av, gav⟩ := digit (26 + 3 * t) (by omega)
        obtain ⟨dv, gdv⟩ := digit (27 + 3 * t) (by omega)
        refine ⟨.ref R, rfl, .int (0 + (t : Int)), rfl, 3, 0 + (t : Int), rfl, rfl, .inl ⟨by omega, by omega⟩, 25, 3 * (0 + (t : Int)), rfl, rfl, R, rs.map V.int, 25 + 3 * (0 + (t : Int)), .int kd, rfl, rfl, .inl (.inl eRG), by rw [show (25 : Int) + 3 * (0 + (t : Int)) = ((25 + 3 * t : Nat) : Int) by omega]; exact atI_nat gkd, ?_⟩
        refine setn_use rfl ?_
        refine ⟨.ref R, rfl, .int (0 + (t : Int)), rfl, 3, 0 + (t : Int), rfl, rfl, .inl ⟨by omega, by omega⟩, 26, 3 * (0 + (t : Int)), rfl, rfl, R, rs.map V.int, 26 + 3 * (0 + (t : Int)), .int av, rfl, rfl, .inl (.inl eRG), by rw [show (26 : Int) + 3 * (0 + (t : Int)) = ((26 + 3 * t : Nat) : Int) by omega]; exact atI_nat gav, .inl ⟨av, rfl, .ref SL, rfl, .ref SL, xs.length, rfl, .inl ⟨_, .inl (.inl eG), rfl⟩, (xs.length : Int), 1, rfl, rfl, av, (xs.length : Int) + 1, rfl, rfl, by omega, ?_⟩⟩
        obtain ⟨at', hat, eat⟩ := mod_ix (n := xs.length + 1) (by omega) av
        show gName 16 (V.int (av % ((xs.length : Int) + 1))) _ _ _
        rw [show av % ((xs.length : Int) + 1) = (at' : Int) from eat]
        refine setn_use rfl ?_
        refine ⟨.ref R, rfl, .int (0 + (t : Int)), rfl, 3, 0 + (t : Int), rfl, rfl, .inl ⟨by omega, by omega⟩, 27, 3 * (0 + (t : Int)), rfl, rfl, R, rs.map V.int, 27 + 3 * (0 + (t : Int)), .int dv, rfl, rfl, .inl (.inl eRG), by rw [show (27 : Int) + 3 * (0 + (t : Int)) = ((27 + 3 * t : Nat) : Int) by omega]; exact atI_nat gdv, ?_⟩
        refine setn_use rfl ?_
        refine ⟨.int kd, rfl, rfl, _, rfl, ite2 (fun c0 => ?_) (fun c0 => ?_)⟩
        · refine ⟨.ref SL, rfl, .inl ⟨rfl, _, .inl (.inl eG)⟩, .int (at' : Int), rfl, .int dv, rfl, dv, rfl, fun v G2 s2 th => ?_⟩
          have eG2 := s2 _ _ eG
          refine tNil_use ?_
          refine ⟨SL, xs, (at' : Int), v, rfl, rfl, eG2, small (by omega), by omega, by omega, ?_⟩
          rw [Int.toNat_natCast]
          exact ⟨_, _, _, _, _, rfl, same_set nSL (SG.trans s2), upd_same, by rw [ins_len (by omega)]; omega, ins_ok eG2 (fun y hy => (nx y hy).mono s2) th.hv ins_mem⟩
        · refine ⟨.int kd, rfl, rfl, _, rfl, ite2 (fun c1 => ?_) (fun c1 => ?_)⟩
          · refine ⟨.ref SL, rfl, .inl ⟨rfl, _, .inl (.inl eG)⟩, .int (at' : Int), rfl, .ref n1, rfl, .ref n2, rfl, n1, n2, _, _, rfl, rfl, SH _ _ en16, SH _ _ en26, smallE (by rw [List.length_map, List.length_map, List.length_take, List.length_drop]; omega), fun p1 np1 => ⟨szl rfl, fun p2 np2 => ?_⟩⟩
            have w1 := same_upd (o := .lst ((zs.take 5).map V.str ++ (zs.drop 5).map V.str)) np1
            have f1 : (upd G p1 (.lst ((zs.take 5).map V.str ++ (zs.drop 5).map V.str))) p1 = some (.lst (zs.map V.str)) := by rw [upd_same, ← List.map_append, List.take_append_drop]
            generalize upd G p1 (.lst ((zs.take 5).map V.str ++ (zs.drop 5).map V.str)) = Ga at w1 f1 np2 ⊢
            have w2 := same_upd (o := .lst [V.str "zz"]) np2
            have f2 : (upd Ga p2 (.lst [V.str "zz"])) p2 = some (.lst [.str "zz"]) := upd_same
            have f12 := w2 _ _ f1
            generalize upd Ga p2 (.lst [V.str "zz"]) = Gb at w2 f2 f12 ⊢
            refine ⟨p1, p2, _, _, rfl, rfl, f12, f2, smallE (by rw [List.length_map]; show _ + 1 ≤ _; omega), fun p3 np3 => ?_⟩
            have w3 := same_upd (o := .lst (zs.map V.str ++ [V.str "zz"])) np3
            have f3 : (upd Gb p3 (.lst (zs.map V.str ++ [V.str "zz"]))) p3 = some (.lst ((zs ++ [("zz" : Str)]).map V.str)) := by rw [upd_same, List.map_append]; rfl
            generalize upd Gb p3 (.lst (zs.map V.str ++ [V.str "zz"])) = Gc at w3 f3 ⊢
            obtain ⟨j, hj, ej⟩ := mod_ix (n := 8) (by decide) dv
            have l8 : (zs ++ [("zz" : Str)]).length = 8 := by rw [List.length_append, lz]; rfl
            have gz : ((zs ++ [("zz" : Str)]).map V.str)[j]? = some (.str ((zs ++ [("zz" : Str)])[j]'(by omega))) := by rw [List.getElem?_map, List.getElem?_eq_getElem (by omega)]; rfl
            have mz := List.getElem_mem (l := zs ++ [("zz" : Str)]) (n := j) (by omega)
            generalize (zs ++ [("zz" : Str)])[j]'(by omega) = z at gz mz
            have nz : nameB (.str z) = true := (List.mem_append.mp mz).elim (sy.hz z) fun h => by rw [List.mem_singleton.mp h]; decide +kernel
            have s2 := w1.trans (w2.trans w3)
            have eG2 := s2 _ _ eG
            refine ⟨.int dv, rfl, .inl ⟨dv, rfl, dv, 8, rfl, rfl, (show (0 : Int) < 8 by decide), p3, (zs ++ [("zz" : Str)]).map V.str, _, .str z, rfl, rfl, .inl (.inl f3), by rw [show dv % 8 = (j : Int) from ej]; exact atI_nat gz, ?_⟩⟩
            refine tNil_use ?_
            refine ⟨SL, xs, (at' : Int), .str z, rfl, rfl, eG2, small (by omega), by omega, by omega, ?_⟩
            rw [Int.toNat_natCast]
            exact ⟨_, _, _, _, _, rfl, same_set nSL (SG.trans s2), upd_same, by rw [ins_len (by omega)]; omega, ins_ok eG2 (fun y hy => (nx y hy).mono s2) (mV _ z nz) ins_mem⟩
          · have stay : ∃ (z14 z15 z16 z17 : Option V) (xs' : List V), [some (V.ref a), some (.int s0), some (.ref sl), some (.ref fd), some (.ref n1), some (.ref n2), some (.ref SD), some (.ref x), some (.ref GV), some (.ref px), some (.int (0 + (i : Int))), some (.ref R), some (.ref p), some (.ref SL), some (.int (0 + (t : Int))), some (.int kd), some (.int (at' : Int)), some (.int dv), y18, y19, y20] = [some (V.ref a), some (.int s0), some (.ref sl), some (.ref fd), some (.ref n1), some (.ref n2), some (.ref SD), some (.ref x), some (.ref GV), some (.ref px), some (.int (0 + (i : Int))), some (.ref R), some (.ref p), some (.ref SL), z14, z15, z16, z17, y18, y19, y20] ∧ Same G7 G ∧ G SL = some (.lst xs') ∧ xs'.length ≤ 16 + (t + 1) ∧ ∀ y ∈ xs', Val K G y := ⟨_, _, _, _, xs, rfl, SG, eG, by omega, nx⟩
            refine ⟨.int kd, rfl, rfl, _, rfl, ite2 (fun c2 => ?_) (fun c2 => stay)⟩
            refine ⟨.int (at' : Int), rfl, .ref SL, rfl, .ref SL, xs.length, rfl, .inl ⟨_, .inl (.inl eG), rfl⟩, (at' : Int), (xs.length : Int), rfl, rfl, _, rfl, ite2 (fun c3 => ?_) (fun c3 => stay)⟩
            have lt' : at' < xs.length := by have : (at' : Int) < (xs.length : Int) := of_decide_eq_true c3; omega
            refine ⟨.ref n1, rfl, .ref n2, rfl, n1, n2, _, _, rfl, rfl, SH _ _ en16, SH _ _ en26, smallE (by rw [List.length_map, List.length_map, List.length_take, List.length_drop]; omega), fun p1 np1 => ?_⟩
            have w1 := same_upd (o := .lst ((zs.take 5).map V.str ++ (zs.drop 5).map V.str)) np1
            have f1 : (upd G p1 (.lst ((zs.take 5).map V.str ++ (zs.drop 5).map V.str))) p1 = some (.lst (zs.map V.str)) := by rw [upd_same, ← List.map_append, List.take_append_drop]
            generalize upd G p1 (.lst ((zs.take 5).map V.str ++ (zs.drop 5).map V.str)) = Ga at w1 f1 ⊢
            obtain ⟨j, hj, ej⟩ := mod_ix (n := 7) (by decide) dv
            have gz : (zs.map V.str)[j]? = some (.str (zs[j]'(by omega))) := by rw [List.getElem?_map, List.getElem?_eq_getElem (by omega)]; rfl
            have mz := List.getElem_mem (l := zs) (n := j) (by omega)
            generalize zs[j]'(by omega) = z at gz mz
            have nz := sy.hz z mz
            have eG2 := w1 _ _ eG
            refine ⟨.int dv, rfl, .inl ⟨dv, rfl, dv, 7, rfl, rfl, (show (0 : Int) < 7 by decide), p1, zs.map V.str, _, .str z, rfl, rfl, .inl (.inl f1), by rw [show dv % 7 = (j : Int) from ej]; exact atI_nat gz, ?_⟩⟩
            refine ⟨.ref SL, rfl, .int (at' : Int), rfl, SL, xs, (at' : Int), at', rfl, rfl, eG2, ixN_nat lt', ?_⟩
            exact ⟨_, _, _, _, _, rfl, same_set nSL (SG.trans w1), upd_same, by rw [List.length_set]; omega, ins_ok eG2 (fun y hy => (nx y hy).mono w1) (mV _ z nz) set_mem⟩
      · obtain ⟨y14, y15, y16, y17, xs, rfl, SG, eG, lx, nx⟩ := hP
        refine ⟨.ref SL, rfl, SL, xs, rfl, .inl ⟨.inl (.inl eG), fun DT nDT => ?_⟩⟩
        have sDT := same_upd (o := .tup xs) nDT
        have eDT : (upd G DT (.tup xs)) DT = some (.tup xs) := upd_same
        refine setn_use rfl ?_
        generalize upd G DT (.tup xs) = Ga at sDT eDT ⊢
        have SGa := SG.trans sDT
        have eGa := sDT _ _ eG
        have eRa := SGa _ _ eR7
        obtain ⟨e31, g31⟩ := digit 31 (by omega)
        obtain ⟨e26, g26⟩ := digit 26 (by omega)
        obtain ⟨e29, g29⟩ := digit 29 (by omega)
        refine KnC.nx_if (fun σ G2 => ∃ v, σ = [some (.ref a), some (.int s0), some (.ref sl), some (.ref fd), some (.ref n1), some (.ref n2), some (.ref SD), some (.ref x), some (.ref GV), some (.ref px), some (.int (0 + (i : Int))), some (.ref R), some (.ref p), some (.ref SL), y14, y15, y16, y17, some v, y19, y20] ∧ Same G7 G2 ∧ RowArg K G2 v) (fun k => ?_) (fun σ G2 hT => ?_)
        · refine ⟨.ref R, rfl, R, rs.map V.int, 31, .int e31, rfl, rfl, .inl (.inl eRa), atI_nat (j := 31) g31, rfl, _, rfl, ite2 (fun c0 => ?_) (fun c0 => ?_)⟩
          · exact ⟨.ref SL, rfl, k _ _ ⟨.ref SL, rfl, SGa, .inr ⟨_, .lst eGa, kit_ty (show kitB "list" "tuple" = some false by decide +kernel), by show (match Ga SL with | some (.tup xs) => some xs | _ => none) = _; rw [eGa]⟩⟩⟩
          · refine ⟨.ref R, rfl, R, rs.map V.int, 31, .int e31, rfl, rfl, .inl (.inl eRa), atI_nat (j := 31) g31, rfl, _, rfl, ite2 (fun c1 => ?_) (fun c1 => ?_)⟩
            · exact ⟨.ref R, rfl, R, rs.map V.int, 26, .int e26, rfl, rfl, .inl (.inl eRa), atI_nat (j := 26) g26, e26, rfl, fun v G2 s2 th => k _ _ ⟨v, rfl, SGa.trans s2, thing_arg th⟩⟩
            · exact k _ _ ⟨.ref DT, rfl, SGa, .inl ⟨DT, xs, rfl, eDT, by omega, fun y hy => (nx y hy).mono sDT⟩⟩
        · obtain ⟨v, rfl, SG2, ra⟩ := hT
          have SH2 := S7.trans SG2
          refine ⟨.int s0, rfl, .ref sl, rfl, .ref fd, rfl, .ref SD, rfl, v, rfl, sl, fd, SD, v, s0, allU ls (srtN fds), as, ss, fs, tb, rfl, SH2 _ _ esl6, est6.mono SH2, hi80, SH2 _ _ efd6, SH2 _ _ eSD6, iu, mU0, ra, fun Gd DU o sd eDU due => ?_⟩
          refine setn_use rfl ?_
          have SGd := SG2.trans sd
          refine ⟨2, rfl, by decide, by decide, ?_⟩
          refine for_range (lo := 0) (n := 2) (fun j σ G => ∃ (y15 y20 : Option V), σ = [some (.ref a), some (.int s0), some (.ref sl), some (.ref fd), some (.ref n1), some (.ref n2), some (.ref SD), some (.ref x), some (.ref GV), some (.ref px), some (.int (0 + (i : Int))), some (.ref R), some (.ref p), some (.ref SL), y14, y15, y16, y17, some v, some (.ref DU), y20] ∧ Same Gd G)
            ⟨y15, y20, rfl, Same.refl _⟩ (fun j σ G hj hP => ?_) (fun σ G hP => ?_)
          · obtain ⟨y15, y20, rfl, U⟩ := hP
            refine setn_use rfl ?_
            have s2G := sd.trans U
            obtain ⟨et, raG⟩ := tupS_same ra s2G
            have SHG := SH2.trans s2G
            refine ⟨.int (0 + (j : Int)), rfl, .ref x, rfl, .ref px, rfl, v, rfl, 0 + (j : Int), x, .ref px, v, s0, ss, fs, rfl, hm6.mono SHG, sy.gm, sy.ff.nd, fit, raG, .inl ⟨px, tb2, rfl, hw6.mono SHG, fun Ge r o' se er due' => ?_⟩⟩
            have eo : o' = o := (due_same et (due_congr wz due')).one due
            subst eo
            refine ⟨.ref DU, rfl, r, DU, _, rfl, rfl, er, (U.trans se) _ _ eDU, due.own, _, rfl, iteF ?_⟩
            have SHe := SHG.trans se
            obtain ⟨_, raE⟩ := tupS_same raG se
            have eRe := (SGd.trans (U.trans se)) _ _ eR7
            refine ⟨.ref R, rfl, R, rs.map V.int, 29, .int e29, rfl, rfl, .inl (.inl eRe), atI_nat (j := 29) g29, e29, rfl, fun tv Gf sf th => ?_⟩
            refine setn_use rfl ?_
            have SHf := SHe.trans sf
            obtain ⟨_, raF⟩ := tupS_same raE sf
            obtain ⟨T0, hT0, ty0⟩ := th.hv.plain
            refine ⟨.int (0 + (j : Int)), rfl, .ref x, rfl, tv, rfl, v, rfl, 0 + (j : Int), x, tv, v, s0, ss, fs, rfl, hm6.mono SHf, sy.gm, sy.ff.nd, fit, raF, .inr ⟨_, ty0, KnW.kit_own T.ic_W T.it_W (fun e => by cases e) (KnW.plain_sub hT0), fun Gg r2 sg er2 => ?_⟩⟩
            exact ⟨tv, rfl, szl rfl, fun l nl => ⟨r2, l, _, rfl, rfl, (same_upd nl) _ _ er2, upd_same, two_own trivial th.hv.own, _, rfl, iteF ⟨_, _, rfl, (U.trans (se.trans (sf.trans sg))).trans (same_upd nl)⟩⟩⟩
          · obtain ⟨y15, y20, rfl, U⟩ := hP
            exact ⟨_, _, _, _, _, _, _, _, _, _, _, rfl, (S7.trans SGd).trans U⟩
    · obtain ⟨y10, y11, y12, y13, y14, y15, y16, y17, y18, y19, y20, rfl, S⟩ := hP
      exact q _

end
end Kn

set_option Elab.async false
set_option linter.all false
set_option maxRecDepth 100000
set_option maxHeartbeats 4000000
namespace Kn
open PySem PySem.Spec PyProof.Rows L2
open C8 (Cal pe_c pe_gc Mak pe_mk)
abbrev s_BadWatch_init : Stmt := inClass (topS 8) 0
theorem sc_BadWatch_init : FnScope ["self", "value"] ["self", "value"] (defScope s_BadWatch_init) := ⟨rfl, rfl, rfl, by decide +kernel, rfl, by decide +kernel, by decide +kernel⟩
abbrev s_BadSights_init : Stmt := inClass (topS 9) 0
theorem sc_BadSights_init : FnScope ["self", "at"] ["self", "at"] (defScope s_BadSights_init) := ⟨rfl, rfl, rfl, by decide +kernel, rfl, by decide +kernel, by decide +kernel⟩
section
variable {P : Program} {w : World} {K : PySem.W.Frag} {mg : Str → Option Value} {base : Heap}
theorem ok_BadWatch_init {f C C0 : Addr} {mc : Value} {fd : FuncData} (g0 : mg "KnowError" = some (.ref C0)) (B : KnX.BaseC K C0 mc) (ox : OexC K C) (no : PySem.W.findIn K (.ref C) "value" = some none) (F : Fun K "__init__" "BadWatch.__init__" s_BadWatch_init f fd) : FnOk P w K mg base CX0 1 f fd ["self", "value"] (KnX.spErr C "value" K) := by
  have nd := sc_BadWatch_init.nd
  refine F.ok sc_BadWatch_init (fun vs H Q E h => ?_) (fun cdv A outer s H vs Q E hr h => ?_)
  · obtain ⟨a, y, rfl, _⟩ := h
    rfl
  · obtain ⟨a, y, rfl, ha, q⟩ := h
    refine ⟨_, (pss_cons (ps_expr (KnX.pe_baseinit (by rfl) g0 B (pa_cons (pv 0) (pa_cons pe_str pa_nil)))) (pss_one (ps_ost (pv 0) (pv 1)))), ?_⟩
    exact ⟨.ref a, rfl, a, C, [.str _], rfl, Nat.le_of_ble_eq_true rfl, ox, ha, y, rfl, .ref a, rfl, a, C, rfl, ox, no, .inl ⟨ha, fun dx nd ne => q dx nd ne⟩⟩
theorem ok_BadSights_init {f C C0 : Addr} {mc : Value} {fd : FuncData} (g0 : mg "KnowError" = some (.ref C0)) (B : KnX.BaseC K C0 mc) (ox : OexC K C) (no : PySem.W.findIn K (.ref C) "at" = some none) (F : Fun K "__init__" "BadSights.__init__" s_BadSights_init f fd) : FnOk P w K mg base CX0 1 f fd ["self", "at"] (KnX.spErr C "at" K) := by
  have nd := sc_BadSights_init.nd
  refine F.ok sc_BadSights_init (fun vs H Q E h => ?_) (fun cdv A outer s H vs Q E hr h => ?_)
  · obtain ⟨a, y, rfl, _⟩ := h
    rfl
  · obtain ⟨a, y, rfl, ha, q⟩ := h
    refine ⟨_, (pss_cons (ps_expr (KnX.pe_baseinit (by rfl) g0 B (pa_cons (pv 0) (pa_cons pe_str pa_nil)))) (pss_one (ps_ost (pv 0) (pv 1)))), ?_⟩
    exact ⟨.ref a, rfl, a, C, [.str _], rfl, Nat.le_of_ble_eq_true rfl, ox, ha, y, rfl, .ref a, rfl, a, C, rfl, ox, no, .inl ⟨ha, fun dx nd ne => q dx nd ne⟩⟩
end
theorem exm_mk {K : PySem.W.Frag} {A B : Addr} {b : Bool} (eB : PySem.W.subIn K (.ref B) (.type "BaseException") = some true) (iB : PySem.W.isClsIn K B = true) (tB : PySem.W.typeIn K (.ref B) = some (.type "type")) (s : PySem.W.subIn K (.ref A) (.ref B) = some b) : PySem.W.exmOne K (.ref A) (.ref B) = some b := by
  have i2 : (PySem.W.clsIn K B).isSome = true := iB
  unfold PySem.W.exmOne
  rw [if_pos (by rw [eB]; rfl)]
  show (if ((PySem.W.clsIn K B).isSome && PySem.W.typeIn K (.ref B) == some (.type "type")) = true then PySem.W.subIn K (.ref A) (.ref B) else none) = some b
  rw [if_pos (by rw [i2, tB]; rfl), s]
theorem all_mk {l : PySem.W.OpenLaw} {w : World} {K : PySem.W.Frag} {h : Heap} {mg : Str → Option Value} {fa : Addr} (X : K.In h) (G : h.Ns mainGlobals mg) (hfa : mg "law" = some (.ref fa))
    {t19 : Addr} {tc19 : Value} {td19 : Option Addr} {tn19 : Nat} {ts19 : Array (Option Value)}
    {t17 : Addr} {tc17 : Value} {td17 : Option Addr} {tn17 : Nat} {ts17 : Array (Option Value)}
    {od0 an0 : Option Addr} {sl0 : Array (Option Value)} {oc0 kV0 dc0 pm0 cd0 ct0 : Value} {f0 : Addr}
    {od1 an1 : Option Addr} {sl1 : Array (Option Value)} {oc1 kV1 dc1 pm1 cd1 ct1 : Value} {f1 : Addr}
    {od2 an2 : Option Addr} {sl2 : Array (Option Value)} {oc2 kV2 dc2 pm2 cd2 ct2 : Value} {f2 : Addr}
    {od3 an3 : Option Addr} {sl3 : Array (Option Value)} {oc3 kV3 dc3 pm3 cd3 ct3 : Value} {f3 : Addr}
    {od4 an4 : Option Addr} {sl4 : Array (Option Value)} {oc4 kV4 dc4 pm4 cd4 ct4 : Value} {f4 : Addr}
    {od5 an5 : Option Addr} {sl5 : Array (Option Value)} {oc5 kV5 dc5 pm5 cd5 ct5 : Value} {f5 : Addr}
    {od6 an6 : Option Addr} {sl6 : Array (Option Value)} {oc6 kV6 dc6 pm6 cd6 ct6 : Value} {f6 : Addr}
    {od7 an7 : Option Addr} {sl7 : Array (Option Value)} {oc7 kV7 dc7 pm7 cd7 ct7 : Value} {f7 : Addr}
    {od8 an8 : Option Addr} {sl8 : Array (Option Value)} {oc8 kV8 dc8 pm8 cd8 ct8 : Value} {f8 : Addr}
    {od9 an9 : Option Addr} {sl9 : Array (Option Value)} {oc9 kV9 dc9 pm9 cd9 ct9 : Value} {f9 : Addr}
    {od10 an10 : Option Addr} {sl10 : Array (Option Value)} {oc10 kV10 dc10 pm10 cd10 ct10 : Value} {f10 : Addr}
    {od11 an11 : Option Addr} {sl11 : Array (Option Value)} {oc11 kV11 dc11 pm11 cd11 ct11 : Value} {f11 : Addr}
    {od12 an12 : Option Addr} {sl12 : Array (Option Value)} {oc12 kV12 dc12 pm12 cd12 ct12 : Value} {f12 : Addr}
    {od13 an13 : Option Addr} {sl13 : Array (Option Value)} {oc13 kV13 dc13 pm13 cd13 ct13 : Value} {f13 : Addr}
    {od14 an14 : Option Addr} {sl14 : Array (Option Value)} {oc14 kV14 dc14 pm14 cd14 ct14 : Value} {f14 : Addr}
    {od15 an15 : Option Addr} {sl15 : Array (Option Value)} {oc15 kV15 dc15 pm15 cd15 ct15 : Value} {f15 : Addr}
    {od16 an16 : Option Addr} {sl16 : Array (Option Value)} {oc16 kV16 dc16 pm16 cd16 ct16 : Value} {f16 : Addr}
    {od17 an17 : Option Addr} {sl17 : Array (Option Value)} {oc17 kV17 dc17 pm17 cd17 ct17 : Value} {f17 : Addr}
    {od18 an18 : Option Addr} {sl18 : Array (Option Value)} {oc18 kV18 dc18 pm18 cd18 ct18 : Value} {f18 : Addr}
    {od19 an19 : Option Addr} {sl19 : Array (Option Value)} {oc19 kV19 dc19 pm19 cd19 ct19 : Value} {f19 : Addr}
    {od20 an20 : Option Addr} {sl20 : Array (Option Value)} {oc20 kV20 dc20 pm20 cd20 ct20 : Value} {f20 : Addr}
    {od21 an21 : Option Addr} {sl21 : Array (Option Value)} {oc21 kV21 dc21 pm21 cd21 ct21 : Value} {f21 : Addr}
    {od22 an22 : Option Addr} {sl22 : Array (Option Value)} {oc22 kV22 dc22 pm22 cd22 ct22 : Value} {f22 : Addr}
    {od23 an23 : Option Addr} {sl23 : Array (Option Value)} {oc23 kV23 dc23 pm23 cd23 ct23 : Value} {f23 : Addr}
    {od24 an24 : Option Addr} {sl24 : Array (Option Value)} {oc24 kV24 dc24 pm24 cd24 ct24 : Value} {f24 : Addr}
    {od25 an25 : Option Addr} {sl25 : Array (Option Value)} {oc25 kV25 dc25 pm25 cd25 ct25 : Value} {f25 : Addr}
    {od26 an26 : Option Addr} {sl26 : Array (Option Value)} {oc26 kV26 dc26 pm26 cd26 ct26 : Value} {f26 : Addr}
    {od27 an27 : Option Addr} {sl27 : Array (Option Value)} {oc27 kV27 dc27 pm27 cd27 ct27 : Value} {f27 : Addr}
    {od28 an28 : Option Addr} {sl28 : Array (Option Value)} {oc28 kV28 dc28 pm28 cd28 ct28 : Value} {f28 : Addr}
    {od29 an29 : Option Addr} {sl29 : Array (Option Value)} {oc29 kV29 dc29 pm29 cd29 ct29 : Value} {f29 : Addr}
    {od30 an30 : Option Addr} {sl30 : Array (Option Value)} {oc30 kV30 dc30 pm30 cd30 ct30 : Value} {f30 : Addr}
    {od31 an31 : Option Addr} {sl31 : Array (Option Value)} {oc31 kV31 dc31 pm31 cd31 ct31 : Value} {f31 : Addr}
    {od32 an32 : Option Addr} {sl32 : Array (Option Value)} {oc32 kV32 dc32 pm32 cd32 ct32 : Value} {f32 : Addr}
    {od33 an33 : Option Addr} {sl33 : Array (Option Value)} {oc33 kV33 dc33 pm33 cd33 ct33 : Value} {f33 : Addr}
    {od34 an34 : Option Addr} {sl34 : Array (Option Value)} {oc34 kV34 dc34 pm34 cd34 ct34 : Value} {f34 : Addr}
    {od35 an35 : Option Addr} {sl35 : Array (Option Value)} {oc35 kV35 dc35 pm35 cd35 ct35 : Value} {f35 : Addr}
    {od36 an36 : Option Addr} {sl36 : Array (Option Value)} {oc36 kV36 dc36 pm36 cd36 ct36 : Value} {f36 : Addr}
    {od37 an37 : Option Addr} {sl37 : Array (Option Value)} {oc37 kV37 dc37 pm37 cd37 ct37 : Value} {f37 : Addr}
    {od38 an38 : Option Addr} {sl38 : Array (Option Value)} {oc38 kV38 dc38 pm38 cd38 ct38 : Value} {f38 : Addr}
    {od39 an39 : Option Addr} {sl39 : Array (Option Value)} {oc39 kV39 dc39 pm39 cd39 ct39 : Value} {f39 : Addr}
    {od40 an40 : Option Addr} {sl40 : Array (Option Value)} {oc40 kV40 dc40 pm40 cd40 ct40 : Value} {f40 : Addr}
    {od41 an41 : Option Addr} {sl41 : Array (Option Value)} {oc41 kV41 dc41 pm41 cd41 ct41 : Value} {f41 : Addr}
    {od42 an42 : Option Addr} {sl42 : Array (Option Value)} {oc42 kV42 dc42 pm42 cd42 ct42 : Value} {f42 : Addr}
    {od43 an43 : Option Addr} {sl43 : Array (Option Value)} {oc43 kV43 dc43 pm43 cd43 ct43 : Value} {f43 : Addr}
    {od44 an44 : Option Addr} {sl44 : Array (Option Value)} {oc44 kV44 dc44 pm44 cd44 ct44 : Value} {f44 : Addr}
    {od45 an45 : Option Addr} {sl45 : Array (Option Value)} {oc45 kV45 dc45 pm45 cd45 ct45 : Value} {f45 : Addr}
    {od46 an46 : Option Addr} {sl46 : Array (Option Value)} {oc46 kV46 dc46 pm46 cd46 ct46 : Value} {f46 : Addr}
    {od47 an47 : Option Addr} {sl47 : Array (Option Value)} {oc47 kV47 dc47 pm47 cd47 ct47 : Value} {f47 : Addr}
    {od48 an48 : Option Addr} {sl48 : Array (Option Value)} {oc48 kV48 dc48 pm48 cd48 ct48 : Value} {f48 : Addr}
    {C : Addr} (aC : PySem.W.nsIn K mainGlobals "Machine" = some (some (.ref C)))
    {D : Addr} (aD : PySem.W.nsIn K mainGlobals "Watch" = some (some (.ref D)))
    {S : Addr} (aS : PySem.W.nsIn K mainGlobals "Spread" = some (some (.ref S)))
    (ihn : PySem.W.specialIn K (.builtin "object.__class__") "__get__" = some (some (.builtin "getset_descriptor.__get__"))) (ihtk : PySem.W.takesIn K (.builtin "object.__class__") = some true)
    {C0 : Addr} (aK : PySem.W.nsIn K mainGlobals "KnowError" = some (some (.ref C0))) (rdK : PySem.W.readsIn K C0 (.type "type") = true) (gaK : PySem.W.specialIn K (.ref C0) "__getattribute__" = some (some (.builtin "type.__getattribute__"))) (atK : PySem.W.findCls K (.ref C0) (.type "type") "__init__" = some (.val (.builtin "ValueError.__init__")))
    {cBadWatch iBadWatch : Addr} {nmBadWatch qBadWatch : Str} {NBadWatch : Addr} {bsBadWatch : List Value} {snBadWatch : List Str} {subBadWatch : List Value} {abBadWatch : Bool} {colBadWatch : Option Bool} {ddBadWatch : Option Addr} {k0BadWatch k1BadWatch k2BadWatch k3BadWatch k5BadWatch : Option Value} {odBadWatch anBadWatch : Option Addr} {slBadWatch : Array (Option Value)} {ocBadWatch kVBadWatch dcBadWatch pmBadWatch cdBadWatch ctBadWatch : Value}
    (aBadWatch : PySem.W.nsIn K mainGlobals "BadWatch" = some (some (.ref cBadWatch)))
    (xBadWatch : K.lookup cBadWatch = some (excClassObj nmBadWatch qBadWatch cBadWatch NBadWatch bsBadWatch [.ref C0, .type "ValueError", .type "Exception", .type "BaseException", .type "object"] true snBadWatch subBadWatch abBadWatch colBadWatch ddBadWatch k0BadWatch k1BadWatch k2BadWatch k3BadWatch k5BadWatch "ValueError.__new__"))
    (saBadWatch : PySem.W.findIn K (.ref cBadWatch) "__setattr__" = some (some (.builtin "object.__setattr__"))) (gaBadWatch : PySem.W.findIn K (.ref cBadWatch) "__getattribute__" = some (some (.builtin "BaseException.__getattribute__"))) (ggBadWatch : PySem.W.findIn K (.ref cBadWatch) "__getattr__" = some none) (nbBadWatch : PySem.W.findIn K (.ref cBadWatch) "value" = some none)
    (aiBadWatch : PySem.W.findIn K (.ref cBadWatch) "__init__" = some (some (.ref iBadWatch))) (tiBadWatch : PySem.W.typeIn K (.ref iBadWatch) = some (.type "function"))
    (liBadWatch : K.lookup iBadWatch = some ⟨ocBadWatch, odBadWatch, .func (PySem.W.fnOf "__init__" "BadWatch.__init__" (defArgs s_BadWatch_init) (defBody s_BadWatch_init) (defScope s_BadWatch_init) .none kVBadWatch dcBadWatch pmBadWatch anBadWatch cdBadWatch ctBadWatch), slBadWatch⟩) (diBadWatch : PySem.W.codeIn K cdBadWatch "BadWatch.__init__" = true) (kiBadWatch : PySem.W.keepIn K (.ref iBadWatch) = true)
    (kCBadWatch : PySem.W.keepIn K (.ref cBadWatch) = true) (eCBadWatch : PySem.W.subIn K (.ref cBadWatch) (.type "BaseException") = some true) (tCBadWatch : PySem.W.typeIn K (.ref cBadWatch) = some (.type "type")) (hCBadWatch : PySem.W.hasDictIn K cBadWatch = true) (iCBadWatch : PySem.W.isClsIn K cBadWatch = true)
    {cBadSights iBadSights : Addr} {nmBadSights qBadSights : Str} {NBadSights : Addr} {bsBadSights : List Value} {snBadSights : List Str} {subBadSights : List Value} {abBadSights : Bool} {colBadSights : Option Bool} {ddBadSights : Option Addr} {k0BadSights k1BadSights k2BadSights k3BadSights k5BadSights : Option Value} {odBadSights anBadSights : Option Addr} {slBadSights : Array (Option Value)} {ocBadSights kVBadSights dcBadSights pmBadSights cdBadSights ctBadSights : Value}
    (aBadSights : PySem.W.nsIn K mainGlobals "BadSights" = some (some (.ref cBadSights)))
    (xBadSights : K.lookup cBadSights = some (excClassObj nmBadSights qBadSights cBadSights NBadSights bsBadSights [.ref C0, .type "ValueError", .type "Exception", .type "BaseException", .type "object"] true snBadSights subBadSights abBadSights colBadSights ddBadSights k0BadSights k1BadSights k2BadSights k3BadSights k5BadSights "ValueError.__new__"))
    (saBadSights : PySem.W.findIn K (.ref cBadSights) "__setattr__" = some (some (.builtin "object.__setattr__"))) (gaBadSights : PySem.W.findIn K (.ref cBadSights) "__getattribute__" = some (some (.builtin "BaseException.__getattribute__"))) (ggBadSights : PySem.W.findIn K (.ref cBadSights) "__getattr__" = some none) (nbBadSights : PySem.W.findIn K (.ref cBadSights) "at" = some none)
    (aiBadSights : PySem.W.findIn K (.ref cBadSights) "__init__" = some (some (.ref iBadSights))) (tiBadSights : PySem.W.typeIn K (.ref iBadSights) = some (.type "function"))
    (liBadSights : K.lookup iBadSights = some ⟨ocBadSights, odBadSights, .func (PySem.W.fnOf "__init__" "BadSights.__init__" (defArgs s_BadSights_init) (defBody s_BadSights_init) (defScope s_BadSights_init) .none kVBadSights dcBadSights pmBadSights anBadSights cdBadSights ctBadSights), slBadSights⟩) (diBadSights : PySem.W.codeIn K cdBadSights "BadSights.__init__" = true) (kiBadSights : PySem.W.keepIn K (.ref iBadSights) = true)
    (kCBadSights : PySem.W.keepIn K (.ref cBadSights) = true) (eCBadSights : PySem.W.subIn K (.ref cBadSights) (.type "BaseException") = some true) (tCBadSights : PySem.W.typeIn K (.ref cBadSights) = some (.type "type")) (hCBadSights : PySem.W.hasDictIn K cBadSights = true) (iCBadSights : PySem.W.isClsIn K cBadSights = true)
    (sBadWatchBadWatch : PySem.W.subIn K (.ref cBadWatch) (.ref cBadWatch) = some true)
    (sBadWatchBadSights : PySem.W.subIn K (.ref cBadWatch) (.ref cBadSights) = some false)
    (sBadSightsBadWatch : PySem.W.subIn K (.ref cBadSights) (.ref cBadWatch) = some false)
    (sBadSightsBadSights : PySem.W.subIn K (.ref cBadSights) (.ref cBadSights) = some true)
    (a0 : PySem.W.nsIn K mainGlobals "_law_mix" = some (some (.ref f0)))
    (l0 : K.lookup f0 = some ⟨oc0, od0, .func (PySem.W.fnOf "_law_mix" "_law_mix" (defArgs s__law_mix) (defBody s__law_mix) (defScope s__law_mix) .none kV0 dc0 pm0 an0 cd0 ct0), sl0⟩) (d0 : PySem.W.codeIn K cd0 "_law_mix" = true) (k0 : PySem.W.keepIn K (.ref f0) = true)
    (a1 : PySem.W.nsIn K mainGlobals "_law_row" = some (some (.ref f1)))
    (l1 : K.lookup f1 = some ⟨oc1, od1, .func (PySem.W.fnOf "_law_row" "_law_row" (defArgs s__law_row) (defBody s__law_row) (defScope s__law_row) .none kV1 dc1 pm1 an1 cd1 ct1), sl1⟩) (d1 : PySem.W.codeIn K cd1 "_law_row" = true) (k1 : PySem.W.keepIn K (.ref f1) = true)
    (a2 : PySem.W.nsIn K mainGlobals "_law_names" = some (some (.ref f2)))
    (l2 : K.lookup f2 = some ⟨oc2, od2, .func (PySem.W.fnOf "_law_names" "_law_names" (defArgs s__law_names) (defBody s__law_names) (defScope s__law_names) .none kV2 dc2 pm2 an2 cd2 ct2), sl2⟩) (d2 : PySem.W.codeIn K cd2 "_law_names" = true) (k2 : PySem.W.keepIn K (.ref f2) = true)
    (a3 : PySem.W.nsIn K mainGlobals "_law_cell" = some (some (.ref f3)))
    (l3 : K.lookup f3 = some ⟨oc3, od3, .func (PySem.W.fnOf "_law_cell" "_law_cell" (defArgs s__law_cell) (defBody s__law_cell) (defScope s__law_cell) .none kV3 dc3 pm3 an3 cd3 ct3), sl3⟩) (d3 : PySem.W.codeIn K cd3 "_law_cell" = true) (k3 : PySem.W.keepIn K (.ref f3) = true)
    (a4 : PySem.W.nsIn K mainGlobals "_law_machine" = some (some (.ref f4)))
    (l4 : K.lookup f4 = some ⟨oc4, od4, .func (PySem.W.fnOf "_law_machine" "_law_machine" (defArgs s__law_machine) (defBody s__law_machine) (defScope s__law_machine) .none kV4 dc4 pm4 an4 cd4 ct4), sl4⟩) (d4 : PySem.W.codeIn K cd4 "_law_machine" = true) (k4 : PySem.W.keepIn K (.ref f4) = true)
    (a5 : PySem.W.nsIn K mainGlobals "_law_faults" = some (some (.ref f5)))
    (l5 : K.lookup f5 = some ⟨oc5, od5, .func (PySem.W.fnOf "_law_faults" "_law_faults" (defArgs s__law_faults) (defBody s__law_faults) (defScope s__law_faults) .none kV5 dc5 pm5 an5 cd5 ct5), sl5⟩) (d5 : PySem.W.codeIn K cd5 "_law_faults" = true) (k5 : PySem.W.keepIn K (.ref f5) = true)
    (a6 : PySem.W.nsIn K mainGlobals "_law_system" = some (some (.ref f6)))
    (l6 : K.lookup f6 = some ⟨oc6, od6, .func (PySem.W.fnOf "_law_system" "_law_system" (defArgs s__law_system) (defBody s__law_system) (defScope s__law_system) .none kV6 dc6 pm6 an6 cd6 ct6), sl6⟩) (d6 : PySem.W.codeIn K cd6 "_law_system" = true) (k6 : PySem.W.keepIn K (.ref f6) = true)
    (a7 : PySem.W.nsIn K mainGlobals "_law_sights" = some (some (.ref f7)))
    (l7 : K.lookup f7 = some ⟨oc7, od7, .func (PySem.W.fnOf "_law_sights" "_law_sights" (defArgs s__law_sights) (defBody s__law_sights) (defScope s__law_sights) .none kV7 dc7 pm7 an7 cd7 ct7), sl7⟩) (d7 : PySem.W.codeIn K cd7 "_law_sights" = true) (k7 : PySem.W.keepIn K (.ref f7) = true)
    (a8 : PySem.W.nsIn K mainGlobals "is_whole" = some (some (.ref f8)))
    (l8 : K.lookup f8 = some ⟨oc8, od8, .func (PySem.W.fnOf "is_whole" "is_whole" (defArgs s_is_whole) (defBody s_is_whole) (defScope s_is_whole) .none kV8 dc8 pm8 an8 cd8 ct8), sl8⟩) (d8 : PySem.W.codeIn K cd8 "is_whole" = true) (k8 : PySem.W.keepIn K (.ref f8) = true)
    (a9 : PySem.W.nsIn K mainGlobals "is_state" = some (some (.ref f9)))
    (l9 : K.lookup f9 = some ⟨oc9, od9, .func (PySem.W.fnOf "is_state" "is_state" (defArgs s_is_state) (defBody s_is_state) (defScope s_is_state) .none kV9 dc9 pm9 an9 cd9 ct9), sl9⟩) (d9 : PySem.W.codeIn K cd9 "is_state" = true) (k9 : PySem.W.keepIn K (.ref f9) = true)
    (a10 : PySem.W.nsIn K mainGlobals "is_row" = some (some (.ref f10)))
    (l10 : K.lookup f10 = some ⟨oc10, od10, .func (PySem.W.fnOf "is_row" "is_row" (defArgs s_is_row) (defBody s_is_row) (defScope s_is_row) .none kV10 dc10 pm10 an10 cd10 ct10), sl10⟩) (d10 : PySem.W.codeIn K cd10 "is_row" = true) (k10 : PySem.W.keepIn K (.ref f10) = true)
    (a11 : PySem.W.nsIn K mainGlobals "is_name" = some (some (.ref f11)))
    (l11 : K.lookup f11 = some ⟨oc11, od11, .func (PySem.W.fnOf "is_name" "is_name" (defArgs s_is_name) (defBody s_is_name) (defScope s_is_name) .none kV11 dc11 pm11 an11 cd11 ct11), sl11⟩) (d11 : PySem.W.codeIn K cd11 "is_name" = true) (k11 : PySem.W.keepIn K (.ref f11) = true)
    (a12 : PySem.W.nsIn K mainGlobals "is_step" = some (some (.ref f12)))
    (l12 : K.lookup f12 = some ⟨oc12, od12, .func (PySem.W.fnOf "is_step" "is_step" (defArgs s_is_step) (defBody s_is_step) (defScope s_is_step) .none kV12 dc12 pm12 an12 cd12 ct12), sl12⟩) (d12 : PySem.W.codeIn K cd12 "is_step" = true) (k12 : PySem.W.keepIn K (.ref f12) = true)
    (a13 : PySem.W.nsIn K mainGlobals "check_steps" = some (some (.ref f13)))
    (l13 : K.lookup f13 = some ⟨oc13, od13, .func (PySem.W.fnOf "check_steps" "check_steps" (defArgs s_check_steps) (defBody s_check_steps) (defScope s_check_steps) .none kV13 dc13 pm13 an13 cd13 ct13), sl13⟩) (d13 : PySem.W.codeIn K cd13 "check_steps" = true) (k13 : PySem.W.keepIn K (.ref f13) = true)
    (a14 : PySem.W.nsIn K mainGlobals "check_faults" = some (some (.ref f14)))
    (l14 : K.lookup f14 = some ⟨oc14, od14, .func (PySem.W.fnOf "check_faults" "check_faults" (defArgs s_check_faults) (defBody s_check_faults) (defScope s_check_faults) .none kV14 dc14 pm14 an14 cd14 ct14), sl14⟩) (d14 : PySem.W.codeIn K cd14 "check_faults" = true) (k14 : PySem.W.keepIn K (.ref f14) = true)
    (a15 : PySem.W.nsIn K mainGlobals "moves_by_state" = some (some (.ref f15)))
    (l15 : K.lookup f15 = some ⟨oc15, od15, .func (PySem.W.fnOf "moves_by_state" "moves_by_state" (defArgs s_moves_by_state) (defBody s_moves_by_state) (defScope s_moves_by_state) .none kV15 dc15 pm15 an15 cd15 ct15), sl15⟩) (d15 : PySem.W.codeIn K cd15 "moves_by_state" = true) (k15 : PySem.W.keepIn K (.ref f15) = true)
    (a16 : PySem.W.nsIn K mainGlobals "reached_states" = some (some (.ref f16)))
    (l16 : K.lookup f16 = some ⟨oc16, od16, .func (PySem.W.fnOf "reached_states" "reached_states" (defArgs s_reached_states) (defBody s_reached_states) (defScope s_reached_states) .none kV16 dc16 pm16 an16 cd16 ct16), sl16⟩) (d16 : PySem.W.codeIn K cd16 "reached_states" = true) (k16 : PySem.W.keepIn K (.ref f16) = true)
    (a17 : PySem.W.findIn K (.ref C) "__init__" = some (some (.ref f17))) (i17 : PySem.W.isFn K (.ref f17) = true)
    (l17 : K.lookup f17 = some ⟨oc17, od17, .func (PySem.W.fnOf "__init__" "Machine.__init__" (defArgs s_Machine_init) (defBody s_Machine_init) (defScope s_Machine_init) (.ref t17) kV17 dc17 pm17 an17 cd17 ct17), sl17⟩) (d17 : PySem.W.codeIn K cd17 "Machine.__init__" = true) (k17 : PySem.W.keepIn K (.ref f17) = true)
    (tl17 : K.lookup t17 = some ⟨tc17, td17, .seq #[.none] tn17, ts17⟩)
    (a18 : PySem.W.nsIn K mainGlobals "is_sights" = some (some (.ref f18)))
    (l18 : K.lookup f18 = some ⟨oc18, od18, .func (PySem.W.fnOf "is_sights" "is_sights" (defArgs s_is_sights) (defBody s_is_sights) (defScope s_is_sights) .none kV18 dc18 pm18 an18 cd18 ct18), sl18⟩) (d18 : PySem.W.codeIn K cd18 "is_sights" = true) (k18 : PySem.W.keepIn K (.ref f18) = true)
    (a19 : PySem.W.findIn K (.ref D) "__init__" = some (some (.ref f19))) (i19 : PySem.W.isFn K (.ref f19) = true)
    (l19 : K.lookup f19 = some ⟨oc19, od19, .func (PySem.W.fnOf "__init__" "Watch.__init__" (defArgs s_Watch_init) (defBody s_Watch_init) (defScope s_Watch_init) (.ref t19) kV19 dc19 pm19 an19 cd19 ct19), sl19⟩) (d19 : PySem.W.codeIn K cd19 "Watch.__init__" = true) (k19 : PySem.W.keepIn K (.ref f19) = true)
    (tl19 : K.lookup t19 = some ⟨tc19, td19, .seq #[.none] tn19, ts19⟩)
    (a20 : PySem.W.nsIn K mainGlobals "_law_walk" = some (some (.ref f20)))
    (l20 : K.lookup f20 = some ⟨oc20, od20, .func (PySem.W.fnOf "_law_walk" "_law_walk" (defArgs s__law_walk) (defBody s__law_walk) (defScope s__law_walk) .none kV20 dc20 pm20 an20 cd20 ct20), sl20⟩) (d20 : PySem.W.codeIn K cd20 "_law_walk" = true) (k20 : PySem.W.keepIn K (.ref f20) = true)
    (a21 : PySem.W.nsIn K mainGlobals "_law_seen" = some (some (.ref f21)))
    (l21 : K.lookup f21 = some ⟨oc21, od21, .func (PySem.W.fnOf "_law_seen" "_law_seen" (defArgs s__law_seen) (defBody s__law_seen) (defScope s__law_seen) .none kV21 dc21 pm21 an21 cd21 ct21), sl21⟩) (d21 : PySem.W.codeIn K cd21 "_law_seen" = true) (k21 : PySem.W.keepIn K (.ref f21) = true)
    (a22 : PySem.W.nsIn K mainGlobals "_law_deep" = some (some (.ref f22)))
    (l22 : K.lookup f22 = some ⟨oc22, od22, .func (PySem.W.fnOf "_law_deep" "_law_deep" (defArgs s__law_deep) (defBody s__law_deep) (defScope s__law_deep) .none kV22 dc22 pm22 an22 cd22 ct22), sl22⟩) (d22 : PySem.W.codeIn K cd22 "_law_deep" = true) (k22 : PySem.W.keepIn K (.ref f22) = true)
    (a23 : PySem.W.nsIn K mainGlobals "_law_thing" = some (some (.ref f23)))
    (l23 : K.lookup f23 = some ⟨oc23, od23, .func (PySem.W.fnOf "_law_thing" "_law_thing" (defArgs s__law_thing) (defBody s__law_thing) (defScope s__law_thing) .none kV23 dc23 pm23 an23 cd23 ct23), sl23⟩) (d23 : PySem.W.codeIn K cd23 "_law_thing" = true) (k23 : PySem.W.keepIn K (.ref f23) = true)
    (a24 : PySem.W.nsIn K mainGlobals "_law_pair_behind" = some (some (.ref f24)))
    (l24 : K.lookup f24 = some ⟨oc24, od24, .func (PySem.W.fnOf "_law_pair_behind" "_law_pair_behind" (defArgs s__law_pair_behind) (defBody s__law_pair_behind) (defScope s__law_pair_behind) .none kV24 dc24 pm24 an24 cd24 ct24), sl24⟩) (d24 : PySem.W.codeIn K cd24 "_law_pair_behind" = true) (k24 : PySem.W.keepIn K (.ref f24) = true)
    (a25 : PySem.W.nsIn K mainGlobals "_law_estimate" = some (some (.ref f25)))
    (l25 : K.lookup f25 = some ⟨oc25, od25, .func (PySem.W.fnOf "_law_estimate" "_law_estimate" (defArgs s__law_estimate) (defBody s__law_estimate) (defScope s__law_estimate) .none kV25 dc25 pm25 an25 cd25 ct25), sl25⟩) (d25 : PySem.W.codeIn K cd25 "_law_estimate" = true) (k25 : PySem.W.keepIn K (.ref f25) = true)
    (a26 : PySem.W.nsIn K mainGlobals "_law_is_name" = some (some (.ref f26)))
    (l26 : K.lookup f26 = some ⟨oc26, od26, .func (PySem.W.fnOf "_law_is_name" "_law_is_name" (defArgs s__law_is_name) (defBody s__law_is_name) (defScope s__law_is_name) .none kV26 dc26 pm26 an26 cd26 ct26), sl26⟩) (d26 : PySem.W.codeIn K cd26 "_law_is_name" = true) (k26 : PySem.W.keepIn K (.ref f26) = true)
    (a27 : PySem.W.nsIn K mainGlobals "_law_later" = some (some (.ref f27)))
    (l27 : K.lookup f27 = some ⟨oc27, od27, .func (PySem.W.fnOf "_law_later" "_law_later" (defArgs s__law_later) (defBody s__law_later) (defScope s__law_later) .none kV27 dc27 pm27 an27 cd27 ct27), sl27⟩) (d27 : PySem.W.codeIn K cd27 "_law_later" = true) (k27 : PySem.W.keepIn K (.ref f27) = true)
    (a28 : PySem.W.nsIn K mainGlobals "_law_wrong" = some (some (.ref f28)))
    (l28 : K.lookup f28 = some ⟨oc28, od28, .func (PySem.W.fnOf "_law_wrong" "_law_wrong" (defArgs s__law_wrong) (defBody s__law_wrong) (defScope s__law_wrong) .none kV28 dc28 pm28 an28 cd28 ct28), sl28⟩) (d28 : PySem.W.codeIn K cd28 "_law_wrong" = true) (k28 : PySem.W.keepIn K (.ref f28) = true)
    (a29 : PySem.W.nsIn K mainGlobals "check_watch" = some (some (.ref f29)))
    (l29 : K.lookup f29 = some ⟨oc29, od29, .func (PySem.W.fnOf "check_watch" "check_watch" (defArgs s_check_watch) (defBody s_check_watch) (defScope s_check_watch) .none kV29 dc29 pm29 an29 cd29 ct29), sl29⟩) (d29 : PySem.W.codeIn K cd29 "check_watch" = true) (k29 : PySem.W.keepIn K (.ref f29) = true)
    {p30 : Addr} {rs30 : List Value} (a30 : PySem.W.findIn K (.ref C) "states" = some (some (.ref p30))) (g30 : PySem.W.specialIn K (.ref p30) "__get__" = some (some (.builtin "property.__get__"))) (w30 : PySem.W.takesIn K (.ref p30) = some true) (r30 : PySem.W.recIn K p30 "property" = some (.ref f30 :: rs30))
    (l30 : K.lookup f30 = some ⟨oc30, od30, .func (PySem.W.fnOf "states" "Machine.states" (defArgs s_Machine_states) (defBody s_Machine_states) (defScope s_Machine_states) .none kV30 dc30 pm30 an30 cd30 ct30), sl30⟩) (d30 : PySem.W.codeIn K cd30 "Machine.states" = true) (k30 : PySem.W.keepIn K (.ref f30) = true)
    (a31 : PySem.W.nsIn K mainGlobals "parts" = some (some (.ref f31)))
    (l31 : K.lookup f31 = some ⟨oc31, od31, .func (PySem.W.fnOf "parts" "parts" (defArgs s_parts) (defBody s_parts) (defScope s_parts) .none kV31 dc31 pm31 an31 cd31 ct31), sl31⟩) (d31 : PySem.W.codeIn K cd31 "parts" = true) (k31 : PySem.W.keepIn K (.ref f31) = true)
    {p32 : Addr} {rs32 : List Value} (a32 : PySem.W.findIn K (.ref C) "faults" = some (some (.ref p32))) (g32 : PySem.W.specialIn K (.ref p32) "__get__" = some (some (.builtin "property.__get__"))) (w32 : PySem.W.takesIn K (.ref p32) = some true) (r32 : PySem.W.recIn K p32 "property" = some (.ref f32 :: rs32))
    (l32 : K.lookup f32 = some ⟨oc32, od32, .func (PySem.W.fnOf "faults" "Machine.faults" (defArgs s_Machine_faults) (defBody s_Machine_faults) (defScope s_Machine_faults) .none kV32 dc32 pm32 an32 cd32 ct32), sl32⟩) (d32 : PySem.W.codeIn K cd32 "Machine.faults" = true) (k32 : PySem.W.keepIn K (.ref f32) = true)
    {p33 : Addr} {rs33 : List Value} (a33 : PySem.W.findIn K (.ref C) "steps" = some (some (.ref p33))) (g33 : PySem.W.specialIn K (.ref p33) "__get__" = some (some (.builtin "property.__get__"))) (w33 : PySem.W.takesIn K (.ref p33) = some true) (r33 : PySem.W.recIn K p33 "property" = some (.ref f33 :: rs33))
    (l33 : K.lookup f33 = some ⟨oc33, od33, .func (PySem.W.fnOf "steps" "Machine.steps" (defArgs s_Machine_steps) (defBody s_Machine_steps) (defScope s_Machine_steps) .none kV33 dc33 pm33 an33 cd33 ct33), sl33⟩) (d33 : PySem.W.codeIn K cd33 "Machine.steps" = true) (k33 : PySem.W.keepIn K (.ref f33) = true)
    (a34 : PySem.W.nsIn K mainGlobals "with_fault" = some (some (.ref f34)))
    (l34 : K.lookup f34 = some ⟨oc34, od34, .func (PySem.W.fnOf "with_fault" "with_fault" (defArgs s_with_fault) (defBody s_with_fault) (defScope s_with_fault) .none kV34 dc34 pm34 an34 cd34 ct34), sl34⟩) (d34 : PySem.W.codeIn K cd34 "with_fault" = true) (k34 : PySem.W.keepIn K (.ref f34) = true)
    (a35 : PySem.W.findIn K (.ref D) "__getitem__" = some (some (.ref f35))) (i35 : PySem.W.isFn K (.ref f35) = true)
    (y35 : PySem.W.fnIn K f35 = true)
    (l35 : K.lookup f35 = some ⟨oc35, od35, .func (PySem.W.fnOf "__getitem__" "Watch.__getitem__" (defArgs s_Watch_getitem) (defBody s_Watch_getitem) (defScope s_Watch_getitem) .none kV35 dc35 pm35 an35 cd35 ct35), sl35⟩) (d35 : PySem.W.codeIn K cd35 "Watch.__getitem__" = true) (k35 : PySem.W.keepIn K (.ref f35) = true)
    (a36 : PySem.W.findIn K (.ref D) "__contains__" = some (some (.ref f36))) (i36 : PySem.W.isFn K (.ref f36) = true)
    (y36 : PySem.W.fnIn K f36 = true)
    (l36 : K.lookup f36 = some ⟨oc36, od36, .func (PySem.W.fnOf "__contains__" "Watch.__contains__" (defArgs s_Watch_contains) (defBody s_Watch_contains) (defScope s_Watch_contains) .none kV36 dc36 pm36 an36 cd36 ct36), sl36⟩) (d36 : PySem.W.codeIn K cd36 "Watch.__contains__" = true) (k36 : PySem.W.keepIn K (.ref f36) = true)
    (a37 : PySem.W.nsIn K mainGlobals "moves_of_pairs" = some (some (.ref f37)))
    (l37 : K.lookup f37 = some ⟨oc37, od37, .func (PySem.W.fnOf "moves_of_pairs" "moves_of_pairs" (defArgs s_moves_of_pairs) (defBody s_moves_of_pairs) (defScope s_moves_of_pairs) .none kV37 dc37 pm37 an37 cd37 ct37), sl37⟩) (d37 : PySem.W.codeIn K cd37 "moves_of_pairs" = true) (k37 : PySem.W.keepIn K (.ref f37) = true)
    {p38 : Addr} {rs38 : List Value} (a38 : PySem.W.findIn K (.ref C) "start" = some (some (.ref p38))) (g38 : PySem.W.specialIn K (.ref p38) "__get__" = some (some (.builtin "property.__get__"))) (w38 : PySem.W.takesIn K (.ref p38) = some true) (r38 : PySem.W.recIn K p38 "property" = some (.ref f38 :: rs38))
    (l38 : K.lookup f38 = some ⟨oc38, od38, .func (PySem.W.fnOf "start" "Machine.start" (defArgs s_Machine_start) (defBody s_Machine_start) (defScope s_Machine_start) .none kV38 dc38 pm38 an38 cd38 ct38), sl38⟩) (d38 : PySem.W.codeIn K cd38 "Machine.start" = true) (k38 : PySem.W.keepIn K (.ref f38) = true)
    (a39 : PySem.W.findIn K (.ref S) "closure" = some (some (.ref f39))) (i39 : PySem.W.isFn K (.ref f39) = true)
    (l39 : K.lookup f39 = some ⟨oc39, od39, .func (PySem.W.fnOf "closure" "Spread.closure" (defArgs s_Spread_closure) (defBody s_Spread_closure) (defScope s_Spread_closure) .none kV39 dc39 pm39 an39 cd39 ct39), sl39⟩) (d39 : PySem.W.codeIn K cd39 "Spread.closure" = true) (k39 : PySem.W.keepIn K (.ref f39) = true)
    (a40 : PySem.W.findIn K (.ref S) "__init__" = some (some (.ref f40))) (i40 : PySem.W.isFn K (.ref f40) = true)
    (l40 : K.lookup f40 = some ⟨oc40, od40, .func (PySem.W.fnOf "__init__" "Spread.__init__" (defArgs s_Spread_init) (defBody s_Spread_init) (defScope s_Spread_init) .none kV40 dc40 pm40 an40 cd40 ct40), sl40⟩) (d40 : PySem.W.codeIn K cd40 "Spread.__init__" = true) (k40 : PySem.W.keepIn K (.ref f40) = true)
    {p41 : Addr} {rs41 : List Value} (a41 : PySem.W.findIn K (.ref C) "fault_names" = some (some (.ref p41))) (g41 : PySem.W.specialIn K (.ref p41) "__get__" = some (some (.builtin "property.__get__"))) (w41 : PySem.W.takesIn K (.ref p41) = some true) (r41 : PySem.W.recIn K p41 "property" = some (.ref f41 :: rs41))
    (l41 : K.lookup f41 = some ⟨oc41, od41, .func (PySem.W.fnOf "fault_names" "Machine.fault_names" (defArgs s_Machine_fault_names) (defBody s_Machine_fault_names) (defScope s_Machine_fault_names) .none kV41 dc41 pm41 an41 cd41 ct41), sl41⟩) (d41 : PySem.W.codeIn K cd41 "Machine.fault_names" = true) (k41 : PySem.W.keepIn K (.ref f41) = true)
    (a42 : PySem.W.nsIn K mainGlobals "places_in" = some (some (.ref f42)))
    (l42 : K.lookup f42 = some ⟨oc42, od42, .func (PySem.W.fnOf "places_in" "places_in" (defArgs s_places_in) (defBody s_places_in) (defScope s_places_in) .none kV42 dc42 pm42 an42 cd42 ct42), sl42⟩) (d42 : PySem.W.codeIn K cd42 "places_in" = true) (k42 : PySem.W.keepIn K (.ref f42) = true)
    (a43 : PySem.W.findIn K (.ref S) "beyond" = some (some (.ref f43))) (i43 : PySem.W.isFn K (.ref f43) = true)
    (l43 : K.lookup f43 = some ⟨oc43, od43, .func (PySem.W.fnOf "beyond" "Spread.beyond" (defArgs s_Spread_beyond) (defBody s_Spread_beyond) (defScope s_Spread_beyond) .none kV43 dc43 pm43 an43 cd43 ct43), sl43⟩) (d43 : PySem.W.codeIn K cd43 "Spread.beyond" = true) (k43 : PySem.W.keepIn K (.ref f43) = true)
    (a44 : PySem.W.findIn K (.ref S) "pairs_in" = some (some (.ref f44))) (i44 : PySem.W.isFn K (.ref f44) = true)
    (l44 : K.lookup f44 = some ⟨oc44, od44, .func (PySem.W.fnOf "pairs_in" "Spread.pairs_in" (defArgs s_Spread_pairs_in) (defBody s_Spread_pairs_in) (defScope s_Spread_pairs_in) .none kV44 dc44 pm44 an44 cd44 ct44), sl44⟩) (d44 : PySem.W.codeIn K cd44 "Spread.pairs_in" = true) (k44 : PySem.W.keepIn K (.ref f44) = true)
    (a45 : PySem.W.nsIn K mainGlobals "after" = some (some (.ref f45)))
    (l45 : K.lookup f45 = some ⟨oc45, od45, .func (PySem.W.fnOf "after" "after" (defArgs s_after) (defBody s_after) (defScope s_after) .none kV45 dc45 pm45 an45 cd45 ct45), sl45⟩) (d45 : PySem.W.codeIn K cd45 "after" = true) (k45 : PySem.W.keepIn K (.ref f45) = true)
    (a46 : PySem.W.nsIn K mainGlobals "known" = some (some (.ref f46)))
    (l46 : K.lookup f46 = some ⟨oc46, od46, .func (PySem.W.fnOf "known" "known" (defArgs s_known) (defBody s_known) (defScope s_known) .none kV46 dc46 pm46 an46 cd46 ct46), sl46⟩) (d46 : PySem.W.codeIn K cd46 "known" = true) (k46 : PySem.W.keepIn K (.ref f46) = true)
    (a47 : PySem.W.nsIn K mainGlobals "_law_ask" = some (some (.ref f47)))
    (l47 : K.lookup f47 = some ⟨oc47, od47, .func (PySem.W.fnOf "_law_ask" "_law_ask" (defArgs s__law_ask) (defBody s__law_ask) (defScope s__law_ask) .none kV47 dc47 pm47 an47 cd47 ct47), sl47⟩) (d47 : PySem.W.codeIn K cd47 "_law_ask" = true) (k47 : PySem.W.keepIn K (.ref f47) = true)
    (a48 : PySem.W.nsIn K mainGlobals "law" = some (some (.ref f48)))
    (l48 : K.lookup f48 = some ⟨oc48, od48, .func (PySem.W.fnOf "law" "law" (defArgs s_law) (defBody s_law) (defScope s_law) .none kV48 dc48 pm48 an48 cd48 ct48), sl48⟩) (d48 : PySem.W.codeIn K cd48 "law" = true) (k48 : PySem.W.keepIn K (.ref f48) = true)
    (pgC : PySem.W.plainGet K C Str.empty = true) (hdC : PySem.W.hasDictIn K C = true) (poC : PySem.W.plainOver K C = true) (saC : PySem.W.findIn K (.ref C) "__setattr__" = some (some (.builtin "object.__setattr__"))) (mkC : PySem.W.makesIn K C = true) (kcC : PySem.W.keepIn K (.ref C) = true)
    (ihaC : PySem.W.findIn K (.ref C) "__class__" = some (some (.builtin "object.__class__"))) (ihmC : PySem.W.mroIn K C (.type "object") = some true)
    (n__start : PySem.W.findIn K (.ref C) "_start" = some none)
    (n__steps : PySem.W.findIn K (.ref C) "_steps" = some none)
    (n__words : PySem.W.findIn K (.ref C) "_words" = some none)
    (n__faults : PySem.W.findIn K (.ref C) "_faults" = some none)
    (n__states : PySem.W.findIn K (.ref C) "_states" = some none)
    (pgD : PySem.W.plainGet K D Str.empty = true) (hdD : PySem.W.hasDictIn K D = true) (poD : PySem.W.plainOver K D = true) (saD : PySem.W.findIn K (.ref D) "__setattr__" = some (some (.builtin "object.__setattr__"))) (mkD : PySem.W.makesIn K D = true) (kcD : PySem.W.keepIn K (.ref D) = true)
    (ihaD : PySem.W.findIn K (.ref D) "__class__" = some (some (.builtin "object.__class__"))) (ihmD : PySem.W.mroIn K D (.type "object") = some true)
    (n__sights : PySem.W.findIn K (.ref D) "_sights" = some none)
    (pgS : PySem.W.plainGet K S Str.empty = true) (hdS : PySem.W.hasDictIn K S = true) (poS : PySem.W.plainOver K S = true) (saS : PySem.W.findIn K (.ref S) "__setattr__" = some (some (.builtin "object.__setattr__"))) (mkS : PySem.W.makesIn K S = true) (kcS : PySem.W.keepIn K (.ref S) = true)
    (ihaS : PySem.W.findIn K (.ref S) "__class__" = some (some (.builtin "object.__class__"))) (ihmS : PySem.W.mroIn K S (.type "object") = some true)
    (n_pairs : PySem.W.findIn K (.ref S) "pairs" = some none)
    (n_places : PySem.W.findIn K (.ref S) "places" = some none)
    (n_first : PySem.W.findIn K (.ref S) "first" = some none)
    (n_entered : PySem.W.findIn K (.ref S) "entered" = some none)
    (ic_W : PySem.W.isClsIn K D = true)
    (it_W : PySem.W.typeIn K (.ref D) = some (.type "type"))
    (z_all : PySem.W.nsIn K mainGlobals "all" = some none)
    (z_bool : PySem.W.nsIn K mainGlobals "bool" = some none)
    (z_dict : PySem.W.nsIn K mainGlobals "dict" = some none)
    (z_enumerate : PySem.W.nsIn K mainGlobals "enumerate" = some none)
    (z_int : PySem.W.nsIn K mainGlobals "int" = some none)
    (z_isinstance : PySem.W.nsIn K mainGlobals "isinstance" = some none)
    (z_len : PySem.W.nsIn K mainGlobals "len" = some none)
    (z_list : PySem.W.nsIn K mainGlobals "list" = some none)
    (z_range : PySem.W.nsIn K mainGlobals "range" = some none)
    (z_set : PySem.W.nsIn K mainGlobals "set" = some none)
    (z_sorted : PySem.W.nsIn K mainGlobals "sorted" = some none)
    (z_str : PySem.W.nsIn K mainGlobals "str" = some none)
    (z_tuple : PySem.W.nsIn K mainGlobals "tuple" = some none)
    {u_GREATEST_STATE : Value} (g_GREATEST_STATE : PySem.W.nsIn K mainGlobals "GREATEST_STATE" = some (some u_GREATEST_STATE)) (r_GREATEST_STATE : RelV (.int 99) u_GREATEST_STATE)
    {u_LONGEST_NAME : Value} (g_LONGEST_NAME : PySem.W.nsIn K mainGlobals "LONGEST_NAME" = some (some u_LONGEST_NAME)) (r_LONGEST_NAME : RelV (.int 12) u_LONGEST_NAME)
    {u_LETTERS : Value} (g_LETTERS : PySem.W.nsIn K mainGlobals "LETTERS" = some (some u_LETTERS)) (r_LETTERS : RelV (.str "abcdefghijklmnopqrstuvwxyz") u_LETTERS)
    {u_MOST_STEPS : Value} (g_MOST_STEPS : PySem.W.nsIn K mainGlobals "MOST_STEPS" = some (some u_MOST_STEPS)) (r_MOST_STEPS : RelV (.int 80) u_MOST_STEPS)
    {u_MOST_LEAVING : Value} (g_MOST_LEAVING : PySem.W.nsIn K mainGlobals "MOST_LEAVING" = some (some u_MOST_LEAVING)) (r_MOST_LEAVING : RelV (.int 8) u_MOST_LEAVING)
    {u_MOST_FAULTS : Value} (g_MOST_FAULTS : PySem.W.nsIn K mainGlobals "MOST_FAULTS" = some (some u_MOST_FAULTS)) (r_MOST_FAULTS : RelV (.int 3) u_MOST_FAULTS)
    {u_MOST_WORDS : Value} (g_MOST_WORDS : PySem.W.nsIn K mainGlobals "MOST_WORDS" = some (some u_MOST_WORDS)) (r_MOST_WORDS : RelV (.int 14) u_MOST_WORDS) :
    ∃ fd : FuncData, (∀ (s : Shared) (v : Value), BindsTo s fd ⟨[v], []⟩ [("_law_script", v)]) ∧ ∀ base : Heap, K.In base → base.Ns mainGlobals mg → FnOk l.prog w K mg base CX0 10 fa fd ["_law_script"] (sp_law K) := by
  have e := hfa.symm.trans (PySem.W.mg_of X G a48)
  cases e
  have T : Txt K mg C D S := ⟨PySem.W.mg_none_of X G z_all, PySem.W.mg_none_of X G z_bool, PySem.W.mg_none_of X G z_dict, PySem.W.mg_none_of X G z_enumerate, PySem.W.mg_none_of X G z_int, PySem.W.mg_none_of X G z_isinstance, PySem.W.mg_none_of X G z_len, PySem.W.mg_none_of X G z_list, PySem.W.mg_none_of X G z_range, PySem.W.mg_none_of X G z_set, PySem.W.mg_none_of X G z_sorted, PySem.W.mg_none_of X G z_str, PySem.W.mg_none_of X G z_tuple, ⟨_, PySem.W.mg_of X G g_GREATEST_STATE, r_GREATEST_STATE⟩, ⟨_, PySem.W.mg_of X G g_LONGEST_NAME, r_LONGEST_NAME⟩, ⟨_, PySem.W.mg_of X G g_LETTERS, r_LETTERS⟩, ⟨_, PySem.W.mg_of X G g_MOST_STEPS, r_MOST_STEPS⟩, ⟨_, PySem.W.mg_of X G g_MOST_LEAVING, r_MOST_LEAVING⟩, ⟨_, PySem.W.mg_of X G g_MOST_FAULTS, r_MOST_FAULTS⟩, ⟨_, PySem.W.mg_of X G g_MOST_WORDS, r_MOST_WORDS⟩, ⟨pgC, hdC, poC, saC⟩, PySem.W.mg_of X G aC, ⟨⟨pgC, hdC, poC, saC⟩, ihaC, ihn, ihtk, ihmC, by unfold PySem.W.kitOne; rw [if_pos (by simp)]⟩, n__start, n__steps, n__words, n__faults, n__states, ⟨pgD, hdD, poD, saD⟩, PySem.W.mg_of X G aD, ⟨⟨pgD, hdD, poD, saD⟩, ihaD, ihn, ihtk, ihmD, by unfold PySem.W.kitOne; rw [if_pos (by simp)]⟩, n__sights, ⟨pgS, hdS, poS, saS⟩, PySem.W.mg_of X G aS, ⟨⟨pgS, hdS, poS, saS⟩, ihaS, ihn, ihtk, ihmS, by unfold PySem.W.kitOne; rw [if_pos (by simp)]⟩, n_pairs, n_places, n_first, n_entered, ic_W, it_W⟩
  have oxBadWatch : OexC K cBadWatch := ⟨⟨nmBadWatch, qBadWatch, NBadWatch, bsBadWatch, _, snBadWatch, subBadWatch, abBadWatch, colBadWatch, ddBadWatch, k0BadWatch, k1BadWatch, k2BadWatch, k3BadWatch, k5BadWatch, xBadWatch, rfl⟩, saBadWatch, eCBadWatch, tCBadWatch, kCBadWatch⟩
  have oxBadSights : OexC K cBadSights := ⟨⟨nmBadSights, qBadSights, NBadSights, bsBadSights, _, snBadSights, subBadSights, abBadSights, colBadSights, ddBadSights, k0BadSights, k1BadSights, k2BadSights, k3BadSights, k5BadSights, xBadSights, rfl⟩, saBadSights, eCBadSights, tCBadSights, kCBadSights⟩
  have BC : KnX.BaseC K C0 (.type "type") := ⟨⟨rdK, gaK⟩, atK⟩
  let ce : Es := ⟨cBadWatch, cBadSights⟩
  have TE : TxE K mg ce := ⟨PySem.W.mg_of X G aBadWatch, ⟨gaBadWatch, ggBadWatch, eCBadWatch, hCBadWatch⟩, nbBadWatch, PySem.W.mg_of X G aBadSights, ⟨gaBadSights, ggBadSights, eCBadSights, hCBadSights⟩, nbBadSights, exm_mk eCBadWatch iCBadWatch tCBadWatch sBadWatchBadWatch, exm_mk eCBadSights iCBadSights tCBadSights sBadWatchBadSights, exm_mk eCBadWatch iCBadWatch tCBadWatch sBadSightsBadWatch, exm_mk eCBadSights iCBadSights tCBadSights sBadSightsBadSights⟩
  have F0 := fun_mk (st := s__law_mix) l0 d0 k0
  have b0 := L2.Fun.binds F0 (ps := ["_law_cell_here", "_law_k"]) fun _ _ _ _ _ _ us hl => match us, hl with | [_, _], _ => rfl
  have F1 := fun_mk (st := s__law_row) l1 d1 k1
  have b1 := L2.Fun.binds F1 (ps := ["_law_cell_here", "_law_sizes"]) fun _ _ _ _ _ _ us hl => match us, hl with | [_, _], _ => rfl
  have F2 := fun_mk (st := s__law_names) l2 d2 k2
  have b2 := L2.Fun.binds F2 (ps := ["_law_cell_here", "_law_many"]) fun _ _ _ _ _ _ us hl => match us, hl with | [_, _], _ => rfl
  have F3 := fun_mk (st := s__law_cell) l3 d3 k3
  have b3 := L2.Fun.binds F3 (ps := ["_law_script", "_law_k"]) fun _ _ _ _ _ _ us hl => match us, hl with | [_, _], _ => rfl
  have F4 := fun_mk (st := s__law_machine) l4 d4 k4
  have b4 := L2.Fun.binds F4 (ps := ["_law_cell_here", "_law_names_here", "_law_most", "_law_extra"]) fun _ _ _ _ _ _ us hl => match us, hl with | [_, _, _, _], _ => rfl
  have F5 := fun_mk (st := s__law_faults) l5 d5 k5
  have b5 := L2.Fun.binds F5 (ps := ["_law_digit", "_law_steps", "_law_names_here", "_law_marks"]) fun _ _ _ _ _ _ us hl => match us, hl with | [_, _, _, _], _ => rfl
  have F6 := fun_mk (st := s__law_system) l6 d6 k6
  have b6 := L2.Fun.binds F6 (ps := ["_law_script", "_law_most", "_law_extra", "_law_many"]) fun _ _ _ _ _ _ us hl => match us, hl with | [_, _, _, _], _ => rfl
  have F7 := fun_mk (st := s__law_sights) l7 d7 k7
  have b7 := L2.Fun.binds F7 (ps := ["_law_cell_here", "_law_names_here", "_law_marks"]) fun _ _ _ _ _ _ us hl => match us, hl with | [_, _, _], _ => rfl
  have F8 := fun_mk (st := s_is_whole) l8 d8 k8
  have b8 := L2.Fun.binds F8 (ps := ["value"]) fun _ _ _ _ _ _ us hl => match us, hl with | [_], _ => rfl
  have F9 := fun_mk (st := s_is_state) l9 d9 k9
  have b9 := L2.Fun.binds F9 (ps := ["value"]) fun _ _ _ _ _ _ us hl => match us, hl with | [_], _ => rfl
  have F10 := fun_mk (st := s_is_row) l10 d10 k10
  have b10 := L2.Fun.binds F10 (ps := ["value"]) fun _ _ _ _ _ _ us hl => match us, hl with | [_], _ => rfl
  have F11 := fun_mk (st := s_is_name) l11 d11 k11
  have b11 := L2.Fun.binds F11 (ps := ["value"]) fun _ _ _ _ _ _ us hl => match us, hl with | [_], _ => rfl
  have F12 := fun_mk (st := s_is_step) l12 d12 k12
  have b12 := L2.Fun.binds F12 (ps := ["value"]) fun _ _ _ _ _ _ us hl => match us, hl with | [_], _ => rfl
  have F13 := fun_mk (st := s_check_steps) l13 d13 k13
  have b13 := L2.Fun.binds F13 (ps := ["steps"]) fun _ _ _ _ _ _ us hl => match us, hl with | [_], _ => rfl
  have F14 := fun_mk (st := s_check_faults) l14 d14 k14
  have b14 := L2.Fun.binds F14 (ps := ["faults", "words"]) fun _ _ _ _ _ _ us hl => match us, hl with | [_, _], _ => rfl
  have F15 := fun_mk (st := s_moves_by_state) l15 d15 k15
  have b15 := L2.Fun.binds F15 (ps := ["steps"]) fun _ _ _ _ _ _ us hl => match us, hl with | [_], _ => rfl
  have F16 := fun_mk (st := s_reached_states) l16 d16 k16
  have b16 := L2.Fun.binds F16 (ps := ["start", "leaving"]) fun _ _ _ _ _ _ us hl => match us, hl with | [_, _], _ => rfl
  have F17 : KnD.FunX K "__init__" "Machine.__init__" s_Machine_init f17 _ := ⟨⟨_, _, _, _, _, _, _, _, _, _, rfl, l17, d17⟩⟩
  have b17 := KnD.binds_full (st := s_Machine_init) (ps := ["self", "start", "steps", "faults"]) (dvs := [.non]) (its := [.none]) l17 d17 k17 tl17 rfl (.cons rfl .nil) (by simp) fun _ _ _ _ _ _ _ us its h1 h2 => match us, its, h1, h2 with | [_, _, _, _], [_], _, _ => ⟨_, rfl, rfl⟩
  have F18 := fun_mk (st := s_is_sights) l18 d18 k18
  have b18 := L2.Fun.binds F18 (ps := ["value"]) fun _ _ _ _ _ _ us hl => match us, hl with | [_], _ => rfl
  have F19 : KnD.FunX K "__init__" "Watch.__init__" s_Watch_init f19 _ := ⟨⟨_, _, _, _, _, _, _, _, _, _, rfl, l19, d19⟩⟩
  have b19 := KnD.binds_full (st := s_Watch_init) (ps := ["self", "sights"]) (dvs := [.non]) (its := [.none]) l19 d19 k19 tl19 rfl (.cons rfl .nil) (by simp) fun _ _ _ _ _ _ _ us its h1 h2 => match us, its, h1, h2 with | [_, _], [_], _, _ => ⟨_, rfl, rfl⟩
  have F20 := fun_mk (st := s__law_walk) l20 d20 k20
  have b20 := L2.Fun.binds F20 (ps := ["_law_row_here", "_law_steps", "_law_start"]) fun _ _ _ _ _ _ us hl => match us, hl with | [_, _, _], _ => rfl
  have F21 := fun_mk (st := s__law_seen) l21 d21 k21
  have b21 := L2.Fun.binds F21 (ps := ["_law_steps", "_law_table", "_law_path"]) fun _ _ _ _ _ _ us hl => match us, hl with | [_, _, _], _ => rfl
  have F22 := fun_mk (st := s__law_deep) l22 d22 k22
  have b22 := L2.Fun.binds F22 (ps := ["_law_many"]) fun _ _ _ _ _ _ us hl => match us, hl with | [_], _ => rfl
  have F23 := fun_mk (st := s__law_thing) l23 d23 k23
  have b23 := L2.Fun.binds F23 (ps := ["_law_digit"]) fun _ _ _ _ _ _ us hl => match us, hl with | [_], _ => rfl
  have F24 := fun_mk (st := s__law_pair_behind) l24 d24 k24
  have b24 := L2.Fun.binds F24 (ps := ["_law_pair", "_law_step", "_law_table"]) fun _ _ _ _ _ _ us hl => match us, hl with | [_, _, _], _ => rfl
  have F25 := fun_mk (st := s__law_estimate) l25 d25 k25
  have b25 := L2.Fun.binds F25 (ps := ["_law_pairs", "_law_steps", "_law_table", "_law_sights_here"]) fun _ _ _ _ _ _ us hl => match us, hl with | [_, _, _, _], _ => rfl
  have F26 := fun_mk (st := s__law_is_name) l26 d26 k26
  have b26 := L2.Fun.binds F26 (ps := ["_law_thing_here"]) fun _ _ _ _ _ _ us hl => match us, hl with | [_], _ => rfl
  have F27 := fun_mk (st := s__law_later) l27 d27 k27
  have b27 := L2.Fun.binds F27 (ps := ["_law_pairs", "_law_steps", "_law_table", "_law_sights_here", "_law_sight"]) fun _ _ _ _ _ _ us hl => match us, hl with | [_, _, _, _, _], _ => rfl
  have F28 := fun_mk (st := s__law_wrong) l28 d28 k28
  have b28 := L2.Fun.binds F28 (ps := ["_law_start", "_law_steps", "_law_table", "_law_sights_here", "_law_row_here"]) fun _ _ _ _ _ _ us hl => match us, hl with | [_, _, _, _, _], _ => rfl
  have F29 := fun_mk (st := s_check_watch) l29 d29 k29
  have b29 := L2.Fun.binds F29 (ps := ["watch"]) fun _ _ _ _ _ _ us hl => match us, hl with | [_], _ => rfl
  have F30 := fun_mk (st := s_Machine_states) l30 d30 k30
  have b30 := L2.Fun.binds F30 (ps := ["self"]) fun _ _ _ _ _ _ us hl => match us, hl with | [_], _ => rfl
  have F31 := fun_mk (st := s_parts) l31 d31 k31
  have b31 := L2.Fun.binds F31 (ps := ["names"]) fun _ _ _ _ _ _ us hl => match us, hl with | [_], _ => rfl
  have F32 := fun_mk (st := s_Machine_faults) l32 d32 k32
  have b32 := L2.Fun.binds F32 (ps := ["self"]) fun _ _ _ _ _ _ us hl => match us, hl with | [_], _ => rfl
  have F33 := fun_mk (st := s_Machine_steps) l33 d33 k33
  have b33 := L2.Fun.binds F33 (ps := ["self"]) fun _ _ _ _ _ _ us hl => match us, hl with | [_], _ => rfl
  have F34 := fun_mk (st := s_with_fault) l34 d34 k34
  have b34 := L2.Fun.binds F34 (ps := ["done", "fault", "names"]) fun _ _ _ _ _ _ us hl => match us, hl with | [_, _, _], _ => rfl
  have F35 := fun_mk (st := s_Watch_getitem) l35 d35 k35
  have b35 := L2.Fun.binds F35 (ps := ["self", "at"]) fun _ _ _ _ _ _ us hl => match us, hl with | [_, _], _ => rfl
  have F36 := fun_mk (st := s_Watch_contains) l36 d36 k36
  have b36 := L2.Fun.binds F36 (ps := ["self", "x"]) fun _ _ _ _ _ _ us hl => match us, hl with | [_, _], _ => rfl
  have F37 := fun_mk (st := s_moves_of_pairs) l37 d37 k37
  have b37 := L2.Fun.binds F37 (ps := ["machine", "watch", "pairs", "names"]) fun _ _ _ _ _ _ us hl => match us, hl with | [_, _, _, _], _ => rfl
  have F38 := fun_mk (st := s_Machine_start) l38 d38 k38
  have b38 := L2.Fun.binds F38 (ps := ["self"]) fun _ _ _ _ _ _ us hl => match us, hl with | [_], _ => rfl
  have F39 := fun_mk (st := s_Spread_closure) l39 d39 k39
  have b39 := L2.Fun.binds F39 (ps := ["self", "pair", "unseen"]) fun _ _ _ _ _ _ us hl => match us, hl with | [_, _, _], _ => rfl
  have F40 := fun_mk (st := s_Spread_init) l40 d40 k40
  have b40 := L2.Fun.binds F40 (ps := ["self", "machine", "watch", "names"]) fun _ _ _ _ _ _ us hl => match us, hl with | [_, _, _, _], _ => rfl
  have F41 := fun_mk (st := s_Machine_fault_names) l41 d41 k41
  have b41 := L2.Fun.binds F41 (ps := ["self"]) fun _ _ _ _ _ _ us hl => match us, hl with | [_], _ => rfl
  have F42 := fun_mk (st := s_places_in) l42 d42 k42
  have b42 := L2.Fun.binds F42 (ps := ["chosen"]) fun _ _ _ _ _ _ us hl => match us, hl with | [_], _ => rfl
  have F43 := fun_mk (st := s_Spread_beyond) l43 d43 k43
  have b43 := L2.Fun.binds F43 (ps := ["self", "chosen"]) fun _ _ _ _ _ _ us hl => match us, hl with | [_, _], _ => rfl
  have F44 := fun_mk (st := s_Spread_pairs_in) l44 d44 k44
  have b44 := L2.Fun.binds F44 (ps := ["self", "chosen"]) fun _ _ _ _ _ _ us hl => match us, hl with | [_, _], _ => rfl
  have F45 := fun_mk (st := s_after) l45 d45 k45
  have b45 := L2.Fun.binds F45 (ps := ["machine", "watch", "sights"]) fun _ _ _ _ _ _ us hl => match us, hl with | [_, _, _], _ => rfl
  have F46 := fun_mk (st := s_known) l46 d46 k46
  have b46 := L2.Fun.binds F46 (ps := ["machine", "watch", "sights"]) fun _ _ _ _ _ _ us hl => match us, hl with | [_, _, _], _ => rfl
  have F47 := fun_mk (st := s__law_ask) l47 d47 k47
  have b47 := L2.Fun.binds F47 (ps := ["_law_kind", "_law_machine_here", "_law_watch", "_law_row_here"]) fun _ _ _ _ _ _ us hl => match us, hl with | [_, _, _, _], _ => rfl
  have F48 := fun_mk (st := s_law) l48 d48 k48
  have FBadWatch := fun_mk (st := s_BadWatch_init) liBadWatch diBadWatch kiBadWatch
  have bBadWatch := L2.Fun.binds FBadWatch (ps := ["self", "value"]) fun _ _ _ _ _ _ us hl => match us, hl with | [_, _], _ => rfl
  have FBadSights := fun_mk (st := s_BadSights_init) liBadSights diBadSights kiBadSights
  have bBadSights := L2.Fun.binds FBadSights (ps := ["self", "at"]) fun _ _ _ _ _ _ us hl => match us, hl with | [_, _], _ => rfl
  refine ⟨PySem.W.fnOf "law" "law" (defArgs s_law) (defBody s_law) (defScope s_law) .none kV48 dc48 pm48 an48 cd48 ct48, fun s v => .of_eq rfl, fun base _ _ => ?_⟩
  have c_BadWatch : KnX.Err l.prog w K mg base 1 "BadWatch" cBadWatch "value" := ⟨iBadWatch, _, _, ⟨PySem.W.mg_of X G aBadWatch, oxBadWatch, aiBadWatch, tiBadWatch, nbBadWatch⟩, ok_BadWatch_init (PySem.W.mg_of X G aK) BC oxBadWatch nbBadWatch FBadWatch, bBadWatch⟩
  have c_BadSights : KnX.Err l.prog w K mg base 1 "BadSights" cBadSights "at" := ⟨iBadSights, _, _, ⟨PySem.W.mg_of X G aBadSights, oxBadSights, aiBadSights, tiBadSights, nbBadSights⟩, ok_BadSights_init (PySem.W.mg_of X G aK) BC oxBadSights nbBadSights FBadSights, bBadSights⟩
  have c__law_mix : Cal l.prog w K mg base 1 "_law_mix" (sp__law_mix K) [] := ⟨_, _, _, _, ok__law_mix T F0 , PySem.W.mg_of X G a0, F0.kp, b0, .nil⟩
  have c__law_row : Cal l.prog w K mg base 2 "_law_row" (sp__law_row K) [] := ⟨_, _, _, _, ok__law_row T F1 c__law_mix, PySem.W.mg_of X G a1, F1.kp, b1, .nil⟩
  have c__law_names : Cal l.prog w K mg base 3 "_law_names" (sp__law_names K) [] := ⟨_, _, _, _, ok__law_names T F2 c__law_row, PySem.W.mg_of X G a2, F2.kp, b2, .nil⟩
  have c__law_cell : Cal l.prog w K mg base 2 "_law_cell" (sp__law_cell K) [] := ⟨_, _, _, _, ok__law_cell T F3 c__law_mix, PySem.W.mg_of X G a3, F3.kp, b3, .nil⟩
  have c__law_machine : Cal l.prog w K mg base 3 "_law_machine" (sp__law_machine K) [] := ⟨_, _, _, _, ok__law_machine T F4 c__law_row, PySem.W.mg_of X G a4, F4.kp, b4, .nil⟩
  have c__law_faults : Cal l.prog w K mg base 1 "_law_faults" (sp__law_faults K) [] := ⟨_, _, _, _, ok__law_faults T F5 , PySem.W.mg_of X G a5, F5.kp, b5, .nil⟩
  have c__law_system : Cal l.prog w K mg base 4 "_law_system" (sp__law_system K) [] := ⟨_, _, _, _, ok__law_system T F6 c__law_names c__law_cell c__law_machine c__law_row c__law_faults, PySem.W.mg_of X G a6, F6.kp, b6, .nil⟩
  have c__law_sights : Cal l.prog w K mg base 3 "_law_sights" (sp__law_sights K) [] := ⟨_, _, _, _, ok__law_sights T F7 c__law_row, PySem.W.mg_of X G a7, F7.kp, b7, .nil⟩
  have c_is_whole : Cal l.prog w K mg base 1 "is_whole" (sp_is_whole K) [] := ⟨_, _, _, _, ok_is_whole T F8 , PySem.W.mg_of X G a8, F8.kp, b8, .nil⟩
  have c_is_state : Cal l.prog w K mg base 2 "is_state" (sp_is_state K) [] := ⟨_, _, _, _, ok_is_state T F9 c_is_whole, PySem.W.mg_of X G a9, F9.kp, b9, .nil⟩
  have c_is_row : Cal l.prog w K mg base 1 "is_row" (sp_is_row K) [] := ⟨_, _, _, _, ok_is_row T F10 , PySem.W.mg_of X G a10, F10.kp, b10, .nil⟩
  have c_is_name : Cal l.prog w K mg base 1 "is_name" (sp_is_name K) [] := ⟨_, _, _, _, ok_is_name T F11 , PySem.W.mg_of X G a11, F11.kp, b11, .nil⟩
  have c_is_step : Cal l.prog w K mg base 3 "is_step" (sp_is_step K) [] := ⟨_, _, _, _, ok_is_step T F12 c_is_state c_is_name, PySem.W.mg_of X G a12, F12.kp, b12, .nil⟩
  have c_check_steps : Cal l.prog w K mg base 4 "check_steps" (sp_check_steps K) [] := ⟨_, _, _, _, ok_check_steps T F13 c_is_row c_is_step, PySem.W.mg_of X G a13, F13.kp, b13, .nil⟩
  have c_check_faults : Cal l.prog w K mg base 2 "check_faults" (sp_check_faults K) [] := ⟨_, _, _, _, ok_check_faults T F14 c_is_name, PySem.W.mg_of X G a14, F14.kp, b14, .nil⟩
  have c_moves_by_state : Cal l.prog w K mg base 1 "moves_by_state" (sp_moves_by_state K) [] := ⟨_, _, _, _, ok_moves_by_state T F15 , PySem.W.mg_of X G a15, F15.kp, b15, .nil⟩
  have c_reached_states : Cal l.prog w K mg base 1 "reached_states" (sp_reached_states K) [] := ⟨_, _, _, _, ok_reached_states T F16 , PySem.W.mg_of X G a16, F16.kp, b16, .nil⟩
  have c_Machine_init : Mak l.prog w K mg base 5 "Machine" C (sp_Machine_init K C) [] := ⟨_, _, _, _, ⟨mkC, a17, i17, kcC⟩, ok_Machine_init T F17 c_is_state c_check_steps c_check_faults c_moves_by_state c_reached_states, PySem.W.mg_of X G aC, b17, .nil⟩
  have c_is_sights : Cal l.prog w K mg base 2 "is_sights" (sp_is_sights K) [] := ⟨_, _, _, _, ok_is_sights T F18 c_is_name, PySem.W.mg_of X G a18, F18.kp, b18, .nil⟩
  have c_Watch_init : Mak l.prog w K mg base 3 "Watch" D (sp_Watch_init K D) [] := ⟨_, _, _, _, ⟨mkD, a19, i19, kcD⟩, ok_Watch_init T F19 c_is_sights, PySem.W.mg_of X G aD, b19, .nil⟩
  have c__law_walk : Cal l.prog w K mg base 1 "_law_walk" (sp__law_walk K) [] := ⟨_, _, _, _, ok__law_walk T F20 , PySem.W.mg_of X G a20, F20.kp, b20, .nil⟩
  have c__law_seen : Cal l.prog w K mg base 1 "_law_seen" (sp__law_seen K) [] := ⟨_, _, _, _, ok__law_seen T F21 , PySem.W.mg_of X G a21, F21.kp, b21, .nil⟩
  have c__law_deep : Cal l.prog w K mg base 1 "_law_deep" (sp__law_deep K) [] := ⟨_, _, _, _, ok__law_deep T F22 , PySem.W.mg_of X G a22, F22.kp, b22, .nil⟩
  have c__law_thing : Cal l.prog w K mg base 2 "_law_thing" (sp__law_thing K) [] := ⟨_, _, _, _, ok__law_thing T F23 c__law_deep, PySem.W.mg_of X G a23, F23.kp, b23, .nil⟩
  have c__law_pair_behind : Cal l.prog w K mg base 1 "_law_pair_behind" (sp__law_pair_behind K) [] := ⟨_, _, _, _, ok__law_pair_behind T F24 , PySem.W.mg_of X G a24, F24.kp, b24, .nil⟩
  have c__law_estimate : Cal l.prog w K mg base 2 "_law_estimate" (sp__law_estimate (P := l.prog) (w := w) K) [] := ⟨_, _, _, _, ok__law_estimate T F25 c__law_pair_behind, PySem.W.mg_of X G a25, F25.kp, b25, .nil⟩
  have c__law_is_name : Cal l.prog w K mg base 1 "_law_is_name" (sp__law_is_name K) [] := ⟨_, _, _, _, ok__law_is_name T F26 , PySem.W.mg_of X G a26, F26.kp, b26, .nil⟩
  have c__law_later : Cal l.prog w K mg base 3 "_law_later" (sp__law_later (P := l.prog) (w := w) K) [] := ⟨_, _, _, _, ok__law_later T F27 c__law_pair_behind c__law_estimate, PySem.W.mg_of X G a27, F27.kp, b27, .nil⟩
  have c__law_wrong : Cal l.prog w K mg base 4 "_law_wrong" (sp__law_wrong K) [] := ⟨_, _, _, _, ok__law_wrong T F28 c__law_estimate c__law_is_name c__law_later, PySem.W.mg_of X G a28, F28.kp, b28, .nil⟩
  have c_check_watch : KnX.CalX l.prog w K mg base 3 "check_watch" (sx_check_watch K D ce) := ⟨_, _, _, ok_check_watch (ce := ce) T F29 c_BadWatch , PySem.W.mg_of X G a29, F29.kp, b29⟩
  have c_Machine_states : KnP.Prp l.prog w K mg base 1 C "states" (sp_Machine_states K C) := ⟨_, _, _, _, ⟨a30, g30, w30, ⟨_, r30⟩⟩, ok_Machine_states T F30 , b30⟩
  have c_parts : Cal l.prog w K mg base 1 "parts" (sp_parts K) [] := ⟨_, _, _, _, ok_parts T F31 , PySem.W.mg_of X G a31, F31.kp, b31, .nil⟩
  have c_Machine_faults : KnP.Prp l.prog w K mg base 1 C "faults" (sp_Machine_faults K C) := ⟨_, _, _, _, ⟨a32, g32, w32, ⟨_, r32⟩⟩, ok_Machine_faults T F32 , b32⟩
  have c_Machine_steps : KnP.Prp l.prog w K mg base 1 C "steps" (sp_Machine_steps K C) := ⟨_, _, _, _, ⟨a33, g33, w33, ⟨_, r33⟩⟩, ok_Machine_steps T F33 , b33⟩
  have c_with_fault : Cal l.prog w K mg base 1 "with_fault" (sp_with_fault K) [] := ⟨_, _, _, _, ok_with_fault T F34 , PySem.W.mg_of X G a34, F34.kp, b34, .nil⟩
  have c_Watch_getitem : KnW.Own l.prog w K mg base 2 D "__getitem__" (sp_Watch_getitem K D) := ⟨_, _, _, a35, i35, y35, ok_Watch_getitem T F35 c_is_name, b35⟩
  have c_Watch_contains : KnW.Own l.prog w K mg base 2 D "__contains__" (sp_Watch_contains K D) := ⟨_, _, _, a36, i36, y36, ok_Watch_contains T F36 c_is_name, b36⟩
  have c_moves_of_pairs : Cal l.prog w K mg base 4 "moves_of_pairs" (sp_moves_of_pairs (P := l.prog) (w := w) K C D) [] := ⟨_, _, _, _, ok_moves_of_pairs T F37 c_Machine_faults c_Machine_steps c_with_fault c_Watch_getitem c_Watch_contains, PySem.W.mg_of X G a37, F37.kp, b37, .nil⟩
  have c_Machine_start : KnP.Prp l.prog w K mg base 1 C "start" (sp_Machine_start K C) := ⟨_, _, _, _, ⟨a38, g38, w38, ⟨_, r38⟩⟩, ok_Machine_start T F38 , b38⟩
  have c_Spread_closure : C8.Met l.prog w K mg base 1 S "closure" (sp_Spread_closure (P := l.prog) (w := w) K S) [] := ⟨_, _, _, _, ⟨pgS, hdS, poS, saS⟩, ⟨a39, i39, k39⟩, ok_Spread_closure T F39 , b39, .nil⟩
  have c_Spread_init : Mak l.prog w K mg base 5 "Spread" S (sp_Spread_init (P := l.prog) (w := w) K S C D) [] := ⟨_, _, _, _, ⟨mkS, a40, i40, kcS⟩, ok_Spread_init T F40 c_Machine_states c_parts c_moves_of_pairs c_Machine_start c_Spread_closure, PySem.W.mg_of X G aS, b40, .nil⟩
  have c_Machine_fault_names : KnP.Prp l.prog w K mg base 1 C "fault_names" (sp_Machine_fault_names K C) := ⟨_, _, _, _, ⟨a41, g41, w41, ⟨_, r41⟩⟩, ok_Machine_fault_names T F41 , b41⟩
  have c_places_in : Cal l.prog w K mg base 1 "places_in" (sp_places_in K) [] := ⟨_, _, _, _, ok_places_in T F42 , PySem.W.mg_of X G a42, F42.kp, b42, .nil⟩
  have c_Spread_beyond : C8.Met l.prog w K mg base 2 S "beyond" (sp_Spread_beyond (P := l.prog) (w := w) K S) [] := ⟨_, _, _, _, ⟨pgS, hdS, poS, saS⟩, ⟨a43, i43, k43⟩, ok_Spread_beyond T F43 c_places_in, b43, .nil⟩
  have c_Spread_pairs_in : C8.Met l.prog w K mg base 2 S "pairs_in" (sp_Spread_pairs_in (P := l.prog) (w := w) K S) [] := ⟨_, _, _, _, ⟨pgS, hdS, poS, saS⟩, ⟨a44, i44, k44⟩, ok_Spread_pairs_in T F44 c_places_in, b44, .nil⟩
  have c_after : KnX.CalX l.prog w K mg base 7 "after" (sx_after K C D S ce) := ⟨_, _, _, ok_after (ce := ce) T F45 c_BadSights c_check_watch c_Spread_init c_Machine_fault_names c_is_name c_Spread_beyond c_Spread_pairs_in, PySem.W.mg_of X G a45, F45.kp, b45⟩
  have c_known : KnX.CalX l.prog w K mg base 8 "known" (sx_known K C D S ce) := ⟨_, _, _, ok_known (ce := ce) T F46  c_after c_Machine_fault_names, PySem.W.mg_of X G a46, F46.kp, b46⟩
  have c__law_ask : Cal l.prog w K mg base 9 "_law_ask" (sp__law_ask K C D S) [] := ⟨_, _, _, _, ok__law_ask (ce := ce) T F47 TE c_after c_known, PySem.W.mg_of X G a47, F47.kp, b47, .nil⟩
  exact ok_law T F48 c__law_system c__law_sights c__law_cell c_Machine_init c_Watch_init c__law_row c__law_walk c__law_seen c__law_thing c__law_wrong c__law_ask
end Kn
open PySem PySem.W PyProof.Rows
set_option maxHeartbeats 0 in
theorem PySem.Challenge.cw_knownlate_k22_refused_sights_holds : PySem.Challenge.rw_knownlate_k22_refused_sights.Holds := by
  w_on; o_law; k_head; (case hw => w_witness2)
  k_fill
  refine L2.walk_of (l := PySem.Challenge.rw_knownlate_k22_refused_sights) (n := 63) (k := 10) (x := "_law_script") (CX := fun _ => L2.CX0) (sp := fun w => Kn.sp_law _) rfl (by decide) rfl ⟨rfl, by decide, by decide⟩ (fun w h Y => PySem.W.kIn_of Y) ?F (fun _ _ a ns hl _ hS => ⟨a, ns, rfl, hS, hl, fun _ => rfl⟩) (fun _ _ _ _ _ h => h)
  case F =>
    intro w mg fa h KX G hmg
    refine' Kn.all_mk KX G hmg ?aC ?aD ?aS ?ihn ?ihtk ?aK ?rdK ?gaK ?atK ?aBadWatch ?xBadWatch ?saBadWatch ?gaBadWatch ?ggBadWatch ?nbBadWatch ?aiBadWatch ?tiBadWatch ?liBadWatch ?diBadWatch ?kiBadWatch ?kCBadWatch ?eCBadWatch ?tCBadWatch ?hCBadWatch ?iCBadWatch ?aBadSights ?xBadSights ?saBadSights ?gaBadSights ?ggBadSights ?nbBadSights ?aiBadSights ?tiBadSights ?liBadSights ?diBadSights ?kiBadSights ?kCBadSights ?eCBadSights ?tCBadSights ?hCBadSights ?iCBadSights ?sBadWatchBadWatch ?sBadWatchBadSights ?sBadSightsBadWatch ?sBadSightsBadSights ?a0 ?l0 ?d0 ?k0 ?a1 ?l1 ?d1 ?k1 ?a2 ?l2 ?d2 ?k2 ?a3 ?l3 ?d3 ?k3 ?a4 ?l4 ?d4 ?k4 ?a5 ?l5 ?d5 ?k5 ?a6 ?l6 ?d6 ?k6 ?a7 ?l7 ?d7 ?k7 ?a8 ?l8 ?d8 ?k8 ?a9 ?l9 ?d9 ?k9 ?a10 ?l10 ?d10 ?k10 ?a11 ?l11 ?d11 ?k11 ?a12 ?l12 ?d12 ?k12 ?a13 ?l13 ?d13 ?k13 ?a14 ?l14 ?d14 ?k14 ?a15 ?l15 ?d15 ?k15 ?a16 ?l16 ?d16 ?k16 ?a17 ?i17 ?l17 ?d17 ?k17 ?tl17 ?a18 ?l18 ?d18 ?k18 ?a19 ?i19 ?l19 ?d19 ?k19 ?tl19 ?a20 ?l20 ?d20 ?k20 ?a21 ?l21 ?d21 ?k21 ?a22 ?l22 ?d22 ?k22 ?a23 ?l23 ?d23 ?k23 ?a24 ?l24 ?d24 ?k24 ?a25 ?l25 ?d25 ?k25 ?a26 ?l26 ?d26 ?k26 ?a27 ?l27 ?d27 ?k27 ?a28 ?l28 ?d28 ?k28 ?a29 ?l29 ?d29 ?k29 ?a30 ?g30 ?w30 ?r30 ?l30 ?d30 ?k30 ?a31 ?l31 ?d31 ?k31 ?a32 ?g32 ?w32 ?r32 ?l32 ?d32 ?k32 ?a33 ?g33 ?w33 ?r33 ?l33 ?d33 ?k33 ?a34 ?l34 ?d34 ?k34 ?a35 ?i35 ?y35 ?l35 ?d35 ?k35 ?a36 ?i36 ?y36 ?l36 ?d36 ?k36 ?a37 ?l37 ?d37 ?k37 ?a38 ?g38 ?w38 ?r38 ?l38 ?d38 ?k38 ?a39 ?i39 ?l39 ?d39 ?k39 ?a40 ?i40 ?l40 ?d40 ?k40 ?a41 ?g41 ?w41 ?r41 ?l41 ?d41 ?k41 ?a42 ?l42 ?d42 ?k42 ?a43 ?i43 ?l43 ?d43 ?k43 ?a44 ?i44 ?l44 ?d44 ?k44 ?a45 ?l45 ?d45 ?k45 ?a46 ?l46 ?d46 ?k46 ?a47 ?l47 ?d47 ?k47 ?a48 ?l48 ?d48 ?k48 ?pgC ?hdC ?poC ?saC ?mkC ?kcC ?ihaC ?ihmC ?n__start ?n__steps ?n__words ?n__faults ?n__states ?pgD ?hdD ?poD ?saD ?mkD ?kcD ?ihaD ?ihmD ?n__sights ?pgS ?hdS ?poS ?saS ?mkS ?kcS ?ihaS ?ihmS ?n_pairs ?n_places ?n_first ?n_entered ?ic_W ?it_W ?z_all ?z_bool ?z_dict ?z_enumerate ?z_int ?z_isinstance ?z_len ?z_list ?z_range ?z_set ?z_sorted ?z_str ?z_tuple ?g_GREATEST_STATE ?r_GREATEST_STATE ?g_LONGEST_NAME ?r_LONGEST_NAME ?g_LETTERS ?r_LETTERS ?g_MOST_STEPS ?r_MOST_STEPS ?g_MOST_LEAVING ?r_MOST_LEAVING ?g_MOST_FAULTS ?r_MOST_FAULTS ?g_MOST_WORDS ?r_MOST_WORDS
    (case aC => k_is); (case aD => k_is); (case aS => k_is); (case ihn => k_is); (case ihtk => k_is); (case aK => k_is); (case rdK => k_is); (case gaK => k_is); (case atK => k_is); (case aBadWatch => k_is); (case xBadWatch => k_is); (case saBadWatch => k_is); (case gaBadWatch => k_is); (case ggBadWatch => k_is); (case nbBadWatch => k_is); (case aiBadWatch => k_is); (case tiBadWatch => k_is); (case liBadWatch => k_is); (case diBadWatch => k_is); (case kiBadWatch => k_is); (case kCBadWatch => k_is); (case eCBadWatch => k_is); (case tCBadWatch => k_is); (case hCBadWatch => k_is); (case iCBadWatch => k_is); (case aBadSights => k_is); (case xBadSights => k_is); (case saBadSights => k_is); (case gaBadSights => k_is); (case ggBadSights => k_is); (case nbBadSights => k_is); (case aiBadSights => k_is); (case tiBadSights => k_is); (case liBadSights => k_is); (case diBadSights => k_is); (case kiBadSights => k_is); (case kCBadSights => k_is); (case eCBadSights => k_is); (case tCBadSights => k_is); (case hCBadSights => k_is); (case iCBadSights => k_is); (case sBadWatchBadWatch => k_is); (case sBadWatchBadSights => k_is); (case sBadSightsBadWatch => k_is); (case sBadSightsBadSights => k_is); (case a0 => k_is); (case l0 => k_is); (case d0 => k_is); (case k0 => k_is); (case a1 => k_is); (case l1 => k_is); (case d1 => k_is); (case k1 => k_is); (case a2 => k_is); (case l2 => k_is); (case d2 => k_is); (case k2 => k_is); (case a3 => k_is); (case l3 => k_is); (case d3 => k_is); (case k3 => k_is); (case a4 => k_is); (case l4 => k_is); (case d4 => k_is); (case k4 => k_is); (case a5 => k_is); (case l5 => k_is); (case d5 => k_is); (case k5 => k_is); (case a6 => k_is); (case l6 => k_is); (case d6 => k_is); (case k6 => k_is); (case a7 => k_is); (case l7 => k_is); (case d7 => k_is); (case k7 => k_is); (case a8 => k_is); (case l8 => k_is); (case d8 => k_is); (case k8 => k_is); (case a9 => k_is); (case l9 => k_is); (case d9 => k_is); (case k9 => k_is); (case a10 => k_is); (case l10 => k_is); (case d10 => k_is); (case k10 => k_is); (case a11 => k_is); (case l11 => k_is); (case d11 => k_is); (case k11 => k_is); (case a12 => k_is); (case l12 => k_is); (case d12 => k_is); (case k12 => k_is); (case a13 => k_is); (case l13 => k_is); (case d13 => k_is); (case k13 => k_is); (case a14 => k_is); (case l14 => k_is); (case d14 => k_is); (case k14 => k_is); (case a15 => k_is); (case l15 => k_is); (case d15 => k_is); (case k15 => k_is); (case a16 => k_is); (case l16 => k_is); (case d16 => k_is); (case k16 => k_is); (case a17 => k_is); (case i17 => k_is); (case l17 => k_is); (case d17 => k_is); (case k17 => k_is); (case tl17 => k_is); (case a18 => k_is); (case l18 => k_is); (case d18 => k_is); (case k18 => k_is); (case a19 => k_is); (case i19 => k_is); (case l19 => k_is); (case d19 => k_is); (case k19 => k_is); (case tl19 => k_is); (case a20 => k_is); (case l20 => k_is); (case d20 => k_is); (case k20 => k_is); (case a21 => k_is); (case l21 => k_is); (case d21 => k_is); (case k21 => k_is); (case a22 => k_is); (case l22 => k_is); (case d22 => k_is); (case k22 => k_is); (case a23 => k_is); (case l23 => k_is); (case d23 => k_is); (case k23 => k_is); (case a24 => k_is); (case l24 => k_is); (case d24 => k_is); (case k24 => k_is); (case a25 => k_is); (case l25 => k_is); (case d25 => k_is); (case k25 => k_is); (case a26 => k_is); (case l26 => k_is); (case d26 => k_is); (case k26 => k_is); (case a27 => k_is); (case l27 => k_is); (case d27 => k_is); (case k27 => k_is); (case a28 => k_is); (case l28 => k_is); (case d28 => k_is); (case k28 => k_is); (case a29 => k_is); (case l29 => k_is); (case d29 => k_is); (case k29 => k_is); (case a30 => k_is); (case g30 => k_is); (case w30 => k_is); (case r30 => k_is); (case l30 => k_is); (case d30 => k_is); (case k30 => k_is); (case a31 => k_is); (case l31 => k_is); (case d31 => k_is); (case k31 => k_is); (case a32 => k_is); (case g32 => k_is); (case w32 => k_is); (case r32 => k_is); (case l32 => k_is); (case d32 => k_is); (case k32 => k_is); (case a33 => k_is); (case g33 => k_is); (case w33 => k_is); (case r33 => k_is); (case l33 => k_is); (case d33 => k_is); (case k33 => k_is); (case a34 => k_is); (case l34 => k_is); (case d34 => k_is); (case k34 => k_is); (case a35 => k_is); (case i35 => k_is); (case y35 => k_is); (case l35 => k_is); (case d35 => k_is); (case k35 => k_is); (case a36 => k_is); (case i36 => k_is); (case y36 => k_is); (case l36 => k_is); (case d36 => k_is); (case k36 => k_is); (case a37 => k_is); (case l37 => k_is); (case d37 => k_is); (case k37 => k_is); (case a38 => k_is); (case g38 => k_is); (case w38 => k_is); (case r38 => k_is); (case l38 => k_is); (case d38 => k_is); (case k38 => k_is); (case a39 => k_is); (case i39 => k_is); (case l39 => k_is); (case d39 => k_is); (case k39 => k_is); (case a40 => k_is); (case i40 => k_is); (case l40 => k_is); (case d40 => k_is); (case k40 => k_is); (case a41 => k_is); (case g41 => k_is); (case w41 => k_is); (case r41 => k_is); (case l41 => k_is); (case d41 => k_is); (case k41 => k_is); (case a42 => k_is); (case l42 => k_is); (case d42 => k_is); (case k42 => k_is); (case a43 => k_is); (case i43 => k_is); (case l43 => k_is); (case d43 => k_is); (case k43 => k_is); (case a44 => k_is); (case i44 => k_is); (case l44 => k_is); (case d44 => k_is); (case k44 => k_is); (case a45 => k_is); (case l45 => k_is); (case d45 => k_is); (case k45 => k_is); (case a46 => k_is); (case l46 => k_is); (case d46 => k_is); (case k46 => k_is); (case a47 => k_is); (case l47 => k_is); (case d47 => k_is); (case k47 => k_is); (case a48 => k_is); (case l48 => k_is); (case d48 => k_is); (case k48 => k_is); (case pgC => k_is); (case hdC => k_is); (case poC => k_is); (case saC => k_is); (case mkC => k_is); (case kcC => k_is); (case ihaC => k_is); (case ihmC => k_is); (case n__start => k_is); (case n__steps => k_is); (case n__words => k_is); (case n__faults => k_is); (case n__states => k_is); (case pgD => k_is); (case hdD => k_is); (case poD => k_is); (case saD => k_is); (case mkD => k_is); (case kcD => k_is); (case ihaD => k_is); (case ihmD => k_is); (case n__sights => k_is); (case pgS => k_is); (case hdS => k_is); (case poS => k_is); (case saS => k_is); (case mkS => k_is); (case kcS => k_is); (case ihaS => k_is); (case ihmS => k_is); (case n_pairs => k_is); (case n_places => k_is); (case n_first => k_is); (case n_entered => k_is); (case ic_W => k_is); (case it_W => k_is); (case z_all => k_is); (case z_bool => k_is); (case z_dict => k_is); (case z_enumerate => k_is); (case z_int => k_is); (case z_isinstance => k_is); (case z_len => k_is); (case z_list => k_is); (case z_range => k_is); (case z_set => k_is); (case z_sorted => k_is); (case z_str => k_is); (case z_tuple => k_is); (case g_GREATEST_STATE => k_is); (case r_GREATEST_STATE => exact ⟨_, rfl⟩); (case g_LONGEST_NAME => k_is); (case r_LONGEST_NAME => exact ⟨_, rfl⟩); (case g_LETTERS => k_is); (case r_LETTERS => exact ⟨_, rfl⟩); (case g_MOST_STEPS => k_is); (case r_MOST_STEPS => exact ⟨_, rfl⟩); (case g_MOST_LEAVING => k_is); (case r_MOST_LEAVING => exact ⟨_, rfl⟩); (case g_MOST_FAULTS => k_is); (case r_MOST_FAULTS => exact ⟨_, rfl⟩); (case g_MOST_WORDS => k_is); (case r_MOST_WORDS => exact ⟨_, rfl⟩)

