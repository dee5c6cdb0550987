import PyProof.Rows.All
import Wide.All
import OpenK.AllK
import Wide.FinOn
import HandS.ForMost
import HandS.IsInst
import HandS.Codes
import HandS.Set
import HandS.SetBool
import HandS.SetKeys
import PyProof.Rows.SortShellAny
import HandS.More
import HandS.Comp
import PyProof.Rows.SetFrom
import KE.GoesMore
import KE.GoesEnum
import HandS.DictComp
import KE.KDictList
import HandS.Property
import PyProof.DictUpdate
import PyProof.FactsDict
import HandS.Dict
import PyProof.EvalArms
import HandS.Defaults
import KE.KOpsOwn
import PyProof.InstEq
import KE.KEqDict
import HandS.List
import HandS.Words
import HandS.ForExc
import HandS.ExcInit
import HandS.ClsMeth
import HandS.Iter
import HandS.TryMany
import PyProof.EqAt
import PyProof.EqKinds
import PyProof.NeKinds
import PyProof.Rows.SeqMore
import PyProof.TupleOps
import PyProof.Conv_bool
import PyProof.MeetsIn
import HandS.SortInts
import HandS.Deep
import HandS.TryOnly
import HandS.Finally
import HandS.ExcField
import PySem.Challenge.RW_knownlate_k11_whole_items_of_a_watch
set_option Elab.async false
set_option linter.all false
set_option maxRecDepth 100000
set_option maxHeartbeats 4000000
namespace Kn
open PySem PySem.Spec PyProof.Rows L2
/-! ### heaps -/
theorem same_upd {H : Hp} {p : Addr} {o : HO} (h : H p = none) : Same H (upd H p o) := fun b x e => by
  rw [upd_ne (ne_of_none e h)]
  exact e
theorem same_set {H0 H : Hp} {p : Addr} {o : HO} (h : H0 p = none) (s : Same H0 H) : Same H0 (upd H p o) := fun b x e => by
  rw [upd_ne (ne_of_none e h)]
  exact s b x e
theorem Same.none {H H' : Hp} {p : Addr} (s : Same H H') (h : H' p = none) : H p = none := s.free h
theorem seqLt {K : PySem.W.Frag} {H H' : Hp} {a : Addr} {xs : List V} (e : Same H H') (h : SqT K H a xs) : SqT K H' a xs := by
  rcases h with (h | ⟨o, h⟩) | h
  · exact .inl (.inl (e _ _ h))
  · exact .inl (.inr ⟨o, e _ _ h⟩)
  · exact .inr h
theorem take_more {α : Type} {l : List α} {i : Nat} {x : α} (h : l[i]? = some x) : l.take (i + 1) = l.take i ++ [x] := by
  rw [List.take_add_one, h]; rfl
theorem small {n : Nat} (h : n ≤ 100000) : n < sizeLine := Nat.lt_of_le_of_lt h (by decide)
theorem smallE {n : Nat} (h : n ≤ 100000) : n ≤ sizeLine := Nat.le_of_lt (small h)
/-- a comprehension over a text's signs -/
theorem lc_text {x : Str} {g : TG} {tt : TT} {te : TE} {vs : List Nat} {σ : L2.St} {H1 : Hp} {D : Addr} {Qd : Hp → Prop} (Pv : Nat → Hp → Prop) (h0 : Pv 0 (upd H1 D (.lst [])))
    (hs : ∀ i c H, x.cps.toList[i]? = some c → Pv i H → g (.str ⟨#[c]⟩) (wipe σ vs) H fun σ2 H2 => wipe σ2 vs = wipe σ vs ∧ tt σ2 H2 fun b H3 =>
      if b = true then te σ2 H3 fun y H4 => ∃ acc, H4 D = some (.lst acc) ∧ acc.length < sizeLine ∧ Pv (i + 1) (upd H4 D (.lst (acc ++ [y]))) else Pv (i + 1) H3) (hd : ∀ H, Pv x.cps.toList.length H → Qd H) :
    ∃ W : Nat → Nat → Hp → Prop, (∃ m, W 0 m (upd H1 D (.lst []))) ∧ ∀ i m H, W i m H →
      ((Its x).stop i H ∧ Qd H) ∨ ((Its x).go i H ∧ ∃ Nx : Hp → Prop, (∀ H', Nx H' → ∃ m', m' < m ∧ W (i + 1) m' H') ∧ ∀ v H', (Its x).yld i H v H' → g v (wipe σ vs) H' fun σ2 H2 => wipe σ2 vs = wipe σ vs ∧ tt σ2 H2 fun b H3 =>
        if b = true then te σ2 H3 fun y H4 => ∃ acc, H4 D = some (.lst acc) ∧ acc.length < sizeLine ∧ Nx (upd H4 D (.lst (acc ++ [y]))) else Nx H3) := by
  refine ⟨fun i m H => m = x.cps.size - i ∧ i ≤ x.cps.size ∧ Pv i H, ⟨x.cps.size, by simp, Nat.zero_le _, h0⟩, ?_⟩
  rintro i m H ⟨rfl, hi, p⟩
  by_cases hlt : i < x.cps.size
  · refine .inr ⟨hlt, Pv (i + 1), fun H' p' => ⟨x.cps.size - (i + 1), by omega, rfl, hlt, p'⟩, fun v H' y => ?_⟩
    obtain ⟨rfl, c, hc, rfl⟩ := y
    exact hs i c _ (by simpa using hc) p
  · have e : i = x.cps.size := by omega
    subst e
    exact .inl ⟨Nat.le_refl _, hd H (by simpa using p)⟩
end Kn

set_option Elab.async false
set_option linter.all false
set_option maxRecDepth 100000
set_option maxHeartbeats 4000000
/-! Sets whose members are told in a list: made, filled, told as a sorted list; set comprehensions of ints and texts. -/
namespace KnS
open PySem PySem.Spec PyProof.Rows L2
section
variable {κ : Type} [DecidableEq κ] {P : Program} {w : World} {knd : PySem.KeyKind P w κ}
/-- one entry of a table, of the key k -/
def Ent (knd : PySem.KeyKind P w κ) (k : κ) (e : Int × Value) : Prop := knd.is k e.2 = true ∧ e.1 = knd.hash k ∧ e.2.scannable = true
theorem paired_perm {α β : Type} {F : α → β → Prop} {l m : List β} (p : l.Perm m) : ∀ {ks : List α}, Paired F ks l → ∃ ks', ks'.Perm ks ∧ Paired F ks' m := by
  induction p with
  | nil => intro ks h; exact ⟨ks, .refl _, h⟩
  | cons x _ ih =>
    intro ks h
    cases h with
    | cons r t =>
      obtain ⟨ks', q, t'⟩ := ih t
      exact ⟨_, .cons _ q, .cons r t'⟩
  | swap x y l =>
    intro ks h
    cases h with
    | cons r t =>
      cases t with
      | cons r' t' => exact ⟨_, .swap _ _ _, .cons r' (.cons r t')⟩
  | trans _ _ ih1 ih2 =>
    intro ks h
    obtain ⟨k1, q1, h1⟩ := ih1 h
    obtain ⟨k2, q2, h2⟩ := ih2 h1
    exact ⟨k2, q2.trans q1, h2⟩
theorem ents_elems {ks : List κ} {l : List (Int × Value)} (h : Paired (Ent knd) ks l) : ElemsOf knd l := by
  induction h with
  | nil => exact fun e he => nomatch he
  | cons r _ ih =>
    intro e he
    rcases List.mem_cons.mp he with z | z
    · rw [z]; exact ⟨⟨_, r.1, r.2.1⟩, r.2.2⟩
    · exact ih e z
theorem ents_find {ks : List κ} {l : List (Int × Value)} (h : Paired (Ent knd) ks l) {k : κ} : (∃ e ∈ l, knd.is k e.2 = true) ↔ k ∈ ks := by
  induction h with
  | nil => exact ⟨fun ⟨e, he, _⟩ => (nomatch he), fun z => nomatch z⟩
  | @cons k' e ks l r _ ih =>
    constructor
    · rintro ⟨e', he, q⟩
      rcases List.mem_cons.mp he with z | z
      · rw [z] at q
        rw [knd.inj e.2 k k' q r.1]
        exact List.mem_cons_self
      · exact List.mem_cons_of_mem _ (ih.mp ⟨e', z, q⟩)
    · intro z
      rcases List.mem_cons.mp z with z | z
      · exact ⟨e, List.mem_cons_self, z ▸ r.1⟩
      · obtain ⟨e', he, q⟩ := ih.mpr z
        exact ⟨e', List.mem_cons_of_mem _ he, q⟩
end
/-- the set at a holds just the keys ks, each once; its table can be walked -/
def Holds (P : Program) (w : World) (h : Heap) (a : Addr) (ks : List Key) : Prop :=
  ∃ o es ep t ls, (h.get? a = some o ∧ o.ExactSet ∧ o.data = .set es ep t) ∧ (Paired (Ent (mixKind P w)) ls es.toList ∧ ls.Perm ks ∧ ks.Nodup) ∧
    (es.size < scanBound ∧ t.fits es.size = true) ∧ Ris t.place.toList ∧ (w.params.followText "set-order" = true ∨ t.led = true)
/-- .. as a tracked thing -/
def SetL (P : Program) (w : World) (a : Addr) (ks : List Key) : HO := .ext fun h => Holds P w h a ks
def hasL (ks : List Key) (k : Key) : Bool := ks.any fun j => decide (j = k)
theorem hasL_iff {ks : List Key} {k : Key} : hasL ks k = true ↔ k ∈ ks := by
  unfold hasL
  rw [List.any_eq_true]
  exact ⟨fun ⟨j, hj, e⟩ => of_decide_eq_true e ▸ hj, fun h => ⟨k, h, decide_eq_true rfl⟩⟩
def addL (ks : List Key) (k : Key) : List Key := if hasL ks k = true then ks else ks ++ [k]
section
variable {P : Program} {w : World} {A : Around} {E : Value → Shared → Prop} {s : Shared} {a : Addr} {ks : List Key}
theorem Holds.keep {h h' : Heap} (R : Holds P w h a ks) (k : ∀ o, h.get? a = some o → h'.get? a = some o) : Holds P w h' a ks :=
  let ⟨o, es, ep, t, ls, ⟨ho, r⟩, q⟩ := R; ⟨o, es, ep, t, ls, ⟨k o ho, r⟩, q⟩
theorem Holds.there {h : Heap} (R : Holds P w h a ks) : ∃ o, h.get? a = some o ∧ o.cls = .type "set" := let ⟨o, _, _, _, _, ⟨ho, hx, _⟩, _⟩ := R; ⟨o, ho, hx.1⟩
theorem Holds.new {H : Hp} {h : Heap} (R : Holds P w h a ks) : ObjOk P w H h a (SetL P w a ks) :=
  ⟨R, let ⟨o, ho, _⟩ := R.there; ⟨o, ho⟩, fun _ _ p k => p.keep k⟩
theorem mem_addL {k x : Key} : x ∈ addL ks k ↔ x ∈ ks ∨ x = k := by
  unfold addL
  by_cases z : k ∈ ks
  · rw [if_pos (hasL_iff.mpr z)]
    exact ⟨.inl, fun y => y.elim id fun e => e ▸ z⟩
  · rw [if_neg fun q => z (hasL_iff.mp q), List.mem_append, List.mem_singleton]
theorem stored {h : Heap} {o : Obj} {es es' : Array (Int × Value)} {ep : Nat} {t t' : SetTable} (ho : h.get? a = some o) (hd : o.data = .set es ep t) :
    (h.update a (Obj.putSet es' t')).get? a = some { o with data := .set es' (ep + 1) t' } :=
  (Heap.get?_update_self (Obj.putSet es' t') ho (by rw [putSet_of es' t' hd] <;> rfl)).trans (by rw [putSet_of es' t' hd])
/-- what an add does behind its search, where the key is new -/
theorem laid {k : Key} {x : Value} (hk : (mixKind P w).is k x = true) (hsc : x.scannable = true) {o : Obj} {es : Array (Int × Value)} {ep : Nat} {t : SetTable} {ls : List Key}
    (ho : s.heap.get? a = some o) (hx : o.ExactSet) (hd : o.data = .set es ep t) (pe : Paired (Ent (mixKind P w)) ls es.toList) (pm : ls.Perm ks) (nd : ks.Nodup) (room : es.size + 1 < scanBound)
    {es1 : Array (Int × Value)} {t1 : SetTable} (p1 : es1.toList.Perm (es.push ((mixKind P w).hash k, x)).toList) (f1 : t1.fits es1.size = true) (r1 : Ris t1.place.toList) (l1 : w.params.followText "set-order" = true ∨ t1.led = true) (hnk : k ∉ ks) :
    es1.size < scanBound ∧ Holds P w (s.heap.update a (Obj.putSet es1 t1)) a (ks ++ [k]) := by
  have z1 : es1.size = es.size + 1 := by
    have q := p1.length_eq
    rw [Array.length_toList, Array.length_toList, Array.size_push] at q
    exact q
  have pe' : Paired (Ent (mixKind P w)) (ls ++ [k]) (es.push ((mixKind P w).hash k, x)).toList := by
    rw [Array.toList_push]
    exact pe.snoc ⟨hk, rfl, hsc⟩
  obtain ⟨ls1, q1, pe1⟩ := paired_perm p1.symm pe'
  have nd1 : (ks ++ [k]).Nodup := List.nodup_append.mpr ⟨nd, List.nodup_cons.mpr ⟨(fun z => nomatch z), List.nodup_nil⟩, fun u hu v hv e => hnk (by rw [← List.mem_singleton.mp hv, ← e]; exact hu)⟩
  exact ⟨by omega, _, es1, _, t1, ls1, ⟨stored ho hd, hx, rfl⟩, ⟨pe1, q1.trans (pm.append_right [k]), nd1⟩, ⟨by omega, f1⟩, r1, l1⟩
/-- .. and a table that is laid anew -/
theorem relaid {o : Obj} {es1 es2 : Array (Int × Value)} {ep : Nat} {t1 t2 : SetTable} {h : Heap} (R : Holds P w h a ks) (ho : h.get? a = some o) (hd : o.data = .set es1 ep t1)
    (p2 : es2.toList.Perm es1.toList) (f2 : t2.fits es2.size = true) (r2 : Ris t2.place.toList) (l2 : t1.led = true → t2.led = true) : Holds P w (h.update a (Obj.putSet es2 t2)) a ks := by
  obtain ⟨o', es, ep', t, ls, ⟨ho', hx, hd'⟩, ⟨pe, pm, nd⟩, ⟨hb, _⟩, _, hl⟩ := R
  obtain rfl : o = o' := Option.some.inj (ho.symm.trans ho')
  rw [hd] at hd'
  cases hd'
  obtain ⟨ls2, q2, pe2⟩ := paired_perm p2.symm pe
  have z : es2.size = es1.size := by
    have q := p2.length_eq
    rw [Array.length_toList, Array.length_toList] at q
    exact q
  exact ⟨_, es2, _, t2, ls2, ⟨stored ho hd, hx, rfl⟩, ⟨pe2, q2.trans pm, nd⟩, ⟨z ▸ hb, f2⟩, r2, hl.imp id l2⟩
theorem Holds.size {h : Heap} (R : Holds P w h a ks) {o : Obj} {es : Array (Int × Value)} {ep : Nat} {t : SetTable} (ho : h.get? a = some o) (hd : o.data = .set es ep t) : es.size = ks.length := by
  obtain ⟨o', es', ep', t', ls, ⟨ho', _, hd'⟩, ⟨pe, pm, _⟩, _⟩ := R
  obtain rfl : o = o' := Option.some.inj (ho.symm.trans ho')
  rw [hd] at hd'
  cases hd'
  rw [← Array.length_toList, ← pe.length, pm.length_eq]
theorem add_scan {k : Key} {x : Value} (hk : (mixKind P w).is k x = true) (hsc : x.scannable = true) (R : Holds P w s.heap a ks) (room : ks.length + 1 < scanBound) {Q : Bool → Shared → Prop}
    (hQ : ∀ b h', Heap.SameBut a s.heap h' → Holds P w h' a (addL ks k) → Q b { s with heap := h' }) : wpAny (model P w) A (setAddHashed a x ((mixKind P w).hash k)) Q E s := by
  have R0 := R
  obtain ⟨o, es, ep, t, ls, ⟨ho, hx, hd⟩, ⟨pe, pm, nd⟩, ⟨hb, hf⟩, hr, hl⟩ := R
  have el := ents_elems pe
  have sz := R0.size ho hd
  have fd : (∃ e ∈ es.toList, (mixKind P w).is k e.2 = true) ↔ k ∈ ks := (ents_find pe).trans pm.mem_iff
  unfold setAddHashed setAddHashedIn
  refine wpAny_holding (wpAny_bind (wpAny_setState_of ho hd hf ?_))
  show wpAny _ _ (if byScan x es = true then _ else _) _ _ _
  rw [byScan_of hsc hb el]
  refine wpAny_bind (wpAny_bind (wpAny_rule (wpAny_bind (wpAny_setScan_of hk ho hd hf el ?_))))
  cases ix : es.toList.findIdx? (fun e => (mixKind P w).is k e.2) with
  | some j =>
    obtain ⟨hj, pj, _⟩ := List.findIdx?_eq_some_iff_getElem.mp ix
    have hin : k ∈ ks := fd.mp ⟨_, List.getElem_mem hj, pj⟩
    refine wpAny_pure (wpAny_pure (hQ _ s.heap (Heap.SameBut.refl a s.heap) ?_))
    rw [addL, if_pos (hasL_iff.mpr hin)]
    exact R0
  | none =>
    have hnk : k ∉ ks := fun z => by
      obtain ⟨e, he, q⟩ := fd.mpr z
      have := List.findIdx?_eq_none_iff.mp ix e he
      rw [q] at this
      cases this
    have p1 := layNew_perm t es ((mixKind P w).hash k) x
    have f1 := layNew_fits t es ((mixKind P w).hash k) x
    have r1 := layNew_ris t es ((mixKind P w).hash k) x hr
    have l1 := layNew_led t es ((mixKind P w).hash k) x
    dsimp only
    generalize layNew t es ((mixKind P w).hash k) x = Z at p1 f1 r1 l1 ⊢
    obtain ⟨es1, t1, was, gave⟩ := Z
    dsimp only at p1 f1 r1 l1 ⊢
    have gate : ∀ (b : Bool) {s' : Shared} {Q' : Unit → Shared → Prop}, Q' () s' → wpAny (model P w) A (match b with | true => rule "set.scan.the-table-gave-way" | false => pure ()) Q' E s' := fun b => by
      cases b
      · exact fun q => wpAny_pure q
      · exact fun q => wpAny_rule q
    have e1 : addL ks k = ks ++ [k] := if_neg fun q => hnk (hasL_iff.mp q)
    have more : ∀ {g : Bool → Sem Unit} (_ : ∀ (b : Bool) (s' : Shared) (Q' : Unit → Shared → Prop), Q' () s' → wpAny (model P w) A (g b) Q' E s') (t2 : SetTable), t2.fits es1.size = true → Ris t2.place.toList → t2.led = t1.led →
        wpAny (model P w) A (do
          storeSet a es1 t2
          if (!was && t2.tooFull) = true then do
            g (relayAll t2 es1 (SetTable.grown es1.size)).2.2
            storeSet a (relayAll t2 es1 (SetTable.grown es1.size)).1 (relayAll t2 es1 (SetTable.grown es1.size)).2.1
            pure (some true)
          else pure (some true)) (fun r s' => ∃ h', s' = { s with heap := h' } ∧ r = some true ∧ Heap.SameBut a s.heap h' ∧ Holds P w h' a (addL ks k)) E s := by
      intro g hg t2 f2 r2 l2
      obtain ⟨b1, H1⟩ := laid hk hsc ho hx hd pe pm nd (by omega) p1 f2 r2 (hl.imp id fun q => by rw [l2, l1]; exact q) hnk
      rw [e1]
      refine wpAny_bind (wpAny_storeSet_of ho hd ?_ (fits_of_scanBound b1))
      have sb := Heap.SameBut.update s.heap a (Obj.putSet es1 t2)
      by_cases full : (!was && t2.tooFull) = true
      · rw [if_pos full]
        refine wpAny_bind (hg _ _ _ (wpAny_bind (wpAny_storeSet_of (stored ho hd) rfl ?_ ?_)))
        · refine wpAny_pure ⟨_, rfl, rfl, sb.trans (Heap.SameBut.update _ a _), relaid H1 (stored ho hd) rfl (relayAll_perm _ _ _) (relayAll_fits _ _ _) (relayAll_ris _ _ _) fun q => ?_⟩
          rw [relayAll_led]
          exact q
        · have q := (relayAll_perm t2 es1 (SetTable.grown es1.size)).length_eq
          rw [Array.length_toList, Array.length_toList] at q
          rw [q]
          exact fits_of_scanBound b1
      · rw [if_neg full]
        exact wpAny_pure ⟨_, rfl, rfl, sb, H1⟩
    refine wpAny_bind (gate gave ?_)
    have go : ∀ v : Bool, wpAny (model P w) A (do
          storeSet a es1 (if v = true then t1 else { t1 with plain := false })
          if (!was && (if v = true then t1 else { t1 with plain := false }).tooFull) = true then do
            (match (relayAll (if v = true then t1 else { t1 with plain := false }) es1 (SetTable.grown es1.size)).2.2 with | true => rule "set.scan.the-table-gave-way" | false => pure ())
            storeSet a (relayAll (if v = true then t1 else { t1 with plain := false }) es1 (SetTable.grown es1.size)).1 (relayAll (if v = true then t1 else { t1 with plain := false }) es1 (SetTable.grown es1.size)).2.1
            pure (some true)
          else pure (some true)) (fun r s' => ∃ h', s' = { s with heap := h' } ∧ r = some true ∧ Heap.SameBut a s.heap h' ∧ Holds P w h' a (addL ks k)) E s := fun v => by
      cases v
      · exact more (g := fun b => match b with | true => rule "set.scan.the-table-gave-way" | false => pure ()) (fun b s' Q' q => gate b q) { t1 with plain := false } (SetTable.fits_plain_off f1) r1 rfl
      · exact more (g := fun b => match b with | true => rule "set.scan.the-table-gave-way" | false => pure ()) (fun b s' Q' q => gate b q) t1 f1 r1 rfl
    have fin : ∀ (r : Option Bool) (s' : Shared), (∃ h', s' = { s with heap := h' } ∧ r = some true ∧ Heap.SameBut a s.heap h' ∧ Holds P w h' a (addL ks k)) → ∃ h', r = some true ∧ s' = { s with heap := h' } ∧ Q true s' := by
      rintro r s' ⟨h', rfl, rfl, sb, H'⟩
      exact ⟨h', rfl, rfl, hQ true h' sb H'⟩
    by_cases pl : t1.plain = true
    · rw [if_pos pl]
      refine wpAny_bind ?_
      rw [hashByValue_scannable 8 hsc]
      refine wpAny_pure (wpAny_mono (go _) (fun r s' q => ?_) fun _ _ z => z)
      obtain ⟨h', rfl, rfl, q⟩ := fin r s' q
      exact wpAny_pure q
    · rw [if_neg pl]
      refine wpAny_bind (wpAny_pure (wpAny_mono (go true) (fun r s' q => ?_) fun _ _ z => z))
      obtain ⟨h', rfl, rfl, q⟩ := fin r s' q
      exact wpAny_pure q

/-- set.add, called -/
theorem add_call {k : Key} {x : Value} (hk : (mixKind P w).is k x = true) (hsc : x.scannable = true) (R : Holds P w s.heap a ks) (room : ks.length + 1 < scanBound) {Q : Value → Shared → Prop}
    (hQ : ∀ h', Heap.SameBut a s.heap h' → Holds P w h' a (addL ks k) → Q .none { s with heap := h', toks := s.toks + 1 }) : wpAny (model P w) A (call (.builtin "set.add") [.ref a, x]) Q E s := by
  refine wpAny_call_entry F.slot_set_add (show s.TypeIs (.ref a) "set" from R.there) F.entry_set_add ?_ (F.args_set_add_2 _ _)
  unfold Builtin.«set.add» Builtin.Frozenset.oneOther
  simp only [List.isEmpty_nil, bind_assoc]
  unfold Builtin.Frozenset.addrOf setAdd
  refine wpAny_bind (wpAny_pure (wpAny_bind (wpAny_pure (wpAny_bind (wpAny_holding (wpAny_bind ((mixKind P w).pyHash hk ?_)))))))
  refine add_scan (s := { s with toks := s.toks + 1 }) hk hsc R room fun b h' sb r => ?_
  exact (show wpAny _ _ (ret Value.none) _ _ _ from wpAny_pure ⟨_, rfl, hQ h' sb r⟩)
theorem fresh_set (h : Heap) : Holds P w (h.push { cls := .type "set", dict := none, data := .set #[] 0 (.fresh 0 0 (!w.params.followText "set-order")) }) h.objs.size [] := by
  refine ⟨_, #[], 0, _, [], ⟨Heap.get?_push_size _ rfl, ⟨rfl, rfl, rfl⟩, rfl⟩, ⟨.nil, .refl _, List.nodup_nil⟩, ⟨by decide, by rfl⟩, List.Pairwise.nil, ?_⟩
  cases q : w.params.followText "set-order" with
  | true => exact .inl rfl
  | false => exact .inr rfl
end
/-! ### sorted(a set of texts) -/
theorem strs_of_paired {P : Program} {w : World} : ∀ {ks : List Key} {vs : List Value}, Paired (fun k v => (mixKind P w).is k v = true) ks vs → ∀ {xs : List Str}, ks.Perm (xs.map Sum.inr) → ∃ zs, zs.Perm xs ∧ StrsAre vs zs := by
  intro ks vs h xs p
  have all : ∀ k ∈ ks, ∃ x, k = Sum.inr x := fun k hk => by
    obtain ⟨x, _, e⟩ := List.mem_map.mp (p.mem_iff.mp hk)
    exact ⟨x, e.symm⟩
  have q := p.filterMap (fun k : Key => match k with | .inr x => some x | .inl _ => none)
  have e : (xs.map Sum.inr : List Key).filterMap (fun k : Key => match k with | .inr x => some x | .inl _ => none) = xs := by
    rw [List.filterMap_map]
    exact List.filterMap_some
  rw [e] at q
  refine ⟨_, q, ?_⟩
  clear p q e
  induction h with
  | nil => exact .nil
  | @cons k v ks vs r _ ih =>
    obtain ⟨x, rfl⟩ := all k List.mem_cons_self
    rcases keyIs_shape (show keyIs (.inr x) v = true from r) with ⟨_, _, z, _⟩ | ⟨y, t, z, rfl⟩
    · cases z
    · cases z
      exact .cons _ _ (ih fun k hk => all k (List.mem_cons_of_mem _ hk))
theorem paired_snd {P : Program} {w : World} {ks : List Key} {es : List (Int × Value)} (h : Paired (Ent (mixKind P w)) ks es) : Paired (fun k v => (mixKind P w).is k v = true) ks (es.map (·.2)) := by
  induction h with
  | nil => exact .nil
  | cons r _ ih => exact .cons r.1 ih
section
variable {P : Program} {w : World} {A : Around} {E : Value → Shared → Prop} {s : Shared} {a : Addr}
theorem sorted_call {xs : List Str} {Q : Value → Shared → Prop} (R : Holds P w s.heap a (xs.map Sum.inr)) (hh : A.handled = none)
    (hQ : ∀ s' p (out : Array Value) (c : Nat) (ys : List Str), (∀ b o, s.heap.get? b = some o → s'.heap.get? b = some o) → s'.gens = s.gens ∧ s'.os = s.os → s.heap.objs.size ≤ p →
      s'.heap.get? p = some (seqObj "list" out c) → StrsAre out.toList ys → ys.Perm xs → sortedS ys = true → Q (.ref p) s') : wpAny (model P w) A (call (.builtin "sorted") [.ref a]) Q E s := by
  obtain ⟨o, es, ep, t, ls, ⟨ho, hx, hd⟩, ⟨pe, pm, nd⟩, ⟨hb, hf⟩, hr, hl⟩ := R
  refine Calls.call_function_entry kind_sorted plain_sorted entry_sorted (args_sorted1 _) ?_
  unfold Builtin.«sorted»
  refine wpAny_bind (m := checkCount "sorted" 1 1 _) (wpAny_pure (wpAny_bind (collect_set (A := A.in1) hh ⟨o, ho, hx.1, hd⟩ hf hb hr hl fun s1 vs k1 hz g1 o1 pv => ?_)))
  obtain ⟨ls', q', pe'⟩ := paired_perm pv.symm (paired_snd pe)
  obtain ⟨zs, pz, hS⟩ := strs_of_paired pe' (q'.trans pm)
  have hsz : vs.length ≤ sizeLine := by
    rw [pv.length_eq, List.length_map, Array.length_toList]
    exact fits_of_scanBound hb
  refine wpAny_bind (wpAny_newList ?_ hsz)
  have hoL : (s1.heap.push (seqObj "list" vs.toArray 0)).get? s1.heap.objs.size = some (seqObj "list" vs.toArray 0) := Heap.get?_push_size _ rfl
  refine wpAny_bind (wpAny_holding (wpAny_call_entry slot_list_sort ⟨_, hoL, rfl⟩ entry_list_sort (list_sort_treeKAny strKind_oneLt hoL hS.keysOf (fun v₁ v₂ rest e => keyKind_strs (by rw [← e]; exact hS)) hsz fun st' hp hs => ?_) (args_list_sort _)))
  obtain ⟨ys, y1, y2, y3⟩ := sorted_out_str hS hp hs
  obtain ⟨c, hc⟩ := sortedHeap_at (vs := vs) (out := (arrOf st').map (·.2)) hoL
  refine ⟨_, rfl, wpAny_pure ⟨_, rfl, hQ _ _ _ c ys (fun b u e => ?_) ⟨g1, o1⟩ hz hc y1 (y2.trans pz) y3⟩⟩
  have q := k1 b u e
  have hlt := Heap.lt_size q
  refine (sortedHeap_old (Nat.ne_of_lt hlt) ?_).trans (Heap.get?_push_of_some _ q)
  rw [size_push']
  exact Nat.lt_succ_of_lt hlt
end
section
variable {X : Cx} {pins : List (Addr × Obj)} {σ : L2.St} {H : Hp} {s : Shared}
theorem held {a : Addr} {ks : List Key} (I : Inv X pins σ H s) (h : H a = some (SetL X.prog X.w a ks)) : Holds X.prog X.w s.heap a ks := (I.hok a _ h).1
theorem key_rel {k : Key} {u : Value} (r : RelV (kV k) u) (P : Program) (w : World) : (mixKind P w).is k u = true ∧ u.scannable = true := by
  cases k with
  | inl i => obtain ⟨t, rfl⟩ := r; exact ⟨mixKind_int P w i t, rfl⟩
  | inr x => obtain ⟨t, rfl⟩ := r; exact ⟨mixKind_str P w x t, rfl⟩
theorem add_inv {a : Addr} {ks : List Key} {k : Key} {u : Value} {A : Around} {E : Value → Shared → Prop} {Q : Value → Shared → Prop} (I : Inv X pins σ H s) (h : H a = some (SetL X.prog X.w a ks)) (r : RelV (kV k) u) (room : ks.length + 1 < scanBound)
    (hQ : ∀ s', Inv X pins σ (upd H a (SetL X.prog X.w a (addL ks k))) s' → Q .none s') : wpAny (model X.prog X.w) A (call (.builtin "set.add") [.ref a, u]) Q E s := by
  obtain ⟨r1, r2⟩ := key_rel r X.prog X.w
  refine add_call r1 r2 (held I h) room fun h' sb R => hQ _ ?_
  exact I.write (e := a) (t' := s.toks + 1) (by rw [h]; trivial) (.inl rfl) (fun b o hb ho => (sb.2 b hb).trans ho) (let ⟨o, ho, _⟩ := R.there; ⟨o, ho⟩) R.new
/-- sorted(found), found a set of texts -/
def rSortedL (P : Program) (w : World) : List V → Hp → VK → Prop := fun vs H Q => ∃ (a : Addr) (xs : List Str), vs = [.ref a] ∧ H a = some (SetL P w a (xs.map Sum.inr)) ∧
  ∀ (ys : List Str) (p : Addr), ys.Perm xs → sortedS ys = true → H p = none → Q (.ref p) (upd H p (.lst (ys.map V.str)))
theorem cr_sortedL (hc : X.calm = true) : CallR X (.builtin "sorted") (rSortedL X.prog X.w) := by
  intro pins s σ H vs us Q I r h
  obtain ⟨a, xs, rfl, ha, q⟩ := h
  rw [Vals.ref1 r]
  have R := held I ha
  have bound : xs.length ≤ sizeLine := by
    obtain ⟨o, es, ep, t, ls, ⟨ho, hx, hd⟩, ⟨pe, pm, nd⟩, ⟨hb, hf⟩, _⟩ := R
    have := pm.length_eq
    rw [pe.length, Array.length_toList, List.length_map] at this
    rw [← this]
    exact fits_of_scanBound hb
  refine sorted_call R (I.ok.hd hc) fun s' p out c ys k go hp hg hi hperm hs => ?_
  have hn : H p = none := I.hok.fresh hp
  have hlen : (ys.map V.str).length ≤ sizeLine := by rw [List.length_map, hperm.length_eq]; exact bound
  have J : Inv X pins σ (upd H p (.lst (ys.map V.str))) s' := I.call' (ch := []) go.2 (Un.laid k hp hn) (I.hok.laid k hp ⟨hlen, out.toList, c, vals_of_strs hi, hg⟩) (by rw [go.1]; exact I.bare) (fun _ z => nomatch z)
  exact ⟨.ref p, _, J, rfl, q ys p hperm hs hn⟩
end
end KnS

set_option Elab.async false
set_option linter.all false
set_option maxRecDepth 100000
set_option maxHeartbeats 4000000
/-! {elt for target in iter if ..}, elt an int or a text. -/
namespace KnS
open PySem PySem.Spec PyProof.Rows L2
section
variable {X : Cx}
abbrev set0 (w : World) : Obj := { cls := .type "set", dict := none, data := .set #[] 0 (.fresh 0 0 (!w.params.followText "set-order")) }
/-- what a turn may reach, and how a comprehension into a set reads -/
def tScL (P : Program) (w : World) (wi : TI) (g : TG) (tt : TT) (te : TE) (vs : List Nat) : TE := fun σ H Q => wi σ H fun J H1 => ∀ D, H1 D = none →
  ∃ W : Nat → Nat → Hp → Prop, (∃ m, W 0 m (upd H1 D (SetL P w D []))) ∧ ∀ i m H, W i m H → (J.stop i H ∧ Q (.ref D) H) ∨
    (J.go i H ∧ ∃ Nx : Hp → Prop, (∀ H', Nx H' → ∃ m', m' < m ∧ W (i + 1) m' H') ∧
      ∀ x H', J.yld i H x H' → g x (wipe σ vs) H' fun σ2 H2 => wipe σ2 vs = wipe σ vs ∧ tt σ2 H2 fun b H3 =>
        if b = true then te σ2 H3 fun y H4 => ∃ (k : Key) (ks : List Key), y = kV k ∧ H4 D = some (SetL P w D ks) ∧ ks.length + 1 < scanBound ∧ Nx (upd H4 D (SetL P w D (addL ks k))) else Nx H3)
theorem scL {elt tg iter : Expr} {ifs : List Expr} {scope : Scope} {own : List (Str × Nat)} {pos : Pos} {wi : TI} {g : TG} {tt : TT} {te : TE}
    (hc : X.calm = true) (hN : X.N.Nodup) (hi : PI X tg iter wi) (ok : BlkOk X.N X.env.scope scope own)
    (hg : ∀ (s : Shared) (H : Hp) (C : Addr) (cl : List (Str × Addr)) (fp : List Addr), PG (X.blk s H scope (compEnvC scope cl C X.env) fp) tg g)
    (ht : ∀ (s : Shared) (H : Hp) (C : Addr) (cl : List (Str × Addr)) (fp : List Addr), PTs (X.blk s H scope (compEnvC scope cl C X.env) fp) ifs tt)
    (he : ∀ (s : Shared) (H : Hp) (C : Addr) (cl : List (Str × Addr)) (fp : List Addr), PE (X.blk s H scope (compEnvC scope cl C X.env) fp) elt te)
    (hs : ∀ x, foldedSetIterable iter X.env x = pure x := by intro _; rfl) :
    PE X (.SetComp elt [⟨tg, iter, ifs, 0⟩] scope pos) (tScL X.prog X.w wi g tt te (own.map (·.2))) := by
  refine ⟨fun pins s σ H Q I h => ?_⟩
  rw [PpSet.eval_SetComp]
  have captured : ∀ y ∈ scope.names, y.2 = .free → ∃ c, X.env.cells.lookup y.1 = some c := fun y hy e =>
    (ok.free y hy e).elim (fun k => I.ok.has _ (.inl k)) fun k => I.ok.has _ (.inr k)
  refine wpAny_comprehension_free (use := none) rfl hs (closure_ok captured) ok.kind (fun y hy e => by rw [ok.uniq y hy, e]) ?_
  refine thn (hi.run pins s σ H _ I h) fun xv s1 hx => thn hx fun itv s2 ⟨it, fp, tn, J, H2, eit, I2, T, st2, f2, q⟩ => ?_
  subst eit
  refine PpSet.newSet_ok (newEnv_comp ?_)
  generalize hD : s2.heap.objs.size = D
  have freeD : H2 D = none := I2.hok.fresh (Nat.le_of_eq hD)
  obtain ⟨W, ⟨m0, w0⟩, turn⟩ := q D freeD
  -- the new set stands
  generalize h3 : s2.heap.push (set0 X.w) = hp3
  have keep3 : ∀ b o, s2.heap.get? b = some o → hp3.get? b = some o := fun b o e => h3 ▸ Heap.get?_push_of_some _ e
  have size3 : hp3.objs.size = s2.heap.objs.size + 1 := by rw [← h3, Heap.size_push]
  have I3 : Inv X pins σ (upd H2 D (SetL X.prog X.w D [])) { s2 with heap := hp3 } := by
    refine I2.laid (t' := s2.toks) keep3 (Nat.le_of_eq hD) (Holds.new ?_)
    rw [← h3, ← hD]
    exact fresh_set _
  have inFp : ∀ b ∈ fp, b < s2.heap.objs.size := fun b hb => let ⟨_, e, _⟩ := T.obj _ _ st2 b hb; Heap.lt_size e
  have f3 : ∀ b ∈ fp, FpOk X pins (upd H2 D (SetL X.prog X.w D [])) b ∧ b < hp3.objs.size := fun b hb =>
    ⟨⟨(upd_ne (by rw [← hD]; exact Nat.ne_of_lt (inFp b hb))).trans (f2 b hb).1, (f2 b hb).2⟩, by rw [size3]; exact Nat.lt_succ_of_lt (inFp b hb)⟩
  have st3 : tn 0 hp3 := T.keep _ _ _ st2 fun b _ => keep3 b
  generalize hH3 : upd H2 D (SetL X.prog X.w D []) = H3 at I3 f3 w0
  generalize hs3 : ({ s2 with heap := hp3 } : Shared) = s3 at I3
  have e3 : s3.heap = hp3 := by rw [← hs3]
  have I4 := block_start I3 ok hN (fun b hb => ⟨(f3 b hb).1, by rw [e3]; exact (f3 b hb).2⟩)
  have clear0 : ∀ b ∈ fp, H3 b = none := fun b hb => (f3 b hb).1.1
  show codeAny _ _ (.compStart (.SetComp elt [⟨tg, iter, ifs, 0⟩] scope pos) 0 (.ref it) (.ref D) (compEnvC scope (cellsFrom (s3.heap.objs.size + 1) scope.names (cloFrom X.env.cells scope.names [])) s3.heap.objs.size X.env))
    (compPost (model X.prog X.w) X.A X.xe none (EP X pins σ Q) (.ref D) s3.heap.objs.size) { s3 with heap := pushCells (s3.heap.push { cls := .type "dict", data := .dict #[] }) scope.names }
  have pg := hg s3 H3 s3.heap.objs.size (cellsFrom (s3.heap.objs.size + 1) scope.names (cloFrom X.env.cells scope.names [])) fp
  have pt := ht s3 H3 s3.heap.objs.size (cellsFrom (s3.heap.objs.size + 1) scope.names (cloFrom X.env.cells scope.names [])) fp
  have pe := he s3 H3 s3.heap.objs.size (cellsFrom (s3.heap.objs.size + 1) scope.names (cloFrom X.env.cells scope.names [])) fp
  have home : (compEnvC scope (cellsFrom (s3.heap.objs.size + 1) scope.names (cloFrom X.env.cells scope.names [])) s3.heap.objs.size X.env).locals = s3.heap.objs.size := rfl
  generalize compEnvC scope (cellsFrom (s3.heap.objs.size + 1) scope.names (cloFrom X.env.cells scope.names [])) s3.heap.objs.size X.env = ce at I4 pg pt pe home ⊢
  have st4 : tn 0 ({ s3 with heap := pushCells (s3.heap.push { cls := .type "dict", data := .dict #[] }) scope.names } : Shared).heap := by
    refine T.keep _ _ _ st3 fun b _ o e => pushCells_keeps _ _ _ _ (Heap.get?_push_of_some _ ?_)
    rw [e3]
    exact e
  generalize ({ s3 with heap := pushCells (s3.heap.push { cls := .type "dict", data := .dict #[] }) scope.names } : Shared) = s4 at I4 ⊢ st4
  have own0 : ∀ {σ' : L2.St} {H' : Hp} {s' : Shared}, Inv (X.blk s3 H3 scope ce fp) [] σ' H' s' → (∀ b ∈ fp, H' b = none) → ∀ b ∈ fp, FpOk (X.blk s3 H3 scope ce fp) [] H' b := fun I' cl b hb =>
    ⟨cl b hb, (I'.ok.exf b hb).1, I'.ok.exfs b hb, .inl hb, (fun x c e => (I'.ok.exf b hb).2 x c e), fun p hp => by cases List.mem_append.mp hp <;> rename_i z <;> exact absurd z List.not_mem_nil⟩
  have loop : codeAny (model X.prog X.w) X.A (.compLoop (.SetComp elt [⟨tg, iter, ifs, 0⟩] scope pos) 0 (.ref it) (.ref D) ce) (compPost (model X.prog X.w) X.A X.xe none (EP X pins σ Q) (.ref D) s3.heap.objs.size) s4 := by
    refine PpSet.compLoopS_any (fun n s' => ∃ i H', (Inv (X.blk s3 H3 scope ce fp) [] (wipe σ (own.map (·.2))) H' s' ∧ tn i s'.heap) ∧ (∀ b ∈ fp, H' b = none) ∧ W i n H') ?_ m0 ⟨0, H3, ⟨I4, st4⟩, clear0, w0⟩
    rintro n s5 ⟨i, H5, ⟨I5, st5⟩, cl5, w5⟩
    rcases turn i n H5 w5 with ⟨stop, fine⟩ | ⟨go, Nx, hNx, step⟩
    · refine thnF (T.done (X.blk s3 H3 scope ce fp) rfl rfl rfl hc i [] s5 _ H5 (fun _ _ => False) I5 (own0 I5 cl5) st5 stop) fun r s6 ⟨er, I6⟩ => ?_
      subst er
      have I7 : Inv X pins σ H5 s6 := I3.call' (ch := fp) I6.os I6.base I6.hok I6.bare fun b hb =>
        let f := (f3 b hb).1.2; ⟨f.2.2.1, f.1, f.2.2.2.1, f.2.2.2.2⟩
      have free5 : H5 s3.heap.objs.size = none := home ▸ I6.free
      obtain ⟨m, hn, _⟩ := I6.loc
      obtain ⟨_, k1, k2, k3, k4, k5⟩ := I3.fpOk (Nat.le_refl _) free5
      exact ⟨m, home ▸ hn, fun h'' sb => ⟨.ref D, H5, I7.turned (t' := s6.toks) (fun b o hb e => (sb.2 b hb).trans e) free5 k1 k3 k4 k5, rfl, fine⟩⟩
    · refine thnF (T.item (X.blk s3 H3 scope ce fp) rfl rfl rfl hc i [] s5 _ H5 (fun _ _ => False) I5 (own0 I5 cl5) st5 go) fun r s6 ⟨u, er, h6⟩ => ?_
      subst er
      refine thnF h6 fun _ s7 ⟨x, H7, I7, r7, y7, st7, cl7⟩ => ?_
      refine thnF (pg.run _ s7 _ H7 x u _ (I7.pinned (own0 I7 cl7) (T.obj _ _ st7)) r7 (step x H7 y7)) fun _ s8 ⟨σ8, H8, I8, same8, q8⟩ => thnF (pt.run _ s8 σ8 H8 _ I8 q8) fun b s9 ⟨H9, I9, q9⟩ => ?_
      have closed : ∀ {s' : Shared} {H' : Hp}, Inv (X.blk s3 H3 scope ce fp) ([] ++ pinsAt fp s7.heap) σ8 H' s' → Nx H' → ∃ m, m < n ∧ ∃ i H', (Inv (X.blk s3 H3 scope ce fp) [] (wipe σ (own.map (·.2))) H' s' ∧ tn i s'.heap) ∧ (∀ b ∈ fp, H' b = none) ∧ W i m H' := fun {s' H'} I' nx => by
        obtain ⟨m', less, w'⟩ := hNx H' nx
        have pinned : ∀ b ∈ fp, ∀ o, s7.heap.get? b = some o → s'.heap.get? b = some o ∧ H' b = none := fun b hb o e =>
          have z := I'.pin (b, o) (List.mem_append_right _ (List.mem_append_right _ (mem_pinsAt hb e)))
          ⟨z.1, z.2.1⟩
        have len8 : (wipe σ (own.map (·.2))).length = σ8.length := (congrArg List.length same8).symm.trans (wipe_length _ _)
        refine ⟨m', less, i + 1, H', ⟨(I'.unpinned (pins := [])).weak len8 fun j v e => ?_, T.keep _ _ _ st7 fun b hb o e => (pinned b hb o e).1⟩, fun b hb => ?_, w'⟩
        · exact (wipe_some (same8 ▸ e)).1
        · obtain ⟨o, e, _⟩ := T.obj _ _ st7 b hb
          exact (pinned b hb o e).2
      cases b with
      | false => exact closed I9 q9
      | true =>
        refine thnF (pe.run _ s9 σ8 H9 _ I9 q9) fun z s10 ⟨yv, H10, I10, r10, k, ks, ey, eD, room, nx⟩ => ?_
        subst ey
        exact add_inv (X := X.blk s3 H3 scope ce fp) I10 eD r10 room fun s11 I11 => closed I11 nx
  exact PpSet.codeAny_compStart_set loop (T.self X.A 0 _ _ _ st4 loop)
end
end KnS

set_option Elab.async false
set_option linter.all false
set_option maxRecDepth 100000
set_option maxHeartbeats 4000000
/-! set(a list of ints and texts). -/
namespace KnS
open PySem PySem.Spec PyProof.Rows L2
def allL (ks : List Key) : List Key := ks.foldl addL []
theorem mem_foldL {x : Key} : ∀ {l acc : List Key}, x ∈ l.foldl addL acc ↔ x ∈ acc ∨ x ∈ l := by
  intro l
  induction l with
  | nil => intro acc; exact ⟨.inl, fun h => h.elim id (fun z => nomatch z)⟩
  | cons y l ih =>
    intro acc
    rw [List.foldl_cons, ih, mem_addL, List.mem_cons]
    constructor
    · rintro ((h | h) | h)
      · exact .inl h
      · exact .inr (.inl h)
      · exact .inr (.inr h)
    · rintro (h | h | h)
      · exact .inl (.inl h)
      · exact .inl (.inr h)
      · exact .inr h
theorem mem_allL {x : Key} {l : List Key} : x ∈ allL l ↔ x ∈ l := mem_foldL.trans ⟨fun h => h.elim (fun z => nomatch z) id, .inr⟩
theorem addL_nodup {ks : List Key} {k : Key} (h : ks.Nodup) : (addL ks k).Nodup := by
  unfold addL
  by_cases z : hasL ks k = true
  · rw [if_pos z]; exact h
  · rw [if_neg z]
    exact List.nodup_append.mpr ⟨h, List.nodup_cons.mpr ⟨(fun z => nomatch z), List.nodup_nil⟩, fun u hu v hv e => z (hasL_iff.mpr (by rw [← List.mem_singleton.mp hv, ← e]; exact hu))⟩
theorem foldL_nodup : ∀ {l acc : List Key}, acc.Nodup → (l.foldl addL acc).Nodup
  | [], _, h => h
  | k :: l, _, h => foldL_nodup (l := l) (addL_nodup h)
theorem addL_length (ks : List Key) (k : Key) : (addL ks k).length ≤ ks.length + 1 := by
  unfold addL
  by_cases z : hasL ks k = true
  · rw [if_pos z]; omega
  · rw [if_neg z, List.length_append]; exact Nat.le_refl _
theorem foldL_length : ∀ (l acc : List Key), (l.foldl addL acc).length ≤ acc.length + l.length
  | [], _ => Nat.le_refl _
  | k :: l, acc => by
    have h1 := foldL_length l (addL acc k)
    have h2 := addL_length acc k
    rw [List.foldl_cons, List.length_cons]
    omega
section
variable {P : Program} {w : World} {A : Around} {E : Value → Shared → Prop} {s : Shared}
/-- set.__new__(set, a): a new empty set, led where the order is not by the text -/
theorem new_set (a : Value) {Q₁ : Value → Shared → Prop} (h : Q₁ (.ref s.heap.objs.size) { s with heap := s.heap.push { cls := .type "set", dict := none, data := .set #[] 0 (.fresh 0 0 (!w.params.followText "set-order")) } }) :
    codeAny (model P w) A (.call (.builtin "set.__new__") ⟨[.type "set", a], []⟩) (wants Q₁ E) s := by
  refine codeAny_of_tree (show wpAny _ A.in1 (do checkBuiltinCall "set.__new__" ⟨[.type "set", a], []⟩; again (.builtin "set.__new__" ⟨[.type "set", a], []⟩)) _ _ s from ?_)
  refine wpAny_bind (wpAny_of_eq (F.newCall_set_1 a) (wpAny_pure ⟨plainId_quiet F.plain_set_new _, codeAny_builtin F.entry_set_new ?_⟩))
  rw [Around.under_plainId F.plain_set_new _]
  unfold Builtin.«set.__new__» Builtin.Frozenset.newClass
  have hsub := sub_set_self
  obtain ⟨hp, g, d, tk, os⟩ := s
  dsimp only
  wp_walk
  refine wpAny_askSetting (wpAny_pure ?_)
  dsimp only
  simp only [newObj]
  exact wpAny_bind (wpAny_alloc (wpAny_pure (wpAny_pure h)))
/-- the loop of set(v) -/
theorem update_loop {I S : Addr} {fp wr : List Addr} {G : Array GenState → Array GenState → Prop} {ks : List Key} {Pv : Nat → Value → Prop} {St : Nat → Shared → Prop} {R : Result → Shared → Prop}
    (W : WalksS P w A.in1 I fp wr G ks.length Pv St) (hSf : S ∉ fp) (hval : ∀ i v k, Pv i v → ks[i]? = some k → (mixKind P w).is k v = true ∧ v.scannable = true) (room : ks.length + 1 < scanBound) :
    ∀ (k i : Nat) (s : Shared), ks.length - i = k → i ≤ ks.length → St i s → Holds P w s.heap S (allL (ks.take i)) →
      (∀ s', Moved (S :: wr) G s s' → Holds P w s'.heap S (allL ks) → R (.ok (.ret .none)) s') → codeAny (model P w) A (.builtin "set.update.loop" ⟨[.ref S, .ref I], []⟩) R s := by
  have hSw : S ∉ wr := fun h => hSf (W.sub _ h)
  have more : ∀ b ∈ wr, b ∈ S :: wr := fun b hb => List.mem_cons_of_mem _ hb
  intro k
  induction k with
  | zero =>
    intro i s hk hi hst hS hR
    obtain rfl : i = ks.length := by omega
    refine codeAny_builtin PyProof.Rows.F.entry_set_update_loop ?_
    rw [Around.under_plainId PyProof.Rows.F.plain_set_update_loop _]
    show wpAny _ A.in1 (pyNext (.ref I) >>= _) _ _ s
    refine wpAny_bind (W.done s _ _ hst fun s' hm => (show wpAny _ A.in1 (ret Value.none) _ _ s' from wpAny_pure (hR s' (hm.mono more) ?_)))
    rw [List.take_length] at hS
    exact hS.keep fun o ho => hm.heap S o hSw ho
  | succ k ih =>
    intro i s hk hi hst hS hR
    have lt : i < ks.length := by omega
    have at_ : ks[i]? = some ks[i] := List.getElem?_eq_getElem lt
    refine codeAny_builtin PyProof.Rows.F.entry_set_update_loop ?_
    rw [Around.under_plainId PyProof.Rows.F.plain_set_update_loop _]
    show wpAny _ A.in1 (pyNext (.ref I) >>= _) _ _ s
    refine wpAny_bind (W.item i s _ _ lt hst fun v s' hP hst' hm => ?_)
    obtain ⟨v1, v2⟩ := hval i v _ hP at_
    have hS' : Holds P w s'.heap S (allL (ks.take i)) := hS.keep fun o ho => hm.heap S o hSw ho
    have len : (allL (ks.take i)).length + 1 < scanBound := by
      have h1 := foldL_length (ks.take i) []
      rw [List.length_take] at h1
      have h2 : ([] : List Key).length = 0 := rfl
      unfold allL
      omega
    show wpAny _ A.in1 (holding [v] (setAdd S v) >>= _) _ _ s'
    refine wpAny_bind (wpAny_holding ?_)
    unfold setAdd
    refine wpAny_holding (wpAny_bind ((mixKind P w).pyHash v1 ?_))
    refine add_scan (s := { s' with toks := s'.toks + 1 }) v1 v2 hS' len fun b h' hsb hS2 => ?_
    have e2 : allL (ks.take (i + 1)) = addL (allL (ks.take i)) ks[i] := by
      unfold allL
      rw [List.take_add_one, at_, List.foldl_append]
      rfl
    refine wpAny_pure ⟨plainId_quiet PyProof.Rows.F.plain_set_update_loop _, ih (i + 1) _ (by omega) lt (W.frame _ s' _ _ hst' (Nat.le_succ _) fun b hb o e => ?_) (by rw [e2]; exact hS2) fun s'' hm'' hS'' => ?_⟩
    · exact (hsb.2 b fun h => hSf (h ▸ hb)).trans e
    · refine hR s'' (Moved.trans W.gtrans ((hm.mono more).then_heap (Nat.le_succ _) fun b o hb e => ?_) hm'') hS''
      exact (hsb.2 b fun h => hb (h ▸ List.mem_cons_self)).trans e

set_option maxHeartbeats 3200000 in
theorem set_call {l : Addr} {items : List Value} {ks : List Key} {Q : Value → Shared → Prop} (hh : A.handled = none) (hl : s.heap.IsList l items.toArray) (hk : Paired (fun k v => (mixKind P w).is k v = true ∧ v.scannable = true) ks items) (room : ks.length + 1 < scanBound)
    (h : ∀ (h' : Heap) (tk : Nat), Holds P w h' s.heap.objs.size (allL ks) → (∀ b o, b < s.heap.objs.size → s.heap.get? b = some o → h'.get? b = some o) → Q (.ref s.heap.objs.size) { s with heap := h', toks := tk }) :
    wpAny (model P w) A (call (.type "set") [.ref l]) Q E s := by
  have ⟨c, tl, hmro⟩ := PySem.F.called_set.mro
  have made := PySem.F.called_set.made
  have sub := PySem.F.called_set.sub
  refine wpAny_call (codeAny_of_tree (show wpAny _ _ (callAny (.type "set") _) _ _ _ from wpAny_pure ⟨Code.quiet_builtin _ (by decide +kernel), codeAny_builtin PySem.F.entry_type_call ?_⟩))
  rw [Around.under_plain (weight_type_call_type "set" [.ref l] []) rfl]
  have u1 := PySem.F.called_set.notType
  have u2 := PySem.F.called_set.canCreate
  have u3 := PySem.F.typeCall_set_1 (.ref l)
  repeat (any_goals (first | assumption | wp_step))
  have R0 := fresh_set (P := P) (w := w) s.heap
  have made0 := new_set (P := P) (w := w) (A := A.in1) (s := s) (.ref l) (E := E) (Q₁ := fun obj s₁ => obj = .ref s.heap.objs.size ∧ s₁ = { s with heap := s.heap.push { cls := .type "set", dict := none, data := .set #[] 0 (.fresh 0 0 (!w.params.followText "set-order")) } }) ⟨rfl, rfl⟩
  generalize (!w.params.followText "set-order") = led at made0 R0
  refine codeAny_mono made0 fun r s₁ hr => ?_
  match r, hr with
  | .error e, hr => exact hr
  | .ok .next, hr => exact hr.elim
  | .ok .brk, hr => exact hr.elim
  | .ok .cont, hr => exact hr.elim
  | .ok (.ret obj), hr =>
    obtain ⟨rfl, rfl⟩ := hr
    have hS : (s.heap.push { cls := .type "set", dict := none, data := .set #[] 0 (.fresh 0 0 led) }).get? s.heap.objs.size = some { cls := .type "set", dict := none, data := .set #[] 0 (.fresh 0 0 led) } := Heap.get?_push_size _ rfl
    have hT : Shared.TypeIs { s with heap := s.heap.push { cls := .type "set", dict := none, data := .set #[] 0 (.fresh 0 0 led) } } (.ref s.heap.objs.size) "set" := ⟨_, hS, rfl⟩
    have i1 := PySem.F.called_set.init.lookup
    have i2 := PySem.F.called_set.init.bind (.ref s.heap.objs.size)
    repeat (any_goals (first | assumption | wp_step))
    refine codeAny_mono (codeAny_call_builtin (R := wants (fun r s₂ => r = .none ∧ ∃ h' tk, s₂ = { s with heap := h', toks := tk } ∧ Holds P w h' s.heap.objs.size (allL ks) ∧ ∀ b o, b < s.heap.objs.size → s.heap.get? b = some o → h'.get? b = some o) E)
      PySem.F.called_set.init.plain PySem.F.entry_set_init (check_set_init_1 hT ?_)) fun r₂ s₂ hr₂ => ?_
    · have hlS : l < s.heap.objs.size := let ⟨o, e, _⟩ := hl; Heap.lt_size e
      have hl1 : (s.heap.push { cls := .type "set", dict := none, data := .set #[] 0 (.fresh 0 0 led) }).IsList l items.toArray := hl.at fun o e => Heap.get?_push_of_some _ e
      obtain ⟨⟨ocls, odict, odata, oslots⟩, hol, hcl, nl, hdl⟩ := hl1
      simp only at hcl hdl
      subst hcl hdl
      have n1 := PySem.F.sub_list_set
      have n2 := PySem.F.sub_list_frozenset
      have n3 : (Value.type "list" == Value.type "dict") = false := by decide
      unfold Builtin.«set.__init__» noKeywords Builtin.Frozenset.updateFrom
      generalize hPI : pyIter = PI
      wp_walk
      subst hPI
      have hl2 : (s.heap.push { cls := .type "set", dict := none, data := .set #[] 0 (.fresh 0 0 led) }).IsList l items.toArray := ⟨_, hol, rfl, nl, rfl⟩
      refine wpAny_pyIter_list hl2 ?_
      refine wpAny_bind (wpAny_runValue ?_)
      have zz : (s.heap.push { cls := .type "set", dict := none, data := .set #[] 0 (.fresh 0 0 led) }).objs.size = s.heap.objs.size + 1 := Heap.size_push ..
      have hneI : l ≠ (s.heap.push { cls := .type "set", dict := none, data := .set #[] 0 (.fresh 0 0 led) }).objs.size := by rw [zz]; exact Nat.ne_of_lt (Nat.lt_succ_of_lt hlS)
      have len : ks.length = items.toArray.size := hk.length.trans List.size_toArray.symm
      have W := (Walks.list (prog := P) (w := w) (A := A.in1.in1.in1) (by simpa using hh) (s.heap.push { cls := .type "set", dict := none, data := .set #[] 0 (.fresh 0 0 led) }).objs.size l hneI items.toArray).toS
      rw [← len] at W
      refine update_loop W (fun z => ?_) (fun i v k hv hki => ?_) room (ks.length - 0) 0 _ rfl (Nat.zero_le _) ⟨⟨_, Heap.get?_push_size _ rfl, rfl, rfl⟩, hl2.at fun o e => Heap.get?_push_of_some _ e⟩ ?_ fun s' hm hS' => ?_
      · rcases List.mem_cons.mp z with z | z
        · rw [zz] at z
          exact Nat.ne_of_lt (Nat.lt_succ_self _) z
        · exact Nat.ne_of_lt hlS (List.mem_singleton.mp z).symm
      · rw [List.getElem?_toArray] at hv
        have : ∀ {ks : List Key} {its : List Value} {i : Nat}, Paired (fun k v => (mixKind P w).is k v = true ∧ v.scannable = true) ks its → ks[i]? = some k → its[i]? = some v → (mixKind P w).is k v = true ∧ v.scannable = true := by
          intro ks its i hp
          induction hp generalizing i with
          | nil => intro z; cases z
          | cons r _ ih =>
            cases i with
            | zero => intro a b; cases a; cases b; exact r
            | succ i => exact fun a b => ih (i := i) a b
        exact this hk hki hv
      · exact R0.keep fun o e => Heap.get?_push_of_some _ e
      · obtain ⟨h', g', d', tk', os'⟩ := s'
        obtain rfl : g' = s.gens := hm.gens
        obtain rfl : d' = s.drawn := hm.drawn
        obtain rfl : os' = s.os := hm.os
        refine wpAny_pure (show wpAny _ _ (ret Value.none) _ _ _ from wpAny_pure ⟨rfl, h', tk', rfl, hS', fun b o hb e => ?_⟩)
        refine hm.heap b o (fun z => ?_) (Heap.get?_push_of_some _ (Heap.get?_push_of_some _ e))
        rcases List.mem_cons.mp z with z | z
        · exact Nat.ne_of_lt hb z
        · have e1 := List.mem_singleton.mp z
          rw [zz] at e1
          exact Nat.ne_of_lt (Nat.lt_succ_of_lt hb) e1
    · match r₂, hr₂ with
      | .error e, hr₂ => exact hr₂
      | .ok .next, hr₂ => exact hr₂.elim
      | .ok .brk, hr₂ => exact hr₂.elim
      | .ok .cont, hr₂ => exact hr₂.elim
      | .ok (.ret r), hr₂ =>
        obtain ⟨rfl, h', tk, rfl, hS', hk'⟩ := hr₂
        repeat (any_goals (first | assumption | wp_step))
        exact h _ _ hS' hk'
end
section
variable {X : Cx}
/-- set(xs), xs a list of ints and texts -/
def rSetOf (K : PySem.W.Frag) (P : Program) (w : World) : List V → Hp → VK → Prop := fun vs H Q => ∃ (a : Addr) (ks : List Key), vs = [.ref a] ∧ SqL K H a (ks.map kV) ∧ ks.length + 1 < scanBound ∧ ∀ p, H p = none → Q (.ref p) (upd H p (SetL P w p (allL ks)))
theorem cr_setOf (hc : X.calm = true) : CallR X (.type "set") (rSetOf X.K X.prog X.w) := by
  intro pins s σ H vs us Q I r h
  obtain ⟨a, ks, rfl, hs, room, q⟩ := h
  rw [Vals.ref1 r]
  obtain ⟨its, rv, pl, hz⟩ := I.list hs
  have hk : ∀ {ks : List Key} {its : List Value}, Vals (ks.map kV) its → Paired (fun k v => (mixKind X.prog X.w).is k v = true ∧ v.scannable = true) ks its := by
    intro ks
    induction ks with
    | nil => intro its hp; cases hp; exact .nil
    | cons k ks ih =>
      intro its hp
      cases hp with
      | cons r t => exact .cons (key_rel r X.prog X.w) (ih t)
  refine set_call (I.ok.hd hc) pl.isList (hk rv) room fun h' tk R k => ?_
  have J : Inv X pins σ (upd H s.heap.objs.size (SetL X.prog X.w s.heap.objs.size (allL ks))) { s with heap := h', toks := tk } :=
    I.laid (t' := tk) (fun b o e => k b o (Heap.lt_size e) e) (Nat.le_refl _) R.new
  exact ⟨.ref _, _, J, rfl, q _ (I.hok.fresh (Nat.le_refl _))⟩
end
end KnS

set_option Elab.async false
set_option linter.all false
set_option maxRecDepth 100000
set_option maxHeartbeats 4000000
/-! What is walked may be a list or a tuple: the for loop over it, and over enumerate of it. -/
namespace KnE
open PySem PySem.Spec PyProof.Rows L2
/-- a list (true) or a tuple (false) -/
def Sq (K : PySem.W.Frag) (b : Bool) (H : Hp) (a : Addr) (xs : List V) : Prop := match b with | true => SqL K H a xs | false => SqT K H a xs
def ItS (K : PySem.W.Frag) (b : Bool) (a : Addr) : It := match b with | true => Itl K a | false => Itt K a
def iSeq (K : PySem.W.Frag) (te : TE) : TI := fun σ H R => te σ H fun x H1 => ∃ a b, x = .ref a ∧ (∃ xs, Sq K b H1 a xs) ∧ R (ItS K b a) H1
section
variable {X : Cx} {tg : Expr}
theorem pi_seq {e : Expr} {te : TE} (he : PE X e te) : PI X tg e (iSeq X.K te) := by
  refine ⟨fun pins s σ H R I h => thn (he.run pins s σ H _ I h) fun v s1 ⟨x, H1, I1, r1, a, b, ex, ⟨xs, hq⟩, q⟩ => ?_⟩
  subst ex
  cases r1
  cases b with
  | true =>
    obtain ⟨its, rv, p, hz⟩ := I1.list hq
    exact wpAny_pyIter_list p.isList (pi_one (tk := s1.toks) I1 _ (turn_list a _) ⟨_, Heap.get?_push_size _ rfl, rfl, rfl⟩ q)
  | false =>
    obtain ⟨its, rv, p, hz⟩ := I1.tuple hq
    exact wpAny_pyIter_tuple (show s1.heap.IsTuple a its.toArray from p) (pi_one (tk := s1.toks) I1 _ (turn_tuple a _) ⟨_, Heap.get?_push_size _ rfl, rfl, rfl⟩ q)
end
theorem Sq.inj {X : Cx} {pins : List (Addr × Obj)} {σ : L2.St} {H : Hp} {s : Shared} {b : Bool} {a : Addr} {xs ys : List V} (I : Inv X pins σ H s) (h : Sq X.K b H a xs) (h' : Sq X.K b H a ys) : xs = ys := by
  cases b with
  | true => exact I.list_inj h h'
  | false => exact I.tuple_inj h h'
/-- the for loop over a list or tuple that the body leaves as it is -/
theorem for_seq {K : PySem.W.Frag} {b : Bool} {a : Addr} {xs : List V} {g : TG} {tb : TS} {D : Ends} {σ : L2.St} {H : Hp} (Pv : Nat → L2.St → Hp → Prop) (h0 : Pv 0 σ H) (hl : ∀ i σ H, i ≤ xs.length → Pv i σ H → Sq K b H a xs)
    (hs : ∀ i x σ H, xs[i]? = some x → Pv i σ H → g x σ H fun σ2 H2 => tb { D with nx := Pv (i + 1), ct := Pv (i + 1), bk := D.nx } σ2 H2) (hd : ∀ σ H, Pv xs.length σ H → D.nx σ H) :
    ∃ W : Nat → Nat → L2.St → Hp → Prop, (∃ m, W 0 m σ H) ∧ ∀ i m σ H, W i m σ H →
      ((ItS K b a).stop i H ∧ D.nx σ H) ∨ ((ItS K b a).go i H ∧ ∃ N : L2.St → Hp → Prop, (∀ σ' H', N σ' H' → ∃ m', m' < m ∧ W (i + 1) m' σ' H') ∧
        ∀ x H', (ItS K b a).yld i H x H' → g x σ H' fun σ2 H2 => tb { D with nx := N, ct := N, bk := D.nx } σ2 H2) := by
  cases b with
  | true => exact for_list (K := K) (a := a) (xs := xs) Pv h0 hl hs hd
  | false => exact for_tup (K := K) (a := a) (xs := xs) Pv h0 hl hs hd
/-! ### enumerate -/
def Liv (b : Bool) (h : Heap) (a : Addr) (its : List Value) : Prop := match b with | true => h.IsList a its.toArray | false => h.IsTuple a its.toArray
def iterAt (b : Bool) (h : Heap) (it a : Addr) (i : Nat) : Prop := match b with | true => h.IsListIter it a i | false => h.IsTupleIter it a i
/-- (0, x0), (1, x1), .., each a new tuple -/
def ItN (K : PySem.W.Frag) (b : Bool) (a : Addr) : It where
  go := fun i H => ∃ (xs : List V) (x : V), Sq K b H a xs ∧ xs[i]? = some x
  yld := fun i H v H' => ∃ T x, v = .ref T ∧ H T = none ∧ H' = upd H T (.tup [.int (i : Nat), x]) ∧ ∀ xs, Sq K b H a xs → xs[i]? = some x
  stop := fun i H => ∃ xs : List V, Sq K b H a xs ∧ xs.length = i
theorem iterAt.mono {b : Bool} {h h' : Heap} {it a : Addr} {i : Nat} (x : iterAt b h it a i) (k : ∀ o, h.get? it = some o → h'.get? it = some o) : iterAt b h' it a i := by
  cases b with
  | true => exact Heap.IsListIter.at x k
  | false => exact Heap.IsTupleIter.at x k
theorem iterAt.plain {b : Bool} {h : Heap} {it a : Addr} {i : Nat} (x : iterAt b h it a i) : ∃ o, h.get? it = some o ∧ ∀ v, o.data ≠ .cell v := by
  cases b with
  | true => obtain ⟨o, e, _, d⟩ := x; exact ⟨o, e, fun v z => by rw [d] at z; cases z⟩
  | false => obtain ⟨o, e, _, d⟩ := x; exact ⟨o, e, fun v z => by rw [d] at z; cases z⟩
section
variable {P : Program} {w : World} {A : Around} {E : Value → Shared → Prop} {s : Shared}
/-- one more of an enumeration, of either kind -/
theorem enum_item {b : Bool} {e it a : Addr} {i : Nat} {its : List Value} {u old : Value} {Q : Option Value → Shared → Prop} (hh : A.handled = none) (he : IsEnum s.heap e it i old) (hit : iterAt b s.heap it a i)
    (hp : Liv b s.heap a its) (hu : its[i]? = some u) (hne : e ≠ it) (hae : a ≠ e) (hai : a ≠ it)
    (hQ : ∀ h' tk, IsEnumOut h' e it ((i : Int) + 1) u s.heap.objs.size → iterAt b h' it a (i + 1) → h'.get? s.heap.objs.size = some { cls := .type "tuple", data := .seq #[.int i tk, u] } →
      (∀ b o, b ≠ e → b ≠ it → s.heap.get? b = some o → h'.get? b = some o) → Q (some (.ref s.heap.objs.size)) { s with heap := h', toks := tk + 1 }) : wpAny (model P w) A (pyNext (.ref e)) Q E s := by
  have hlt : i < its.toArray.size := by
    rw [List.size_toArray]
    exact (List.getElem?_eq_some_iff.mp hu).1
  have hef : e ∉ [it, a] := fun z => by
    rcases List.mem_cons.mp z with z | z
    · exact hne z
    · exact hae (List.mem_singleton.mp z).symm
  have same : ∀ {x : Value}, its.toArray[i]? = some x → x = u := fun {x} z => by
    rw [List.getElem?_toArray, hu] at z
    exact (Option.some.inj z).symm
  cases b with
  | true =>
    refine wpAny_pyNext_enum_itemD (Draws.list (A := A.in1) hh it a hai its.toArray) he ⟨hit, hp⟩ hlt hne hef fun x h' tk hP ho hs' hT hsz hk => ?_
    rw [same hP] at ho hT
    exact hQ h' tk ho hs'.1 hT hk
  | false =>
    refine wpAny_pyNext_enum_itemD (Draws.tuple (A := A.in1) hh it a hai its.toArray) he ⟨hit, hp⟩ hlt hne hef fun x h' tk hP ho hs' hT hsz hk => ?_
    rw [same hP] at ho hT
    exact hQ h' tk ho hs'.1 hT hk
theorem enum_end {b : Bool} {e it a : Addr} {i : Nat} {its : List Value} {old : Value} {Q : Option Value → Shared → Prop} (hh : A.handled = none) (he : IsEnum s.heap e it i old) (hit : iterAt b s.heap it a i)
    (hp : Liv b s.heap a its) (hi : i = its.length) (hai : a ≠ it)
    (hQ : ∀ h', Heap.ExtBut it s.heap h' → Q none { s with heap := h' }) : wpAny (model P w) A (pyNext (.ref e)) Q E s := by
  subst hi
  have z : its.toArray.size = its.length := List.size_toArray
  cases b with
  | true => exact wpAny_pyNext_enum_endD (Draws.list (A := A.in1) hh it a hai its.toArray) he ⟨z ▸ hit, hp⟩ hQ
  | false => exact wpAny_pyNext_enum_endD (Draws.tuple (A := A.in1) hh it a hai its.toArray) he ⟨z ▸ hit, hp⟩ hQ
end
theorem sq_lives {X : Cx} {pins : List (Addr × Obj)} {σ : L2.St} {H : Hp} {s : Shared} {b : Bool} {a : Addr} {xs : List V} (I : Inv X pins σ H s) (h : Sq X.K b H a xs) :
    ∃ its : List Value, Vals xs its ∧ Liv b s.heap a its := by
  cases b with
  | true => obtain ⟨its, rv, p, _⟩ := I.list h; exact ⟨its, rv, p.isList⟩
  | false => obtain ⟨its, rv, p, _⟩ := I.tuple h; exact ⟨its, rv, p⟩
theorem lives_ne {b : Bool} {h : Heap} {a : Addr} {its : List Value} {e : Addr} {o : Obj} {n : String} (p : Liv b h a its) (he : h.get? e = some o) (hc : o.cls = .type n) (n1 : n ≠ "list") (n2 : n ≠ "tuple") : a ≠ e := by
  rintro rfl
  cases b with
  | true => obtain ⟨o', e', c', _⟩ := p; rw [he] at e'; cases e'; rw [hc] at c'; cases c'; exact n1 rfl
  | false => obtain ⟨o', e', c', _⟩ := p; rw [he] at e'; cases e'; rw [hc] at c'; cases c'; exact n2 rfl
theorem iterAt.cls {b : Bool} {h : Heap} {it a : Addr} {i : Nat} (x : iterAt b h it a i) : ∃ o n, h.get? it = some o ∧ o.cls = .type n ∧ n ≠ "list" ∧ n ≠ "tuple" := by
  cases b with
  | true => obtain ⟨o, e, c, _⟩ := x; exact ⟨o, _, e, c, by decide, by decide⟩
  | false => obtain ⟨o, e, c, _⟩ := x; exact ⟨o, _, e, c, by decide, by decide⟩
theorem turn_en {P : Program} {w : World} {K : PySem.W.Frag} {elts : List Expr} {kk : Nat} {tpos : Pos} (b : Bool) (a e it : Addr) :
    Turn P w K (.Tuple elts kk tpos) (ItN K b a) [e, it] e (fun i h => (∃ old, IsEnum h e it ((i : Nat) : Int) old) ∧ iterAt b h it a i ∧ e ≠ it) where
  mem := List.mem_cons_self
  obj := fun i h ⟨⟨old, he⟩, hi, _⟩ c hc => by
    rcases List.mem_cons.mp hc with z | z
    · rw [z]; exact ⟨_, he, fun v q => nomatch q⟩
    · rw [List.mem_singleton.mp z]; exact hi.plain
  keep := fun i h h' ⟨⟨old, he⟩, hi, hne⟩ k => ⟨⟨old, k e List.mem_cons_self _ he⟩, hi.mono fun o q => k it (List.mem_cons_of_mem _ List.mem_cons_self) o q, hne⟩
  self := fun A i s Q E ⟨⟨_, he⟩, _⟩ h => wpAny_pyIter_enum he h
  done := by
    intro X hP hw hK hc i pins s σ H E I hf ⟨⟨old, he⟩, hit, hne⟩ ⟨xs, hq, hx⟩
    subst hP hw hK
    obtain ⟨its, rv, p⟩ := sq_lives I hq
    obtain ⟨oi, ni, hoi, ci, ni1, ni2⟩ := hit.cls
    obtain ⟨f0, f1, f2, f3, f4, f5⟩ := hf it (List.mem_cons_of_mem _ List.mem_cons_self)
    refine enum_end (I.ok.hd hc) he hit p (hx.symm.trans rv.length) (lives_ne p hoi ci ni1 ni2) fun h' eb => ?_
    exact ⟨rfl, I.turned (t' := s.toks) (fun c o hb q => eb c o hb q) f0 f1 f3 f4 f5⟩
  item := by
    intro X hP hw hK hc i pins s σ H E I hf ⟨⟨old, he⟩, hit, hne⟩ ⟨xs, x, hq, hx⟩
    subst hP hw hK
    obtain ⟨its, rv, p⟩ := sq_lives I hq
    obtain ⟨u, hu, ru⟩ := rv.get hx
    have he0 := he
    have hel : e < s.heap.objs.size := Heap.lt_size he
    obtain ⟨oi, ni, hoi, ci, ni1, ni2⟩ := hit.cls
    have hil : it < s.heap.objs.size := Heap.lt_size hoi
    refine enum_item (I.ok.hd hc) he hit p hu hne (lives_ne p he0 rfl (by decide) (by decide)) (lives_ne p hoi ci ni1 ni2) fun h' tk ho hit' hT hk => ?_
    refine ⟨_, rfl, wpAny_letOwnedTupleGo_enum (s := { s with heap := h', toks := tk + 1 }) ho fun h'' he' sb => ?_⟩
    have hT2 := (sb.2 s.heap.objs.size (Nat.ne_of_gt hel)).trans hT
    have I1 : Inv X pins σ (upd H s.heap.objs.size (.tup [.int (i : Nat), x])) { s with heap := h'', toks := tk + 1 } :=
      I.turnedNew (ch := [e, it]) (fun c ob hb q => (sb.2 c fun z => hb (z ▸ List.mem_cons_self)).trans (hk c ob (fun z => hb (z ▸ List.mem_cons_self)) (fun z => hb (z ▸ List.mem_cons_of_mem _ List.mem_cons_self)) q)) hf (Nat.le_refl _)
        (show ObjOk X.prog X.w _ h'' _ (.tup [.int (i : Nat), x]) from ⟨by show 2 ≤ sizeLine; decide, [.int i tk, u], .cons ⟨_, rfl⟩ (.cons ru .nil), _, hT2, rfl, _, rfl⟩)
    refine ⟨.ref s.heap.objs.size, _, I1, rfl, ⟨_, x, rfl, I.hok.fresh (Nat.le_refl _), rfl, fun ys hy => by rw [hy.inj I hq]; exact hx⟩, ⟨⟨u, ?_⟩, hit'.mono fun o q => (sb.2 it hne.symm).trans q, hne⟩, fun c hcm => ?_⟩
    · have e1 : ((i + 1 : Nat) : Int) = (i : Int) + 1 := by omega
      rw [e1]
      exact he'
    · rcases List.mem_cons.mp hcm with z | z
      · rw [z, upd_ne (Nat.ne_of_lt hel)]
        exact (hf e List.mem_cons_self).1
      · rw [List.mem_singleton.mp z, upd_ne (Nat.ne_of_lt hil)]
        exact (hf it (List.mem_cons_of_mem _ List.mem_cons_self)).1

/-! ### enumerate(v), its making -/
set_option maxHeartbeats 1000000 in
theorem new_enum {v : Value} {o : Obj} {Hv : Heap → Prop} (B : Begins v o Hv) : Meets (Builtin.«enumerate.__new__» ⟨[.type "enumerate", v], []⟩) (fun _ R s => Hv s.heap ∧
      R (.ok (.ret (.ref (s.heap.push o).objs.size))) { s with heap := (s.heap.push o).push { cls := .type "enumerate", data := .fields #[.none, .bool false, .ref s.heap.objs.size, rawInt 0, .none, .none] } }) :=
  .of_wp fun prog w A R s ⟨h1, h⟩ => by
    obtain ⟨hp, g, d, tk, os⟩ := s
    have hsub := sub_enumerate
    have q1 : ∀ {A' : Around} {E : Value → Shared → Prop} {Q : Value → Shared → Prop}, Q (.ref hp.objs.size) ⟨hp.push o, g, d, tk, os⟩ → wpAny (model prog w) A' (pyIter v) Q E ⟨hp, g, d, tk, os⟩ := B.iter prog w _ _ ⟨hp, g, d, tk, os⟩ _ h1
    wp_walk using q1
    refine wpAny_stack_any fun st => wpAny_pure ?_
    split
    · rename_i c _ _ _ _ _
      cases (c == Value.type "enumerate") <;> (wp_walk using q1; exact ⟨_, rfl, h⟩)
    · wp_walk using q1
      exact ⟨_, rfl, h⟩
section
variable {P : Program} {w : World} {A : Around} {E : Value → Shared → Prop} {s : Shared}
theorem enum_made {v : Value} {o : Obj} {Hv : Heap → Prop} {Q : Value → Shared → Prop} (B : Begins v o Hv) (h1 : Hv s.heap)
    (h : ∀ h', IsEnum h' (s.heap.objs.size + 1) s.heap.objs.size 0 .none → h'.get? s.heap.objs.size = some o → (∀ b o, s.heap.get? b = some o → h'.get? b = some o) → Q (.ref (s.heap.objs.size + 1)) { s with heap := h' }) :
    wpAny (model P w) A (call (.type "enumerate") [v]) Q E s := by
  refine callType_new F.called_enumerate (by decide) (F.typeCall_enumerate_1 _) (F.newCall_enumerate_1 _) (fun obj => F.args_object_init_2 obj _) F.entry_enumerate_new (new_enum B) ⟨h1, ?_⟩
  have hz : (s.heap.push o).objs.size = s.heap.objs.size + 1 := Heap.size_push ..
  have he := Heap.get?_push_size (s.heap.push o) (o := { cls := .type "enumerate", data := .fields #[.none, .bool false, .ref s.heap.objs.size, rawInt 0, .none, .none] }) rfl
  show _ ∧ _
  rw [hz] at he ⊢
  exact ⟨⟨_, he, rfl⟩, h _ he (Heap.get?_push_of_some _ (Heap.get?_push_size _ B.free)) fun b o x => Heap.get?_push_of_some _ (Heap.get?_push_of_some _ x)⟩
end
def iEnS (K : PySem.W.Frag) (ta : TA) : TI := fun σ H R => ta σ H fun vs H1 => ∃ a b xs, vs = [.ref a] ∧ Sq K b H1 a xs ∧ R (ItN K b a) H1
theorem pi_en {X : Cx} {e : Expr} {ta : TA} {p pos tpos : Pos} {elts : List Expr} {kk : Nat} (hg : Gl X "enumerate") (hm : X.mg "enumerate" = none) (ha : PA X [e] ta) (hs : starEach [e] X.env = [(false, eval e X.env)] := by rfl) :
    PI X (.Tuple elts kk tpos) (.Call (.Name "enumerate" p) [e] [] pos) (iEnS X.K ta) := by
  refine ⟨fun pins s σ H R I h => Call_ (ld_blt I hg hm boot_enumerate (PyProof.Rows.callWith_type1 (thn (ha.run pos pins s σ H _ I h) fun us s1 ⟨vs, H1, I1, r1, a, b, xs, ex, hq, q⟩ => ?_) hs rfl))⟩
  subst ex
  cases r1 with
  | cons r rr =>
    cases rr
    cases r
    obtain ⟨its, rv, p'⟩ := sq_lives I1 hq
    have fin : ∀ (h' : Heap), IsEnum h' (s1.heap.objs.size + 1) s1.heap.objs.size 0 .none → iterAt b h' s1.heap.objs.size a 0 → (∀ c o, s1.heap.get? c = some o → h'.get? c = some o) →
        wpAny (model X.prog X.w) X.A (pyIter (.ref (s1.heap.objs.size + 1))) (PIE X pins σ (.Tuple elts kk tpos) R) X.xe { s1 with heap := h' } := fun h' he hit hk => by
      refine wpAny_pyIter_enum (s := { s1 with heap := h' }) he ⟨s1.heap.objs.size + 1, [s1.heap.objs.size + 1, s1.heap.objs.size], _, _, H1, rfl, I1.kept (t' := s1.toks) hk, turn_en b a (s1.heap.objs.size + 1) s1.heap.objs.size, ⟨⟨.none, he⟩, hit, Nat.succ_ne_self _⟩, fun c hc => ?_, q⟩
      have hle : s1.heap.objs.size ≤ c := by
        rcases List.mem_cons.mp hc with z | z
        · rw [z]; exact Nat.le_add_right _ _
        · rw [List.mem_singleton.mp z]; exact Nat.le_refl _
      exact I1.fpOk hle (I1.hok.fresh hle)
    cases b with
    | true => exact enum_made (begins_list a its.toArray) p' fun h' he ho hk => fin h' he ⟨_, ho, rfl, rfl⟩ hk
    | false => exact enum_made (begins_tuple a its.toArray) p' fun h' he ho hk => fin h' he ⟨_, ho, rfl, rfl⟩ hk
theorem for_en {K : PySem.W.Frag} {b : Bool} {a : Addr} {xs : List V} {g : TG} {tb : TS} {D : Ends} {σ : L2.St} {H : Hp} (Pv : Nat → L2.St → Hp → Prop) (h0 : Pv 0 σ H) (hl : ∀ i σ H, i ≤ xs.length → Pv i σ H → Sq K b H a xs)
    (hs : ∀ (i : Nat) (x : V) (T : Addr) (σ : L2.St) (H : Hp), xs[i]? = some x → H T = none → Pv i σ H → g (.ref T) σ (upd H T (.tup [.int (i : Nat), x])) fun σ2 H2 => tb { D with nx := Pv (i + 1), ct := Pv (i + 1), bk := D.nx } σ2 H2) (hd : ∀ σ H, Pv xs.length σ H → D.nx σ H) :
    ∃ W : Nat → Nat → L2.St → Hp → Prop, (∃ m, W 0 m σ H) ∧ ∀ i m σ H, W i m σ H →
      ((ItN K b a).stop i H ∧ D.nx σ H) ∨ ((ItN K b a).go i H ∧ ∃ N : L2.St → Hp → Prop, (∀ σ' H', N σ' H' → ∃ m', m' < m ∧ W (i + 1) m' σ' H') ∧
        ∀ x H', (ItN K b a).yld i H x H' → g x σ H' fun σ2 H2 => tb { D with nx := N, ct := N, bk := D.nx } σ2 H2) := by
  refine ⟨fun i m σ H => m = xs.length - i ∧ i ≤ xs.length ∧ Pv i σ H, ⟨xs.length, rfl, Nat.zero_le _, h0⟩, fun i m σ H ⟨em, hi, p⟩ => ?_⟩
  have q := hl i σ H hi p
  rcases Nat.lt_or_eq_of_le hi with lt | e
  · refine .inr ⟨⟨xs, xs[i], q, List.getElem?_eq_getElem lt⟩, Pv (i + 1), fun σ' H' p' => ⟨xs.length - (i + 1), by omega, rfl, lt, p'⟩, fun v H' ⟨T, x, ev, nT, eH, at_⟩ => ?_⟩
    subst ev eH
    exact hs i x T σ H (at_ xs q) nT p
  · subst e
    exact .inl ⟨⟨xs, q, rfl⟩, hd σ H p⟩
end KnE

set_option Elab.async false
set_option linter.all false
set_option maxRecDepth 100000
set_option maxHeartbeats 4000000
/-! What a walk of a comprehension asks: into a set over a list or a tuple, into a dict over a list. -/
namespace KnC
open PySem PySem.Spec PyProof.Rows L2
theorem sc_seq {P : Program} {w : World} {K : PySem.W.Frag} {b : Bool} {a : Addr} {xs : List V} {g : TG} {tt : TT} {te : TE} {vs : List Nat} {σ : L2.St} {H1 : Hp} {D : Addr} {Qd : Hp → Prop} (Pv : Nat → Hp → Prop) (h0 : Pv 0 (upd H1 D (KnS.SetL P w D []))) (hl : ∀ i H, i ≤ xs.length → Pv i H → KnE.Sq K b H a xs)
    (hs : ∀ i x H, xs[i]? = some x → Pv i H → g x (wipe σ vs) H fun σ2 H2 => wipe σ2 vs = wipe σ vs ∧ tt σ2 H2 fun c H3 =>
      if c = true then te σ2 H3 fun y H4 => ∃ (k : Key) (ks : List Key), y = kV k ∧ H4 D = some (KnS.SetL P w D ks) ∧ ks.length + 1 < scanBound ∧ Pv (i + 1) (upd H4 D (KnS.SetL P w D (KnS.addL ks k))) else Pv (i + 1) H3) (hd : ∀ H, Pv xs.length H → Qd H) :
    ∃ W : Nat → Nat → Hp → Prop, (∃ m, W 0 m (upd H1 D (KnS.SetL P w D []))) ∧ ∀ i m H, W i m H → ((KnE.ItS K b a).stop i H ∧ Qd H) ∨
      ((KnE.ItS K b a).go i H ∧ ∃ Nx : Hp → Prop, (∀ H', Nx H' → ∃ m', m' < m ∧ W (i + 1) m' H') ∧ ∀ x H', (KnE.ItS K b a).yld i H x H' → g x (wipe σ vs) H' fun σ2 H2 => wipe σ2 vs = wipe σ vs ∧ tt σ2 H2 fun c H3 =>
        if c = true then te σ2 H3 fun y H4 => ∃ (k : Key) (ks : List Key), y = kV k ∧ H4 D = some (KnS.SetL P w D ks) ∧ ks.length + 1 < scanBound ∧ Nx (upd H4 D (KnS.SetL P w D (KnS.addL ks k))) else Nx H3) := by
  refine ⟨fun i m H => m = xs.length - i ∧ i ≤ xs.length ∧ Pv i H, ⟨xs.length, by simp, Nat.zero_le _, h0⟩, ?_⟩
  rintro i m H ⟨rfl, hi, p⟩
  have q := hl i H hi p
  cases b with
  | true =>
    by_cases hlt : i < xs.length
    · refine .inr ⟨⟨xs, xs[i], q, by simp [hlt]⟩, Pv (i + 1), fun H' p' => ⟨xs.length - (i + 1), by omega, rfl, hlt, p'⟩, fun x H' y => ?_⟩
      obtain ⟨e, y⟩ := y
      subst e
      exact hs i x _ (y xs q) p
    · have e : i = xs.length := by omega
      subst e
      exact .inl ⟨⟨xs, q, Nat.le_refl _⟩, hd H p⟩
  | false =>
    by_cases hlt : i < xs.length
    · refine .inr ⟨⟨xs, xs[i], q, by simp [hlt]⟩, Pv (i + 1), fun H' p' => ⟨xs.length - (i + 1), by omega, rfl, hlt, p'⟩, fun x H' y => ?_⟩
      obtain ⟨e, y⟩ := y
      subst e
      exact hs i x _ (y xs q) p
    · have e : i = xs.length := by omega
      subst e
      exact .inl ⟨⟨xs, q, Nat.le_refl _⟩, hd H p⟩
theorem dc_list {K : PySem.W.Frag} {a : Addr} {xs : List V} {g : TG} {tt : TT} {tk tv : TE} {vs : List Nat} {σ : L2.St} {H1 : Hp} {D : Addr} {Qd : Hp → Prop} (Pv : Nat → Hp → Prop) (h0 : Pv 0 (upd H1 D (.dK []))) (hl : ∀ i H, i ≤ xs.length → Pv i H → SqL K H a xs)
    (hs : ∀ i x H, xs[i]? = some x → Pv i H → g x (wipe σ vs) H fun σ2 H2 => wipe σ2 vs = wipe σ vs ∧ tt σ2 H2 fun b H3 =>
      if b = true then tk σ2 H3 fun y H4 => tv σ2 H4 fun z H5 => ∃ kvs k, y = kV k ∧ H5 D = some (.dK kvs) ∧ kvs.length < sizeLine ∧ Pv (i + 1) (upd H5 D (.dK (putK kvs k z))) else Pv (i + 1) H3) (hd : ∀ H, Pv xs.length H → Qd H) :
    ∃ W : Nat → Nat → Hp → Prop, (∃ m, W 0 m (upd H1 D (.dK []))) ∧ ∀ i m H, W i m H →
      ((Itl K a).stop i H ∧ Qd H) ∨ ((Itl K a).go i H ∧ ∃ Nx : Hp → Prop, (∀ H', Nx H' → ∃ m', m' < m ∧ W (i + 1) m' H') ∧ ∀ x H', (Itl K a).yld i H x H' → g x (wipe σ vs) H' fun σ2 H2 => wipe σ2 vs = wipe σ vs ∧ tt σ2 H2 fun b H3 =>
        if b = true then tk σ2 H3 fun y H4 => tv σ2 H4 fun z H5 => ∃ kvs k, y = kV k ∧ H5 D = some (.dK kvs) ∧ kvs.length < sizeLine ∧ Nx (upd H5 D (.dK (putK kvs k z))) else Nx H3) := by
  refine ⟨fun i m H => m = xs.length - i ∧ i ≤ xs.length ∧ Pv i H, ⟨xs.length, by simp, Nat.zero_le _, h0⟩, ?_⟩
  rintro i m H ⟨rfl, hi, p⟩
  have q := hl i H hi p
  by_cases hlt : i < xs.length
  · refine .inr ⟨⟨xs, xs[i], q, by simp [hlt]⟩, Pv (i + 1), fun H' p' => ⟨xs.length - (i + 1), by omega, rfl, hlt, p'⟩, fun x H' y => ?_⟩
    obtain ⟨e, y⟩ := y
    subst e
    exact hs i x _ (y xs q) p
  · have e : i = xs.length := by omega
    subst e
    exact .inl ⟨⟨xs, q, Nat.le_refl _⟩, hd H p⟩
/-- a list comprehension over a dict's keys -/
theorem lc_keys {d : Addr} {o : Obj} {kvs : List (Key × V)} {g : TG} {tt : TT} {te : TE} {vs : List Nat} {σ : L2.St} {H1 : Hp} {D : Addr} {Qd : Hp → Prop} (Pv : Nat → Hp → Prop) (h0 : Pv 0 (upd H1 D (.lst []))) (hl : ∀ i H, i ≤ kvs.length → Pv i H → H d = some (.frz o (.dK kvs)))
    (hs : ∀ i k v H, kvs[i]? = some (k, v) → Pv i H → g (kV k) (wipe σ vs) H fun σ2 H2 => wipe σ2 vs = wipe σ vs ∧ tt σ2 H2 fun b H3 =>
      if b = true then te σ2 H3 fun y H4 => ∃ acc, H4 D = some (.lst acc) ∧ acc.length < sizeLine ∧ Pv (i + 1) (upd H4 D (.lst (acc ++ [y]))) else Pv (i + 1) H3) (hd : ∀ H, Pv kvs.length H → Qd H) :
    ∃ W : Nat → Nat → Hp → Prop, (∃ m, W 0 m (upd H1 D (.lst []))) ∧ ∀ i m H, W i m H →
      ((Itk d o kvs).stop i H ∧ Qd H) ∨ ((Itk d o kvs).go i H ∧ ∃ Nx : Hp → Prop, (∀ H', Nx H' → ∃ m', m' < m ∧ W (i + 1) m' H') ∧ ∀ x H', (Itk d o kvs).yld i H x H' → g x (wipe σ vs) H' fun σ2 H2 => wipe σ2 vs = wipe σ vs ∧ tt σ2 H2 fun b H3 =>
        if b = true then te σ2 H3 fun y H4 => ∃ acc, H4 D = some (.lst acc) ∧ acc.length < sizeLine ∧ Nx (upd H4 D (.lst (acc ++ [y]))) else Nx H3) := by
  refine ⟨fun i m H => m = kvs.length - i ∧ i ≤ kvs.length ∧ Pv i H, ⟨kvs.length, by simp, Nat.zero_le _, h0⟩, ?_⟩
  rintro i m H ⟨rfl, hi, p⟩
  have q := hl i H hi p
  by_cases hlt : i < kvs.length
  · refine .inr ⟨⟨q, hlt⟩, Pv (i + 1), fun H' p' => ⟨kvs.length - (i + 1), by omega, rfl, hlt, p'⟩, fun x H' y => ?_⟩
    obtain ⟨e, k, v, ek, ex⟩ := y
    subst e ex
    exact hs i k v _ ek p
  · have e : i = kvs.length := by omega
    subst e
    exact .inl ⟨⟨q, Nat.le_refl _⟩, hd H p⟩
/-- texts as keys -/
theorem addL_strs {xs : List Str} {x : Str} : KnS.addL (xs.map Sum.inr) (Sum.inr x) = ((if x ∈ xs then xs else xs ++ [x]).map Sum.inr : List Key) := by
  unfold KnS.addL
  by_cases z : x ∈ xs
  · rw [if_pos z, if_pos (KnS.hasL_iff.mpr (List.mem_map.mpr ⟨x, z, rfl⟩))]
  · rw [if_neg z, if_neg (fun q => z (by obtain ⟨y, hy, e⟩ := List.mem_map.mp (KnS.hasL_iff.mp q); cases e; exact hy)), List.map_append]; rfl
/-- a list or a tuple by a place -/
def rIx (K : PySem.W.Frag) : R2 := fun x y H Q => rIxL K x y H Q ∨ rIxT K x y H Q
theorem ix_seq {X : Cx} {K : PySem.W.Frag} (h1 : IxR X (rIxL K)) (h2 : IxR X (rIxT K)) : IxR X (rIx K) := by
  intro value slice pins s σ H x y v u Q I rx ry h hs
  rcases h with h | h
  · exact h1 value slice pins s σ H x y v u Q I rx ry h hs
  · exact h2 value slice pins s σ H x y v u Q I rx ry h hs
/-- a branch, and what comes behind both its ways -/
theorem if_then {c : TT} {t u b : TS} {D : Ends} {σ : L2.St} {H : Hp} (T : L2.St → Hp → Prop) (h : (∀ σ2 H2, T σ2 H2 → b D σ2 H2) → tSeq (tIfS c t u) b D σ H) (k : ∀ σ2 H2, T σ2 H2 → b D σ2 H2) : tSeq (tIfS c t u) b D σ H := h k
theorem asg_if {i : Nat} {x : V} {c : TT} {t u b : TS} {D : Ends} {ra : VK} {rb rc : L2.St → Hp → Prop} {σ : L2.St} {H : Hp} (T : L2.St → Hp → Prop) (h : (∀ σ2 H2, T σ2 H2 → b D σ2 H2) → tSeq (tIfS c t u) b D (σ.set i (some x)) H) (k : ∀ σ2 H2, T σ2 H2 → b D σ2 H2) : gName i x σ H (Ends.nx { nx := tSeq (tIfS c t u) b D, rt := ra, ct := rb, bk := rc }) := h k
theorem nx_if {c : TT} {t u b : TS} {D : Ends} {ra : VK} {rb rc : L2.St → Hp → Prop} {σ : L2.St} {H : Hp} (T : L2.St → Hp → Prop) (h : (∀ σ2 H2, T σ2 H2 → b D σ2 H2) → tSeq (tIfS c t u) b D σ H) (k : ∀ σ2 H2, T σ2 H2 → b D σ2 H2) : Ends.nx { nx := tSeq (tIfS c t u) b D, rt := ra, ct := rb, bk := rc } σ H := h k
theorem un65 {k : Nat} {A : Around} (r : Room k A) : A.units + 65 < cLine := by have := r.un; omega
end KnC

set_option Elab.async false
set_option linter.all false
set_option maxRecDepth 100000
set_option maxHeartbeats 4000000
/-! list(d.values()). -/
namespace KnM
open PySem PySem.Spec PyProof.Rows L2
def tListVals (td : TE) : TE := fun σ H Q => td σ H fun x H1 => ∃ d kvs, x = .ref d ∧ Rd H1 d (.dK kvs) ∧ ∀ p, H1 p = none → Q (.ref p) (upd H1 p (.lst (kvs.map (·.2))))
theorem vals_kv {kvs : List (Key × V)} {vs : List (Key × Value)} (r : KV kvs vs) : Vals (kvs.map (·.2)) (vs.map (·.2)) := by
  unfold KV at r
  induction r with
  | nil => exact .nil
  | cons h _ ih => exact .cons h.2 ih
section
variable {X : Cx} {e : Expr} {td : TE} {p pos apos cpos : Pos}
theorem pe_listVals (hc : X.calm = true) (hg : Gl X "list") (hm : X.mg "list" = none) (he : PE X e td) (hbase : attributeBase e "values" X.env (eval e X.env) = eval e X.env := by rfl) (hline : (apos.endLine == cpos.line) = true := by rfl)
    (hs : starEach [.Call (.Attribute e "values" apos) [] [] cpos] X.env = (false, eval (.Call (.Attribute e "values" apos) [] [] cpos) X.env) :: starEach [] X.env := by rfl) :
    PE X (.Call (.Name "list" p) [.Call (.Attribute e "values" apos) [] [] cpos] [] pos) (tListVals td) := by
  refine ⟨fun pins s σ H Q I h => Call_ (ld_blt I hg hm boot_list ?_)⟩
  refine PyProof.Rows.callWith_type1 (PyProof.Rows.args_cons ?_ hs) hs rfl
  refine wpAny_Call_method (T := "dict") (id := "dict.values") hbase rfl hline F.plainAttrs_dict F.slot_dict_values F.type_dict_values (thn (he.run pins s σ H _ I h) fun u s1 ⟨x, H1, I1, rx, d, kvs, ex, hd, q⟩ => ?_)
  subst ex
  obtain rfl : u = Value.ref d := rx
  obtain ⟨z, lo, vs, rel, dd⟩ := dk_rd I1.hok hd
  obtain ⟨ep, hat⟩ := dd.dictAt
  refine ⟨dd.typeIs, dd.mapOf.noDict, ?_⟩
  show wpAny _ _ (callWith cpos (.builtin "dict.values") [.ref d] [] []) _ X.xe s1
  refine method_meetsIn F.slot_dict_values F.entry_dict_values rfl (PySem.evalArgs_none ⟨rfl, dd.typeIs, F.args_dict_values_1 _, _, meets_dict_values (mixKind X.prog X.w) d lo, ⟨vs, dd⟩, ?_⟩)
  refine PyProof.Rows.args_nil ?_
  generalize hh : s1.heap.push { cls := .type "dict_values", data := .fields #[.ref d] } = h2
  have k2 : ∀ b o, s1.heap.get? b = some o → h2.get? b = some o := fun b o e => hh ▸ Heap.get?_push_of_some _ e
  have view : h2.IsValuesView s1.heap.objs.size d := by
    rw [← hh]
    exact ⟨_, Heap.get?_push_size _ rfl, rfl, rfl⟩
  have hat2 : h2.DictAt (mixKind X.prog X.w) d vs ep := hh ▸ hat.push _
  have I2 : Inv X pins σ H1 { s1 with heap := h2 } := I1.kept (t' := s1.toks) k2
  refine PySem.W.kdl_call (s := { s1 with heap := h2 }) (PySem.W.kdl_values (knd := mixKind X.prog X.w) (kvs := vs) (ep := ep) (r := s1.heap.objs.size)) (I1.ok.hd hc) ⟨view, hat2⟩ (by rw [← rel.length]; exact z) fun h' tk acc c' hk hD hacc => ?_
  have e1 : acc.toList = vs.map (·.2) := PySem.W.kdl_vals_eq _ (by rw [Array.length_toList]; exact hacc.1) fun j v e => hacc.2 j v (by rw [← Array.getElem?_toList]; exact e)
  refine ⟨.ref h2.objs.size, upd H1 h2.objs.size (.lst (kvs.map (·.2))), I2.laid (t' := tk) hk (Nat.le_refl _) (show ObjOk X.prog X.w _ _ _ (.lst (kvs.map (·.2))) from ⟨by rw [List.length_map]; exact z, acc.toList, c', by rw [e1]; exact vals_kv rel, by rw [Array.toArray_toList]; exact hD⟩), rfl, q _ (I2.hok.fresh (Nat.le_refl _))⟩
end
end KnM

set_option Elab.async false
set_option linter.all false
set_option maxRecDepth 100000
set_option maxHeartbeats 4000000
/-! A property by its promise. -/
namespace KnP
open PySem PySem.Spec PyProof.Rows L2
structure Prp (P : Program) (w : World) (K : PySem.W.Frag) (mg : Str → Option Value) (base : Heap) (k : Nat) (C : Addr) (f : Str) (sp : Sp) : Prop where
  ex : ∃ (p g : Addr) (fd : FuncData) (ps : List Str), PropOf K C f p g ∧ FnOk P w K mg base CX0 k g fd ps sp ∧ Binds K fd ps []
theorem pe_prp {X : Cx} {k j : Nat} {C : Addr} {f : Str} {sp : Sp} {e : Expr} {ta : TE} {pos : Pos} (cl : Cls X.K C) (c : Prp X.prog X.w X.K X.mg X.base k C f sp) (hr : Room j X.A) (hk : k + 1 ≤ j) (he : PE X e ta)
    (hab : attributeBase e f X.env (eval e X.env) = eval e X.env := by rfl) : PE X (.Attribute e f pos) (tProp C sp [] E0 ta) := by
  obtain ⟨p, g, fd, ps, hp, F, b⟩ := c.ex
  exact pe_prop he cl hp F (hr.mono hk) b .nil pass0 hab
end KnP

set_option Elab.async false
set_option linter.all false
set_option maxRecDepth 100000
set_option maxHeartbeats 4000000
/-! Own special methods by their promises. -/
namespace KnW
open PySem PySem.Spec PyProof.Rows L2
structure Own (P : Program) (w : World) (K : PySem.W.Frag) (mg : Str → Option Value) (base : Heap) (k : Nat) (C : Addr) (m : Str) (sp : Sp) : Prop where
  ex : ∃ (f : Addr) (fd : FuncData) (ps : List Str), PySem.W.findIn K (.ref C) m = some (some (.ref f)) ∧ PySem.W.isFn K (.ref f) = true ∧ PySem.W.fnIn K f = true ∧ FnOk P w K mg base CX0 k f fd ps sp ∧ Binds K fd ps []
section
variable {X : Cx} {k j : Nat} {C : Addr} {sp : Sp} {a b : Expr} {ta tb : TE} {pos : Pos}
/-- a def run one frame below -/
theorem run_in1 {CX : CXT} {f : Addr} {fd : FuncData} {ps : List Str} {E : XK} {pins : List (Addr × Obj)} {σ : L2.St} {H : Hp} {s : Shared} {Q : VK} {us : List Value} {vs : List V} (F : FnOk X.prog X.w X.K X.mg X.base CX k f fd ps sp) (hr : Room (k + 1) X.A) (hb : Binds X.K fd ps []) (hx : Passes CX X E)
    (I : Inv X pins σ H s) (r : Vals vs us) (h : sp vs H Q E) : wpAny (model X.prog X.w) X.A.in1 (call (.ref f) us) (EP X pins σ Q) X.xe s := by
  have hl : us.length = ps.length := by rw [← r.length]; exact F.len _ _ _ _ h
  have hb' := hb s us I.kIn (by simpa using hl)
  rw [List.append_nil] at hb'
  refine wpAny_call (codeAny_mono (F.run X.A.in1 X.stack s H ⟨us, []⟩ us vs Q E hr.in1 I.env0.in1 hb' r h) fun r s' hq => ?_)
  cases r with
  | error e => exact hx pins σ H s e s' I hq
  | ok fl =>
    cases fl with
    | ret u => exact I.after hq
    | next => exact False.elim hq
    | brk => exact False.elim hq
    | cont => exact False.elim hq
/-- o[i] by an own __getitem__ -/
def rOwn (C : Addr) (sp : Sp) : R2 := fun x y H Q => ∃ a dx fs, x = .ref a ∧ H a = some (.ins C dx fs) ∧ sp [.ref a, y] H Q E0
theorem pe_get (c : Own X.prog X.w X.K X.mg X.base k C "__getitem__" sp) (hr : Room j X.A) (hk : k + 1 ≤ j) (ha : PE X a ta) (hb : PE X b tb)
    (hs : ∀ v u, subscripted b true v u = runValue (.builtin "lifetime.subscript" ⟨[v, u], []⟩) := by exact fun _ _ => rfl) : PE X (.Subscript a b pos) (tOp (rOwn C sp) ta tb) := by
  obtain ⟨f, fd, ps, h1, h2, h3, F, bb⟩ := c.ex
  refine ⟨fun pins s σ H Q I h => ?_⟩
  refine Subscript_ (binT ha hb I h fun v u s2 x y H2 I2 rx ry q => ?_)
  obtain ⟨o, dx, fs, rfl, eo, q⟩ := q
  cases rx
  obtain ⟨mA, O, _⟩ := ins_get I2.hok eo
  obtain ⟨od, J, _⟩ := O.look
  obtain ⟨m, hF⟩ := I2.fr
  exact PySem.W.sub_K hF I2.ok.mod.kin J h1 h3 h2 (run_in1 (vs := [.ref o, y]) F (hr.mono hk) bb pass0 I2 (.cons rfl (.cons ry .nil)) q) (hs _ _)
/-- two instances of the class compared by its own __eq__, which answers a bool -/
def rOwnEq (C : Addr) (sp : Sp) : R2 := fun x y H Q => ∃ a b dx dy fs gs, x = .ref a ∧ y = .ref b ∧ H a = some (.ins C dx fs) ∧ H b = some (.ins C dy gs) ∧ sp [.ref a, .ref b] H (fun v H' => ∃ c, v = .bl c ∧ Q (.bl c) H') E0
theorem op_ownEq (c : Own X.prog X.w X.K X.mg X.base k C "__eq__" sp) (hr : Room j X.A) (hk : k ≤ j) : OpR X (compareOp .Eq) (rOwnEq C sp) := by
  obtain ⟨f, fd, ps, h1, h2, h3, F, bb⟩ := c.ex
  intro pins s σ H x y v u Q I rx ry hq
  obtain ⟨a, b, dx, dy, fs, gs, rfl, rfl, ha, hb, q⟩ := hq
  cases rx
  cases ry
  obtain ⟨mA, J, _⟩ := ins_get I.hok ha
  obtain ⟨mB, J', _⟩ := ins_get I.hok hb
  obtain ⟨od, J, _⟩ := J.look
  obtain ⟨od', J', _⟩ := J'.look
  obtain ⟨m, hF⟩ := I.fr
  show wpAny (model X.prog X.w) X.A (richCompare .Eq (.ref a) (.ref b)) (EP X pins σ Q) X.xe s
  refine PySem.W.cmp_K (op := .Eq) (tb := .ref C) hr.units0 hF I.ok.mod.kin J J'.type (by simp [PySem.W.notFirst]) h1 h2 ?_
  have r2 : Vals [V.ref a, V.ref b] [Value.ref a, Value.ref b] := .cons rfl (.cons rfl .nil)
  refine wpAny_mono (run_fn (vs := [.ref a, .ref b]) (us := [.ref a, .ref b]) (dvs := []) (ds := []) F (hr.mono hk) bb .nil pass0 I r2 q) (fun r s' hv => ?_) fun _ _ e => e
  obtain ⟨z, H', I', rz, c, ez, q2⟩ := hv
  subst ez
  cases rz
  exact ⟨.bl c, H', I', rfl, q2⟩
end
end KnW

set_option Elab.async false
set_option linter.all false
set_option maxRecDepth 100000
set_option maxHeartbeats 4000000
/-! A dict put into another one, as a display with ** does it: from what the library says of one store. -/
namespace KnG
open PySem PySem.Spec PyProof.Rows L2
section parts
variable {M : Model} {Γ : PySem.Ctx} {p : Pos} {u : Shared} {a : Addr}
/-- which part of a dict is looked at makes no difference to a promise -/
theorem part_upd (f : Array DictEntry → Array DictEntry) (c : Option Value) (R : Unit → Pos → Shared → Prop) (B : Value → Pos → Shared → Prop) : Sem.wp M Γ (updateDict a f c) R B p u = Sem.wp M Γ (updateDict a f) R B p u := by
  simp only [updateDict, loadPart, updatePart, Sem.wp_bind', Sem.wp_load, Sem.wp_pure]
  refine propext (exists_congr fun o => and_congr_right fun _ => ?_)
  cases o.data <;> simp only [Sem.wp_bind', Sem.wp_load, Sem.wp_update, Sem.wp_pure]
theorem part_keys (f : Array DictEntry → Array DictEntry) (c : Option Value) (R : Unit → Pos → Shared → Prop) (B : Value → Pos → Shared → Prop) : Sem.wp M Γ (updateDictKeys a f c) R B p u = Sem.wp M Γ (updateDictKeys a f) R B p u := by
  simp only [updateDictKeys, lookBehind, loadPart, updatePart, Sem.wp_bind', Sem.wp_load, Sem.wp_pure]
  refine propext (exists_congr fun o => and_congr_right fun _ => ?_)
  cases o.data <;> simp only [Sem.wp_bind', Sem.wp_load, Sem.wp_update, Sem.wp_pure]
end parts
section
variable {M : Model} {A : Around} {B : Value → Shared → Prop} {u : Shared}
/-- what holds of a store by d[k] = v holds of one by a display -/
theorem put_of_set {d : Addr} {hh : Int} {key v : Value} {R : Unit → Shared → Prop} (h : wpAny M A (dictSetHashed d key hh v) R B u) : wpAny M A (dictPut d hh key v) R B u := fun Γ p hΓ => by
  have g := h Γ p hΓ
  unfold dictSetHashed at g
  unfold dictPut
  rw [Sem.wp_holding, Sem.wp_bind'] at g
  rw [Sem.wp_bind']
  refine Sem.wp_mono M Γ _ (fun r p' s' e => ?_) (fun _ _ _ e => e) p u g
  cases r with
  | none =>
    have e2 : Sem.wp M Γ (updateDictKeys d (·.push ⟨hh, key, v⟩) (keyPart key)) (fun x _ s => R x s) (fun x _ s => B x s) p' s' := by simpa [rule] using e
    rwa [part_keys] at e2
  | some i =>
    have e2 : Sem.wp M Γ (updateDict d (·.modify i fun e => { e with val := v }) (keyPart key)) (fun x _ s => R () s) (fun x _ s => B x s) p' s' := by simpa [rule, point] using e
    rwa [part_upd] at e2
end
section
variable {prog : Program} {w : World} {K : Type} [DecidableEq K] {knd : KeyKind prog w K} {A : Around} {B : Value → Shared → Prop}
/-- one dict's entries, put into another one from place i on -/
theorem put_rest {d o : Addr} {ob : Obj} {ents : Array DictEntry} {epc : Nat} {base more : List (K × Value)} (apart : d ≠ o) (dat : ob.data = .dict ents epc) (hk : KeysOf knd ents) (hp : Pairs knd ents.toList more)
    (fit : base.length + more.length ≤ sizeLine) : ∀ (n i : Nat) (u : Shared) (R : PUnit → Shared → Prop), i + n = ents.size → u.heap.get? o = some ob → u.heap.DictOf knd d (merged base (more.take i)) →
      (∀ g, g.get? o = some ob → g.DictOf knd d (merged base more) → Heap.SameBut d u.heap g → R PUnit.unit { u with heap := g }) →
      wpAny (model prog w) A (forIn (List.range' i n) PUnit.unit fun i (_ : PUnit) => (do
          let l' ← dictEntries o
          match l'[i]? with
            | some e => do
              holding [e.key, e.val] (dictPut d e.hash e.key e.val)
              let t ← dictEpoch o
              if (t != epc) = true then do
                  (unsupported "dict.changed-during-merge" : Sem PUnit)
                  pure (ForInStep.yield PUnit.unit)
                else pure (ForInStep.yield PUnit.unit)
            | _ => do
              (unsupported "dict.changed-during-merge" : Sem PUnit)
              pure (ForInStep.yield PUnit.unit) : Sem (ForInStep PUnit))) R B u := by
  have size_eq : ents.size = more.length := by
    have := hp.length
    rw [Array.length_toList] at this
    exact this.symm ▸ rfl
  intro n
  induction n with
  | zero =>
    intro i u R e1 e2 e3 e4
    have : more.take i = more := List.take_of_length_le (by omega)
    rw [this] at e3
    exact wpAny_pure (e4 _ e2 e3 (Heap.SameBut.refl _ _))
  | succ n ih =>
    intro i u R e1 e2 e3 e4
    have lt : i < ents.size := by omega
    have lm : i < more.length := by omega
    have gm : more[i]? = some (more[i].1, more[i].2) := List.getElem?_eq_getElem lm
    have ge : ents.toList[i]? = some ents[i] := by rw [Array.getElem?_toList]; exact Array.getElem?_eq_getElem lt
    have two := hp.get? ge gm
    obtain ⟨kk, kis, kh⟩ := hk _ (Array.getElem_mem lt)
    have same : kk = more[i].1 := knd.inj _ _ _ kis two.1
    have room := merged_length_le base (more.take i)
    have cut := List.length_take_le i more
    rw [List.range'_succ, List.forIn_cons]
    refine wpAny_bind (wpAny_bind (wpAny_dictEntries e2 dat ?_))
    rw [Array.getElem?_eq_getElem lt]
    dsimp only
    rw [kh, same, two.2]
    refine wpAny_bind (wpAny_holding (put_of_set (wpAny_dictSetHashed_pairs (k := more[i].1) two.1 e3 (fun g f1 f2 => ?_) (by omega))))
    have still : g.get? o = some ob := (f2.2 o apart.symm).trans e2
    refine wpAny_bind (wpAny_dictEpoch still dat ?_)
    simp only [bne_self_eq_false, Bool.false_eq_true, if_false]
    refine wpAny_pure (ih (i + 1) _ R (by omega) still ?_ fun g2 f3 f4 f5 => e4 g2 f3 f4 (f2.trans f5))
    rw [merged_take_succ base more i _ gm]
    exact f1
/-- one plain dict merged into another one, whose keys are no objects -/
theorem mergeMapping_dict {d o : Addr} {base more : List (K × Value)} {u : Shared} {R : Unit → Shared → Prop} (flat : ∀ k v, knd.is k v = true → ∀ a, v ≠ .ref a) (apart : d ≠ o) (own : (o == sysModules) = false)
    (at1 : u.heap.DictOf knd d base) (at2 : u.heap.DictOf knd o more) (go : ∀ g, g.DictOf knd d (merged base more) → g.DictOf knd o more → Heap.SameBut d u.heap g → R () { u with heap := g })
    (fit : base.length + more.length ≤ sizeLine) : wpAny (model prog w) A (mergeMapping d (.ref o) false) R B u := by
  have tail : ∀ (ob : Obj) (ents : Array DictEntry) (epc : Nat), u.heap.get? o = some ob → ob.ExactDict → ob.data = .dict ents epc → KeysOf knd ents → Pairs knd ents.toList more → (more.map (·.1)).Nodup → _ := fun ob ents epc c1 c2 c3 c4 c5 c6 =>
    put_rest (B := B) (A := A) (base := base) apart c3 c4 c5 fit ents.size 0 u R (Nat.zero_add _) c1 (by simpa [merged] using at1) fun g f1 f2 f3 => go g f2 ⟨ob, ents, epc, f1, c2, c3, c4, c5, c6⟩ f3
  have kind := at2.typeIs
  obtain ⟨ob, ents, epc, c1, c2, c3, c4, c5, c6⟩ := at2
  obtain ⟨ob1, ents1, epc1, b1, _, b3, _⟩ := at1
  have t := tail ob ents epc c1 c2 c3 c4 c5 c6
  unfold mergeMapping
  refine wpAny_bind ?_
  refine wpAny_isInstance (T := "dict") kind PySem.F.sub_dict_dict ?_
  rw [if_pos rfl]
  refine wpAny_bind (wpAny_specialOf kind F.slot_dict_iter.lookup (wpAny_bind (wpAny_pure ?_)))
  have yes : (some (Value.builtin "dict.__iter__") == some (Value.builtin "dict.__iter__")) = true := by decide +kernel
  rw [yes]
  simp only [own, Bool.false_eq_true, if_false]
  have scan : ∀ (l : List DictEntry), (∀ e ∈ l, ∀ a, e.key ≠ .ref a) → ∀ (R2 : PUnit → Shared → Prop) (f : DictEntry → PUnit → Sem (ForInStep PUnit)), (∀ e, (∀ a, e.key ≠ .ref a) → f e PUnit.unit = pure (ForInStep.yield PUnit.unit)) → R2 PUnit.unit u →
      wpAny (model prog w) A (forIn l PUnit.unit f) R2 B u := by
    intro l
    induction l with
    | nil => intro _ R2 f _ hR; exact wpAny_pure hR
    | cons e r ih =>
      intro hl R2 f hf hR
      rw [List.forIn_cons, hf e (hl e List.mem_cons_self)]
      exact wpAny_bind (wpAny_pure (ih (fun x hx => hl x (List.mem_cons_of_mem _ hx)) R2 f hf hR))
  have noref : ∀ e ∈ ents.toList, ∀ a, e.key ≠ .ref a := fun e he => by
    obtain ⟨k, kis, _⟩ := c4 e (Array.mem_toList_iff.mp he)
    exact flat k e.key kis
  refine wpAny_bind (wpAny_dictEntries b1 b3 ?_)
  split
  · refine wpAny_bind (wpAny_dictEntries c1 c3 (wpAny_bind ?_))
    rw [← Array.forIn_toList]
    refine scan _ noref _ _ (fun e he => ?_) ?_
    · cases q : e.key with
      | ref a => exact (he a q).elim
      | _ => rfl
    · refine wpAny_bind (wpAny_dictEntries c1 c3 (wpAny_bind (wpAny_dictEpoch c1 c3 (wpAny_bind ?_))))
      rw [List.range_eq_range']
      exact wpAny_mono t (fun _ _ h => wpAny_pure h) fun _ _ e => e
  · refine wpAny_bind (wpAny_dictEntries c1 c3 (wpAny_bind (wpAny_dictEpoch c1 c3 (wpAny_bind ?_))))
    rw [List.range_eq_range']
    exact wpAny_mono t (fun _ _ h => wpAny_pure h) fun _ _ e => e
end
end KnG

set_option Elab.async false
set_option linter.all false
set_option maxRecDepth 100000
set_option maxHeartbeats 4000000
/-! `{**a, **b}` of two dicts; an own operator of two instances of a class; o[i] = v by an own __setitem__. -/
namespace KnG
open PySem PySem.Spec PyProof.Rows L2
def mergeFold (a b : List (Key × V)) : List (Key × V) := b.foldl (fun acc kv => putK acc kv.1 kv.2) a
def tStar (d : Addr) (kvs : List (Key × V)) (t : TE) (σ : L2.St) (H : Hp) (Q : List (Key × V) → Hp → Prop) : Prop :=
  t σ H fun x H1 => ∃ a k1, x = .ref a ∧ a ≠ d ∧ H1 a = some (.dK k1) ∧ H1 d = some (.dK kvs) ∧ kvs.length + k1.length ≤ sizeLine ∧ Q (mergeFold kvs k1) (upd H1 d (.dK (mergeFold kvs k1)))
def tStars2 (t1 t2 : TE) : TE := fun σ H Q => ∀ d, H d = none → tStar d [] t1 σ (upd H d (.dK [])) fun k1 H1 => tStar d k1 t2 σ H1 fun _ H2 => Q (.ref d) H2
theorem mix_noref {P : Program} {w : World} (k : Key) (v : Value) (h : (mixKind P w).is k v = true) (a : Addr) : v ≠ .ref a := by
  intro e
  subst e
  cases k <;> exact nomatch h
section
variable {X : Cx} {e1 e2 : Expr} {t1 t2 : TE} {pos : Pos}
theorem star_step {α : Type} {z : α} {e : Expr} {t : TE} (he : PE X e t) {pins : List (Addr × Obj)} {σ : L2.St} {H : Hp} {s : Shared} {d : Addr} {kvs : List (Key × V)} {Q : List (Key × V) → Hp → Prop} {G : α → Shared → Prop} {E2 : Value → Value → Sem Unit} {E3 : Value → Sem Unit} {E1 : Value → Value → Sem Unit}
    (I : Inv X pins σ H s) (h : tStar d kvs t σ H Q) (hG : ∀ k1 H' s', Inv X pins σ H' s' → Q k1 H' → G z s') :
    wpAny (model X.prog X.w) X.A (do
      let m ← holding [.ref d] (do let x ← eval e X.env; standAt pos; pure x)
      (((holding [.ref d, m] (mergeMapping d m false)).onRaise fun x => E1 m x).tryCatch fun y => E2 m y).onRaise fun x => E3 x
      pure z) G X.xe s := by
  refine wpAny_bind (wpAny_holding (wpAny_bind (thn (he.run pins s σ H _ I h) fun u s1 ⟨x, H1, I1, rx, a, k1, ex, ne, ha, hd, sz, q⟩ => ?_)))
  refine wpAny_bind (wpAny_standAt (wpAny_pure ?_))
  subst ex
  cases rx
  obtain ⟨za, hsa, va, rela, da⟩ := dk_of I1.hok ha
  obtain ⟨zd, hsd, vd, reld, dd⟩ := dk_of I1.hok hd
  refine wpAny_bind (wpAny_onRaise (wpAny_tryCatch (wpAny_onRaise (wpAny_holding (mergeMapping_dict mix_noref ne.symm hsa dd da (fun h' hd' _ hs' => ?_) (by rw [← reld.length, ← rela.length]; exact sz))))))
  refine wpAny_pure (hG _ _ _ ?_ q)
  have hl : (mergeK kvs k1).length ≤ sizeLine := by
    have e := (KV.merge rela reld).length
    have e2 := merged_length_le vd va
    have e3 := reld.length
    have e4 := rela.length
    omega
  exact d_write I1 (by rw [hd]; exact True.intro) hs' (let ⟨q, _, _, hq, _⟩ := hd'; ⟨q, hq⟩) (dk_new hl hsd (KV.merge rela reld) hd')
theorem pe_stars2 (h1 : PE X e1 t1) (h2 : PE X e2 t2) : PE X (.Dict [none, none] [e1, e2] pos) (tStars2 t1 t2) := by
  refine ⟨fun pins s σ H Q I h => ?_⟩
  rw [arm_eval_Dict]
  refine wpAny_bind (wpAny_standAt ?_)
  show wpAny _ _ (dictDisplay [(none, do let x ← eval e1 X.env; standAt pos; pure x), (none, do let x ← eval e2 X.env; standAt pos; pure x)]) _ _ _
  unfold dictDisplay
  refine wpAny_bind ?_
  rw [List.forIn_cons]
  refine wpAny_bind ?_
  dsimp only
  refine wpAny_bind ?_
  rw [if_pos List.isEmpty_nil]
  refine wpAny_pure ?_
  dsimp only
  refine wpAny_bind (wpAny_alloc ?_)
  have I0 : Inv X pins σ (upd H s.heap.objs.size (.dK [])) { s with heap := s.heap.push { cls := .type "dict", data := .dict #[] } } := I.laid (a := s.heap.objs.size) (o := .dK []) (t' := s.toks) (fun _ _ q => Heap.get?_push_of_some _ q) (Nat.le_refl _) (dk_empty s.heap I.big)
  refine star_step h1 I0 (h _ (I.hok.fresh (Nat.le_refl _))) fun k1 H1 s1 I1 q1 => ?_
  dsimp only
  rw [List.forIn_cons]
  refine wpAny_bind ?_
  dsimp only
  refine wpAny_bind ?_
  rw [if_pos List.isEmpty_nil]
  refine wpAny_pure ?_
  dsimp only
  refine wpAny_bind (wpAny_pure ?_)
  refine star_step h2 I1 q1 fun k2 H2 s2 I2 q2 => ?_
  dsimp only
  rw [List.forIn_nil]
  refine wpAny_pure ?_
  dsimp only
  refine wpAny_bind ?_
  rw [if_pos List.isEmpty_nil]
  refine wpAny_pure ?_
  exact wpAny_pure ⟨.ref _, _, I2, rfl, q2⟩
end
end KnG

set_option Elab.async false
set_option linter.all false
set_option maxRecDepth 100000
set_option maxHeartbeats 4000000
/-! An own operator of two instances of a class; o[i] = v by an own __setitem__; a class made without arguments, by a default. -/
namespace KnW
open PySem PySem.Spec PyProof.Rows L2
section
variable {X : Cx} {k j : Nat} {C : Addr} {sp : Sp} {a b : Expr} {ta tb : TE} {pos : Pos}
/-- a + b by the class's own method, which answers a reference -/
def rOwnBin (C : Addr) (sp : Sp) : R2 := fun x y H Q => ∃ a b dx dy fs gs, x = .ref a ∧ y = .ref b ∧ H a = some (.ins C dx fs) ∧ H b = some (.ins C dy gs) ∧ sp [.ref a, .ref b] H (fun v H' => ∃ c, v = .ref c ∧ Q (.ref c) H') E0
theorem op_ownBin {op : Operator} {m : Str} (c : Own X.prog X.w X.K X.mg X.base k C m sp) (hm : m = PySem.dunder op.info.2) (sf : PySem.W.selfFirst X.K C = true) (hr : Room j X.A) (hk : k ≤ j) : OpR X (binaryOp op) (rOwnBin C sp) := by
  subst hm
  obtain ⟨f, fd, ps, h1, h2, h3, F, bb⟩ := c.ex
  intro pins s σ H x y v u Q I rx ry hq
  obtain ⟨a, b, dx, dy, fs, gs, rfl, rfl, ha, hb, q⟩ := hq
  cases rx
  cases ry
  obtain ⟨mA, J, _⟩ := ins_get I.hok ha
  obtain ⟨mB, J', _⟩ := ins_get I.hok hb
  obtain ⟨od, J, _⟩ := J.look
  obtain ⟨od', J', _⟩ := J'.look
  obtain ⟨m, hF⟩ := I.fr
  show wpAny (model X.prog X.w) X.A (binaryOp op (.ref a) (.ref b)) (EP X pins σ Q) X.xe s
  refine PySem.W.binop_K (op := op) hF I.ok.mod.kin J J'.type sf h1 h2 ?_
  have r2 : Vals [V.ref a, V.ref b] [Value.ref a, Value.ref b] := .cons rfl (.cons rfl .nil)
  refine wpAny_mono (run_fn (vs := [.ref a, .ref b]) (us := [.ref a, .ref b]) (dvs := []) (ds := []) F (hr.mono hk) bb .nil pass0 I r2 q) (fun r s' hv => ?_) fun _ _ e => e
  obtain ⟨z, H', I', rz, c, ez, q2⟩ := hv
  subst ez
  cases rz
  exact ⟨.ref c, H', I', rfl, q2⟩
/-- a |= b by the class's own in-place method, which answers a reference -/
def rOwnIn (C : Addr) (sp : Sp) : R2 := fun x y H Q => ∃ a dx fs, x = .ref a ∧ H a = some (.ins C dx fs) ∧ sp [.ref a, y] H (fun v H' => ∃ c, v = .ref c ∧ Q (.ref c) H') E0
theorem op_ownIn {op : Operator} {m : Str} (c : Own X.prog X.w X.K X.mg X.base k C m sp) (hm : m = PySem.dunderI op.info.2) (sf : PySem.W.selfFirst X.K C = true) (hr : Room j X.A) (hk : k ≤ j) : OpR X (inplaceOp op) (rOwnIn C sp) := by
  subst hm
  obtain ⟨f, fd, ps, h1, h2, h3, F, bb⟩ := c.ex
  intro pins s σ H x y v u Q I rx ry hq
  obtain ⟨a, dx, fs, rfl, ha, q⟩ := hq
  cases rx
  obtain ⟨mA, J, _⟩ := ins_get I.hok ha
  obtain ⟨od, J, _⟩ := J.look
  obtain ⟨m, hF⟩ := I.fr
  refine PySem.W.ksp_inplace (op := op) hF I.ok.mod.kin J sf h1 h2 ?_
  have r2 : Vals [V.ref a, y] [Value.ref a, u] := .cons rfl (.cons ry .nil)
  refine wpAny_mono (run_fn (vs := [.ref a, y]) (us := [.ref a, u]) (dvs := []) (ds := []) F (hr.mono hk) bb .nil pass0 I r2 q) (fun r s' hv => ?_) fun _ _ e => e
  obtain ⟨z, H', I', rz, w', ez, q2⟩ := hv
  subst ez
  cases rz
  exact ⟨.ref w', H', I', rfl, q2⟩
/-- o[i] = v by an own __setitem__ -/
def rSetOwn (C : Addr) (sp : Sp) : V → V → V → Hp → (Hp → Prop) → Prop := fun o i v H Q => ∃ a dx fs, o = .ref a ∧ H a = some (.ins C dx fs) ∧ sp [.ref a, i, v] H (fun _ H' => Q H') E0
theorem set_own (c : Own X.prog X.w X.K X.mg X.base k C "__setitem__" sp) (nq : PySem.W.noSeq X.K C = true) (hr : Room j X.A) (hk : k ≤ j) : PSet X (rSetOwn C sp) := by
  obtain ⟨f, fd, ps, h1, h2, h3, F, bb⟩ := c.ex
  intro pins s σ H o i v ov iv u Q I ro ri rv hq
  obtain ⟨a, dx, fs, rfl, ha, q⟩ := hq
  cases ro
  obtain ⟨mA, J, _⟩ := ins_get I.hok ha
  obtain ⟨od, J, _⟩ := J.look
  obtain ⟨m, hF⟩ := I.fr
  refine PySem.W.ksp_setItem hF I.ok.mod.kin J nq h1 h2 ?_
  have r3 : Vals [V.ref a, i, v] [Value.ref a, iv, u] := .cons rfl (.cons ri (.cons rv .nil))
  refine wpAny_mono (run_fn (vs := [.ref a, i, v]) (us := [.ref a, iv, u]) (dvs := []) (ds := []) F (hr.mono hk) bb .nil pass0 I r3 q) (fun r s' hv => ?_) fun _ _ e => e
  obtain ⟨z, H', I', rz, q2⟩ := hv
  exact ⟨H', I', q2⟩
theorem pe_mk0 {x : Str} {dvs : List V} {p : Pos} (c : C8.Mak X.prog X.w X.K X.mg X.base k x C sp dvs) (hr : Room j X.A) (hk : k + 1 ≤ j) (hg : Gl X x) (hdb : (x == ("__debug__" : Str)) = false := by decide) :
    PE X (.Call (.Name x p) [] [] pos) (tMake C sp dvs E0 tNil) := by
  obtain ⟨f, fd, ps, ds, M, F, hm, b, d⟩ := c.ex
  exact pe_make0 M F (hr.mono hk) hg hm b d pass0 hdb
end
theorem binds_less {K : PySem.W.Frag} {x qual : Str} {st : Stmt} {f T : Addr} {oc : Value} {od an : Option Addr} {osl : Array (Option Value)} {kV doc pm cdv ct : Value} {to : Obj} {tn : Nat} {its : List Value} {dvs : List V} {ps : List Str} (n : Nat)
    (l : K.lookup f = some ⟨oc, od, .func (PySem.W.fnOf x qual (defArgs st) (defBody st) (defScope st) (.ref T) kV doc pm an cdv ct), osl⟩) (c : PySem.W.codeIn K cdv qual = true) (k : PySem.W.keepIn K (.ref f) = true)
    (lT : K.lookup T = some to) (oT : to.data = .seq its.toArray tn) (rT : Vals dvs its) (hd : dvs ≠ []) (hn : n + dvs.length = ps.length)
    (h : ∀ (T : Addr) (kV doc pm : Value) (an : Option Addr) (cdv ct : Value) (us its : List Value), us.length = n → its.length = dvs.length →
      ∃ k, bindArgs (PySem.W.fnOf x qual (defArgs st) (defBody st) (defScope st) (.ref T) kV doc pm an cdv ct) ⟨us, []⟩ = seqItems? (.ref T) >>= k ∧ k (some its.toArray) = pure (ps.zip (us ++ its))) : ∃ ds, Vals dvs ds ∧ Binds K (PySem.W.fnOf x qual (defArgs st) (defBody st) (defScope st) (.ref T) kV doc pm an cdv ct) ps ds := by
  have F : FunD K x qual (defArgs st) (defBody st) (defScope st) dvs [] f (PySem.W.fnOf x qual (defArgs st) (defBody st) (defScope st) (.ref T) kV doc pm an cdv ct) :=
    ⟨⟨oc, od, .ref T, kV, doc, pm, an, cdv, ct, osl, rfl, l, c, .inr ⟨hd, T, to, its, tn, rfl, lT, oT, rT⟩, .inl rfl⟩, k⟩
  exact FunD.binds1 F (ps := ps) n 0 hd hn h
end KnW

set_option Elab.async false
set_option linter.all false
set_option maxRecDepth 100000
set_option maxHeartbeats 4000000
/-! An instance with an own __contains__, __len__: k in o, k not in o, len(o). -/
namespace KnW
open PySem PySem.Spec PyProof.Rows L2
section
variable {X : Cx} {k j : Nat} {C : Addr} {sp : Sp}
def rOwnHas (C : Addr) (sp : Sp) (neg : Bool) : R2 := fun x y H Q => ∃ a dx fs, y = .ref a ∧ H a = some (.ins C dx fs) ∧ sp [.ref a, x] H (fun v H' => ∃ c, v = .bl c ∧ Q (.bl (if neg then !c else c)) H') E0
theorem op_ownHas (c : Own X.prog X.w X.K X.mg X.base k C "__contains__" sp) (hr : Room j X.A) (hk : k ≤ j) : OpR X (compareOp .In) (rOwnHas C sp false) := by
  obtain ⟨f, fd, ps, h1, h2, h3, F, bb⟩ := c.ex
  intro pins s σ H x y v u Q I rx ry hq
  obtain ⟨a, dx, fs, rfl, ha, q⟩ := hq
  cases ry
  obtain ⟨mA, J, _⟩ := ins_get I.hok ha
  obtain ⟨od, J, _⟩ := J.look
  obtain ⟨m, hF⟩ := I.fr
  refine PySem.W.in_K hF I.ok.mod.kin J h1 h2 ?_
  refine wpAny_mono (run_fn (vs := [.ref a, x]) (us := [.ref a, v]) (dvs := []) (ds := []) F (hr.mono hk) bb .nil pass0 I (.cons rfl (.cons rx .nil)) q) (fun r s' hv => ?_) fun _ _ e => e
  obtain ⟨z, H', I', rz, b, ez, q2⟩ := hv
  subst ez
  cases rz
  exact wpAny_pure ⟨.bl b, H', I', rfl, q2⟩
theorem op_ownHasNot (c : Own X.prog X.w X.K X.mg X.base k C "__contains__" sp) (hr : Room j X.A) (hk : k ≤ j) : OpR X (compareOp .NotIn) (rOwnHas C sp true) := by
  obtain ⟨f, fd, ps, h1, h2, h3, F, bb⟩ := c.ex
  intro pins s σ H x y v u Q I rx ry hq
  obtain ⟨a, dx, fs, rfl, ha, q⟩ := hq
  cases ry
  obtain ⟨mA, J, _⟩ := ins_get I.hok ha
  obtain ⟨od, J, _⟩ := J.look
  obtain ⟨m, hF⟩ := I.fr
  refine PySem.W.notIn_K hF I.ok.mod.kin J h1 h2 ?_
  refine wpAny_mono (run_fn (vs := [.ref a, x]) (us := [.ref a, v]) (dvs := []) (ds := []) F (hr.mono hk) bb .nil pass0 I (.cons rfl (.cons rx .nil)) q) (fun r s' hv => ?_) fun _ _ e => e
  obtain ⟨z, H', I', rz, b, ez, q2⟩ := hv
  subst ez
  cases rz
  exact wpAny_pure ⟨.bl (!b), H', I', rfl, q2⟩
def rOwnLen (C : Addr) (sp : Sp) : List V → Hp → VK → Prop := fun xs H Q => ∃ a dx fs, xs = [.ref a] ∧ H a = some (.ins C dx fs) ∧ sp [.ref a] H (fun v H' => ∃ n : Nat, v = .int (n : Int) ∧ n ≤ 1000000 ∧ Q (.int (n : Int)) H') E0
theorem cr_ownLen (c : Own X.prog X.w X.K X.mg X.base k C "__len__" sp) (hr : Room j X.A) (hk : k + 1 ≤ j) : CallR X (.builtin "len") (rOwnLen C sp) := by
  obtain ⟨f, fd, ps, h1, h2, h3, F, bb⟩ := c.ex
  intro pins s σ H xs us Q I r hq
  obtain ⟨a, dx, fs, rfl, ha, q⟩ := hq
  obtain ⟨u, rfl, rx⟩ := vals1 r
  cases rx
  obtain ⟨mA, J, _⟩ := ins_get I.hok ha
  obtain ⟨od, J, _⟩ := J.look
  obtain ⟨m, hF⟩ := I.fr
  refine PySem.W.len_K hF I.ok.mod.kin J h1 h2 ?_
  refine wpAny_mono (run_in1 (vs := [.ref a]) F (hr.mono hk) bb pass0 I (.cons rfl .nil) q) (fun r s' hv => ?_) fun _ _ e => e
  obtain ⟨z, H', I', rz, n, ez, l, q2⟩ := hv
  subst ez
  obtain ⟨t, rfl⟩ := rz
  have small_ : ((n : Int)) < 2 ^ 63 := by
    have : (1000000 : Int) < 2 ^ 63 := by decide
    omega
  exact ⟨⟨Int.natCast_nonneg n, small_⟩, .int n, H', I'.tok _, ⟨_, rfl⟩, q2⟩
end
end KnW

set_option Elab.async false
set_option linter.all false
set_option maxRecDepth 100000
set_option maxHeartbeats 4000000
/-! An own operator whose other side is a built-in dict, list or tuple. -/
namespace KnW
open PySem PySem.Spec PyProof.Rows L2
section
variable {P : Program} {w : World} {A : Around} {E : Value → Shared → Prop} {s : Shared} {K : PySem.W.Frag} {x b C L f : Addr} {h₀ : Heap} {m : Str → Option Value} {ox : Obj} {od : Option Obj} {T : String}
theorem looks_typ {v : Value} {ob : Obj} (e : s.heap.get? b = some ob) (c : ob.cls = .type T) (hv : v = .ref b) : PySem.W.Looks (model P w) s.heap (typeOf v) (.type T) := fun A Q E s' k q => by
  subst hv
  exact wpAny_typeOf_ref (k _ _ e) (by rw [c]; exact q)
/-- what is known of the two names of an operator at a built-in type -/
structure Side (K : PySem.W.Frag) (C : Addr) (nm : String) (T : String) : Prop where
  f : ∃ fo, PySem.W.findIn K (.type T) (PySem.dunder nm) = some fo
  r : ∃ ro, PySem.W.findIn K (.type T) (dunderR nm) = some ro
  no : PySem.W.subIn K (.type T) (.ref C) = some false
open PySem.W in
theorem bin_left {op : Operator} {y : Value} {rc : Option Value} {Q : Value → Shared → Prop} (F : Fr h₀ L s.heap m) (X₀ : K.In h₀) (I : InstAt s.heap x ox C od) (hb : Looks (model P w) s.heap (typeOf y) (.type T)) (hc : selfFirst K C = true)
    (hs : findIn K (.ref C) (PySem.dunder op.info.2) = some (some (.ref f))) (hf : isFn K (.ref f) = true) (hr : findIn K (.ref C) (dunderR op.info.2) = some rc) (hp : rc = none ∨ ∃ g : Addr, rc = some (.ref g)) (sd : Side K C op.info.2 T)
    (h : wpAny (model P w) A (call (.ref f) [.ref x, y]) (PySem.W.CmpBack Q) E s) : wpAny (model P w) A (binaryOp op (.ref x) y) Q E s := by
  obtain ⟨⟨fo, e1⟩, ⟨ro, e2⟩, e3⟩ := sd
  have KI := X₀.keeps F.keep
  obtain ⟨cd, more, hcd, hmro⟩ := ksp_first hc
  rcases info : op.info with ⟨sy, nam⟩
  rw [info] at hs hr e1 e2
  dsimp only at hs hr e1 e2
  have go := ksp_try KI I hs hf h
  obtain ⟨hh, gg, dd, tt, oo⟩ := s
  have l1 : Looks (model P w) hh (typeOf (.ref x)) (.ref C) := I.type
  have l3 := fills_K (M := model P w) KI hcd hmro hs
  have l4 := ksp_fillsT (M := model P w) KI e1 e2
  have l5 := looks_subIn (M := model P w) KI e3
  have l6 := ksp_inPy (M := model P w) KI hs hr hp
  have l7 : Looks (model P w) hh (numberSlotInPython (.type T) nam) false := .of_pure rfl
  have l8 := looks_findIn (M := model P w) KI e2
  generalize ((fo.isSome && !isSeqSlot fo) || (ro.isSome && !isSeqSlot ro)) = rt at l4
  have ne : (Value.ref C == Value.type T) = false := Bool.eq_false_iff.mpr fun q => by cases beq_iff_eq.mp q
  simp only [binaryOp, info]
  refine wpAny_holding (wpAny_bind (?_ : wpAny _ _ (binaryOp1 nam _ _) _ _ _))
  unfold binaryOp1
  refine wpAny_bind (l1.at (wpAny_bind (hb.at (wpAny_bind (l3.at ?_)))))
  simp only [ne, Bool.false_eq_true, if_false]
  cases rt with
  | false =>
    ksp_lk
    exact wpAny_mono go (fun r s' ⟨v, ev, q⟩ => by subst ev; ksp_lk; exact q) fun _ _ z => z
  | true =>
    ksp_lk
    exact wpAny_mono go (fun r s' ⟨v, ev, q⟩ => by subst ev; ksp_lk; exact q) fun _ _ z => z
open PySem.W in
theorem dict_or_not {Q : Value → Shared → Prop} (hd : s.TypeIs (.ref b) "dict") (hx : Looks (model P w) s.heap (typeOf (.ref x)) (.ref C)) (hsub : Looks (model P w) s.heap (isSubtype (.ref C) (.type "dict")) false) (h : Q .notImplemented s) :
    wpAny (model P w) A (call (.builtin "dict.__or__") [.ref b, .ref x]) Q E s := by
  refine wpAny_call_entry PySem.F.slot_dict_or hd PySem.F.entry_dict_or ?_ (PySem.F.args_dict_or_2 _ _)
  unfold Builtin.«dict.__or__» Builtin.Dict.dictSlotArgs
  refine wpAny_bind (wpAny_bind (wpAny_notOrdered_dict hd ?_))
  refine wpAny_bind (?_ : wpAny _ _ (slotArgs _ _ _) _ _ _)
  unfold slotArgs
  show wpAny _ _ (pure (Value.ref b, [Value.ref x])) _ _ _
  refine wpAny_pure (wpAny_pure ?_)
  show wpAny _ _ ((isInstance (.ref b) (.type "dict") <&&> isInstance (.ref x) (.type "dict")) >>= fun c => if (!c) = true then _ else _) _ _ _
  refine wpAny_bind (wpAny_bind (wpAny_isInstance hd PySem.F.sub_dict_dict ?_))
  refine (?_ : wpAny _ _ (isInstance (.ref x) (.type "dict")) _ _ _)
  unfold isInstance
  refine wpAny_bind (hx.here (hsub.here ?_))
  rw [if_pos (show (!false) = true from rfl)]
  refine wpAny_bind (wpAny_rule ?_)
  exact wpAny_pure ⟨_, rfl, h⟩
open PySem.W in
/-- a dict on the left, whose own operator says that it does not know the other side, or that has none -/
theorem bin_right {op : Operator} {g : Addr} {Q : Value → Shared → Prop} (F : Fr h₀ L s.heap m) (X₀ : K.In h₀) (I : InstAt s.heap x ox C od) (hd : s.TypeIs (.ref b) "dict") (hc : selfFirst K C = true) (hop : op = .BitOr ∨ op = .BitAnd)
    (hl : findIn K (.ref C) (PySem.dunder op.info.2) = some (some (.ref g))) (hs : findIn K (.ref C) (dunderR op.info.2) = some (some (.ref f))) (hf : isFn K (.ref f) = true) (hsub : subIn K (.ref C) (.type "dict") = some false)
    (h : wpAny (model P w) A (call (.ref f) [.ref x, .ref b]) (PySem.W.CmpBack Q) E s) : wpAny (model P w) A (binaryOp op (.ref b) (.ref x)) Q E s := by
  have KI := X₀.keeps F.keep
  obtain ⟨cd, more, hcd, hmro⟩ := ksp_first hc
  have go := ksp_try KI I hs hf h
  obtain ⟨od', hod, hcl⟩ := id hd
  have hb : Looks (model P w) s.heap (typeOf (.ref b)) (.type "dict") := looks_typ hod hcl rfl
  have l1 : Looks (model P w) s.heap (typeOf (.ref x)) (.ref C) := I.type
  have l5 := looks_subIn (M := model P w) KI hsub
  have l3 := fills_K (M := model P w) (nm := op.info.2) KI hcd hmro hl
  have ne : (Value.type "dict" == Value.ref C) = false := Bool.eq_false_iff.mpr fun q => by cases beq_iff_eq.mp q
  have last : ∀ (R : Option Value → Shared → Prop), (∀ v s', Q v s' → R (some v) s') → wpAny (model P w) A (tryMethod (.ref x) (dunderR op.info.2) (.ref b)) R E s := fun R hR => wpAny_mono go (fun r s' ⟨v, ev, q⟩ => ev ▸ hR v s' q) fun _ _ z => z
  rcases hop with rfl | rfl
  · have l4 : Looks (model P w) s.heap (fillsNumberSlot (.type "dict") "or") true := .of_pure PySem.F.fills_dict_or
    have nots : ∀ (R : Option Value → Shared → Prop), R none s → wpAny (model P w) A (tryMethod (.ref b) (PySem.dunder "or") (.ref x)) R E s := fun R hR => by
      unfold tryMethod
      refine wpAny_bind (wpAny_callSpecial?_slot hd PySem.F.slot_dict_or (dict_or_not hd l1 l5 ?_))
      exact wpAny_pure hR
    have l7 : Looks (model P w) s.heap (numberSlotInPython (.type "dict") "or") false := .of_pure rfl
    simp only [binaryOp, show Operator.BitOr.info = ("|", "or") from rfl] at *
    refine wpAny_holding (wpAny_bind (?_ : wpAny _ _ (binaryOp1 "or" _ _) _ _ _))
    unfold binaryOp1
    refine wpAny_bind (hb.here (wpAny_bind (l1.here (wpAny_bind (l4.here ?_)))))
    simp only [ne, Bool.false_eq_true, if_false]
    refine wpAny_bind (l3.here ?_)
    rw [if_pos (show (true && true) = true from rfl)]
    refine wpAny_bind (l5.here ?_)
    simp only [Bool.false_eq_true, if_false, Bool.not_false, Bool.and_self, if_true, Bool.and_true]
    refine wpAny_bind (l7.here ?_)
    simp only [Bool.false_eq_true, if_false]
    refine wpAny_bind (nots _ ?_)
    dsimp only
    refine wpAny_bind (last _ fun v s' q => ?_)
    dsimp only
    exact wpAny_bind (wpAny_rule (wpAny_pure (wpAny_pure q)))
  · have l4 : Looks (model P w) s.heap (fillsNumberSlot (.type "dict") "and") false := .of_pure (by kernel_rfl)
    simp only [binaryOp, show Operator.BitAnd.info = ("&", "and") from rfl] at *
    refine wpAny_holding (wpAny_bind (?_ : wpAny _ _ (binaryOp1 "and" _ _) _ _ _))
    unfold binaryOp1
    refine wpAny_bind (hb.here (wpAny_bind (l1.here (wpAny_bind (l4.here ?_)))))
    simp only [ne, Bool.false_eq_true, if_false]
    refine wpAny_bind (l3.here ?_)
    simp only [Bool.false_eq_true, if_false, Bool.not_false, Bool.and_self, if_true, Bool.and_true, Bool.false_and]
    refine wpAny_bind (wpAny_pure ?_)
    simp only [Bool.false_eq_true, if_false]
    refine wpAny_bind (last _ fun v s' q => ?_)
    dsimp only
    exact wpAny_bind (wpAny_rule (wpAny_pure (wpAny_pure q)))
end
end KnW

set_option Elab.async false
set_option linter.all false
set_option maxRecDepth 100000
set_option maxHeartbeats 4000000
/-! a + b by an own method where b is a dict, a list or a tuple; a + b by an own reflected method where a is a dict. -/
namespace KnW
open PySem PySem.Spec PyProof.Rows L2
/-- a value of one of these built-in types -/
def TyB (K : PySem.W.Frag) (T : String) (y : V) (H : Hp) : Prop := tyV K T y H ∨ (T = "tuple" ∧ ∃ p xs, y = .ref p ∧ H p = some (.tup xs))
theorem TyB.is {X : Cx} {pins : List (Addr × Obj)} {σ : L2.St} {H : Hp} {s : Shared} {T : String} {y : V} {v : Value} (I : Inv X pins σ H s) (r : RelV y v) (t : TyB X.K T y H) (nt : ∀ z, T ≠ "str" ∧ T ≠ "int" ∧ T ≠ z ++ "?") : ∃ b ob, v = .ref b ∧ s.heap.get? b = some ob ∧ ob.cls = .type T := by
  rcases t with t | ⟨rfl, p, xs, rfl, hp⟩
  · obtain ⟨h1, _⟩ := tyV_is I r t
    cases y with
    | ref p =>
      cases r
      obtain ⟨o, e, c⟩ := h1
      exact ⟨p, o, rfl, e, c⟩
    | str z => exact ((nt "").1 t).elim
    | int z => exact ((nt "").2.1 t).elim
    | _ => exact False.elim t
  · cases r
    obtain ⟨_, its, _, pl⟩ := I.hok p _ hp
    obtain ⟨ob, e, c, _⟩ := pl
    exact ⟨p, ob, rfl, e, c⟩
theorem side_of {K : PySem.W.Frag} {C : Addr} {nm : String} {T : String} (hn : nm = "or" ∨ nm = "and" ∨ nm = "sub") (hT : T = "dict" ∨ T = "list" ∨ T = "tuple") : Side K C nm T := by
  have m1 : PySem.fastBuiltinMro "dict" = some [.type "dict", .type "object"] := by decide +kernel
  have m2 : PySem.fastBuiltinMro "list" = some [.type "list", .type "object"] := by decide +kernel
  have m3 : PySem.fastBuiltinMro "tuple" = some [.type "tuple", .type "object"] := by decide +kernel
  refine ⟨?_, ?_, ?_⟩
  · refine Option.isSome_iff_exists.mp ?_
    show (fastLookup T (PySem.dunder nm)).isSome = true
    rcases hn with rfl | rfl | rfl <;> rcases hT with rfl | rfl | rfl <;> decide +kernel
  · refine Option.isSome_iff_exists.mp ?_
    show (fastLookup T (dunderR nm)).isSome = true
    rcases hn with rfl | rfl | rfl <;> rcases hT with rfl | rfl | rfl <;> decide +kernel
  · show (PySem.fastBuiltinMro T).map (·.contains (.ref C)) = some false
    rcases hT with rfl | rfl | rfl
    · rw [m1]; rfl
    · rw [m2]; rfl
    · rw [m3]; rfl
section
variable {X : Cx} {k j : Nat} {C : Addr} {sp : Sp}
def rOwnBinA (K : PySem.W.Frag) (C : Addr) (sp : Sp) : R2 := fun x y H Q => ∃ a dx fs, x = .ref a ∧ H a = some (.ins C dx fs) ∧ ((∃ b dy gs, y = .ref b ∧ H b = some (.ins C dy gs)) ∨ ∃ T, (T = "dict" ∨ T = "list" ∨ T = "tuple") ∧ TyB K T y H) ∧
  sp [.ref a, y] H (fun v H' => ∃ c, v = .ref c ∧ Q (.ref c) H') E0
theorem op_ownBinA {op : Operator} {m : Str} (c : Own X.prog X.w X.K X.mg X.base k C m sp) (hm : m = PySem.dunder op.info.2) (sf : PySem.W.selfFirst X.K C = true) (hn : op.info.2 = "or" ∨ op.info.2 = "and" ∨ op.info.2 = "sub")
    (hrr : ∃ rc, PySem.W.findIn X.K (.ref C) (dunderR op.info.2) = some rc ∧ (rc = none ∨ ∃ g : Addr, rc = some (.ref g))) (hr : Room j X.A) (hk : k ≤ j) : OpR X (binaryOp op) (rOwnBinA X.K C sp) := by
  subst hm
  obtain ⟨f, fd, ps, h1, h2, h3, F, bb⟩ := c.ex
  intro pins s σ H x y v u Q I rx ry hq
  obtain ⟨a, dx, fs, rfl, ha, alt, q⟩ := hq
  cases rx
  obtain ⟨mA, J, _⟩ := ins_get I.hok ha
  obtain ⟨od, J, _⟩ := J.look
  obtain ⟨m, hF⟩ := I.fr
  have last : wpAny (model X.prog X.w) X.A (call (.ref f) [.ref a, u]) (PySem.W.CmpBack (EP X pins σ Q)) X.xe s := by
    refine wpAny_mono (run_fn (vs := [.ref a, y]) (us := [.ref a, u]) (dvs := []) (ds := []) F (hr.mono hk) bb .nil pass0 I (.cons rfl (.cons ry .nil)) q) (fun r s' hv => ?_) fun _ _ e => e
    obtain ⟨z, H', I', rz, c, ez, q2⟩ := hv
    subst ez
    cases rz
    exact ⟨.ref c, H', I', rfl, q2⟩
  rcases alt with ⟨b, dy, gs, rfl, hb⟩ | ⟨T, hT, ty⟩
  · cases ry
    obtain ⟨mB, J', _⟩ := ins_get I.hok hb
    obtain ⟨od', J', _⟩ := J'.look
    exact PySem.W.binop_K (op := op) hF I.ok.mod.kin J J'.type sf h1 h2 last
  · obtain ⟨b, ob, rfl, e, cl⟩ := ty.is I ry (fun z => by
      rcases hT with rfl | rfl | rfl <;> refine ⟨by decide, by decide, fun q => ?_⟩ <;> exact absurd (congrArg (fun t : String => t.toList.getLast?) q) (by simp [String.toList_append]))
    obtain ⟨rc, er, hp⟩ := hrr
    exact bin_left (op := op) hF I.ok.mod.kin J (looks_typ e cl rfl) sf h1 h2 er hp (side_of hn hT) last
/-- a | b, a & b where a is a dict -/
def rOwnRBin (K : PySem.W.Frag) (C : Addr) (sp : Sp) : R2 := fun x y H Q => ∃ a b dx fs, x = .ref b ∧ tyV K "dict" x H ∧ y = .ref a ∧ H a = some (.ins C dx fs) ∧ sp [.ref a, .ref b] H (fun v H' => ∃ c, v = .ref c ∧ Q (.ref c) H') E0
theorem op_ownRBin {op : Operator} {m ml : Str} {sp2 : Sp} {k2 : Nat} (c : Own X.prog X.w X.K X.mg X.base k C m sp) (cl : Own X.prog X.w X.K X.mg X.base k2 C ml sp2) (hm : m = dunderR op.info.2) (hml : ml = PySem.dunder op.info.2) (sf : PySem.W.selfFirst X.K C = true) (hop : op = .BitOr ∨ op = .BitAnd)
    (nd : PySem.W.subIn X.K (.ref C) (.type "dict") = some false) (hr : Room j X.A) (hk : k ≤ j) : OpR X (binaryOp op) (rOwnRBin X.K C sp) := by
  subst hm hml
  obtain ⟨f, fd, ps, h1, h2, h3, F, bb⟩ := c.ex
  obtain ⟨g, _, _, g1, _⟩ := cl.ex
  intro pins s σ H x y v u Q I rx ry hq
  obtain ⟨a, b, dx, fs, rfl, ty, rfl, ha, q⟩ := hq
  obtain ⟨tis, _⟩ := tyV_is I rx ty
  cases rx
  cases ry
  obtain ⟨mA, J, _⟩ := ins_get I.hok ha
  obtain ⟨od, J, _⟩ := J.look
  obtain ⟨m, hF⟩ := I.fr
  refine bin_right (op := op) hF I.ok.mod.kin J tis sf hop g1 h1 h2 nd ?_
  refine wpAny_mono (run_fn (vs := [.ref a, .ref b]) (us := [.ref a, .ref b]) (dvs := []) (ds := []) F (hr.mono hk) bb .nil pass0 I (.cons rfl (.cons rfl .nil)) q) (fun r s' hv => ?_) fun _ _ e => e
  obtain ⟨z, H', I', rz, c, ez, q2⟩ := hv
  subst ez
  cases rz
  exact ⟨.ref c, H', I', rfl, q2⟩
end
end KnW

set_option Elab.async false
set_option linter.all false
set_option maxRecDepth 100000
set_option maxHeartbeats 4000000
/-! isinstance of an instance or a dict; d.update(e); the reflected name of an own operator. -/
namespace KnW
open PySem PySem.Spec PyProof.Rows L2
section
variable {X : Cx} {k : Nat} {C : Addr} {sp : Sp}
theorem rr_of {m nm : Str} {P : Program} {w : World} {K : PySem.W.Frag} {mg : Str → Option Value} {base : Heap} (c : Own P w K mg base k C m sp) (e : nm = m) : ∃ rc, PySem.W.findIn K (.ref C) nm = some rc ∧ (rc = none ∨ ∃ g : Addr, rc = some (.ref g)) := by
  subst e
  obtain ⟨f, _, _, h1, _⟩ := c.ex
  exact ⟨_, h1, .inr ⟨f, rfl⟩⟩
theorem kit_dict {K : PySem.W.Frag} {C : Addr} (c : PySem.W.isClsIn K C = true) (t : PySem.W.typeIn K (.ref C) = some (.type "type")) : PySem.W.kitOne K (.type "dict") (.ref C) = some false := by
  have ne : (Value.type "dict" == Value.ref C) = false := Bool.eq_false_iff.mpr fun q => by cases beq_iff_eq.mp q
  have sub : PySem.W.subIn K (.type "dict") (.ref C) = some false := (side_of (nm := "or") (.inl rfl) (.inl rfl)).no
  have both : ((PySem.W.clsIn K C).isSome && PySem.W.typeIn K (.ref C) == some (.type "type")) = true := by
    rw [t, show (PySem.W.clsIn K C).isSome = true from c]
    simp
  unfold PySem.W.kitOne
  rw [ne]
  refine (if_neg Bool.false_ne_true).trans ?_
  show (if ((PySem.W.clsIn K C).isSome && PySem.W.typeIn K (.ref C) == some (.type "type")) = true then PySem.W.subIn K (.type "dict") (.ref C) else none) = some false
  rw [if_pos both, sub]
def rIsCA (C : Addr) : List V → Hp → VK → Prop := fun xs H Q => (∃ a dx fs, xs = [.ref a, .ref C] ∧ H a = some (.ins C dx fs) ∧ Q (.bl true) H) ∨ ∃ a kvs, xs = [.ref a, .ref C] ∧ H a = some (.dK kvs) ∧ Q (.bl false) H
theorem call_isCA (c : C8.InsC X.K C) (nd : PySem.W.kitOne X.K (.type "dict") (.ref C) = some false) : CallR X (.builtin "isinstance") (rIsCA C) := by
  intro pins s σ H xs us Q I r h
  rcases h with ⟨a, dx, fs, rfl, ha, q⟩ | ⟨a, kvs, rfl, ha, q⟩
  · exact C8.call_isC c pins s σ H _ us Q I r ⟨a, dx, fs, rfl, ha, q⟩
  · obtain ⟨u, w', rfl, ru, rw'⟩ := vals2 r
    cases rw'
    exact isinst_ok I ru (TyOf.dK ha) nd fun tk => ⟨.bl false, H, I.tok _, rfl, q⟩
def rUpdate : V → List V → Hp → VK → Prop := fun x xs H Q => ∃ d e base more, x = .ref d ∧ xs = [.ref e] ∧ d ≠ e ∧ H d = some (.dK base) ∧ H e = some (.dK more) ∧ base.length + more.length ≤ sizeLine ∧ Q .non (upd H d (.dK (KnG.mergeFold base more)))
theorem mt_update : MtR X "dict.update" rUpdate := by
  intro pins s σ H x xs v us Q I r rs h
  obtain ⟨d, e, base, more, rfl, rfl, ne, hd, he, sz, q⟩ := h
  cases r
  obtain ⟨u, rfl, ru⟩ := vals1 rs
  cases ru
  obtain ⟨ze, hse, ve, rele, de⟩ := dk_of I.hok he
  obtain ⟨zd, hsd, vd, reld, dd⟩ := dk_of I.hok hd
  refine call_meetsIn PySem.F.slot_dict_update dd.typeIs PySem.F.entry_dict_update (PySem.F.args_dict_update_2 _ _) (meets_dict_update (mixKind X.prog X.w) d e ne hse) ⟨vd, ve, dd, de, by rw [← reld.length, ← rele.length]; exact sz, fun h' hm _ hs => ?_⟩
  have hl : (mergeK base more).length ≤ sizeLine := by
    have e1 := (KV.merge rele reld).length
    have e2 := merged_length_le vd ve
    have e3 := reld.length
    have e4 := rele.length
    omega
  exact ⟨.non, _, d_write I (by rw [hd]; exact True.intro) hs (let ⟨q, _, _, hq, _⟩ := hm; ⟨q, hq⟩) (dk_new hl hsd (KV.merge rele reld) hm), rfl, q⟩
end
end KnW

set_option Elab.async false
set_option linter.all false
set_option maxRecDepth 100000
set_option maxHeartbeats 4000000
/-! An instance compared by == and != with a value of any kind: its own __eq__, and object's __ne__ over it. -/
namespace KnW
open PySem PySem.Spec PyProof.Rows L2
theorem looks_ty {X : Cx} {pins : List (Addr × Obj)} {σ : L2.St} {H : Hp} {s : Shared} {x : V} {u t : Value} (I : Inv X pins σ H s) (rx : RelV x u) (ty : TyOf X.K H x t) : PySem.W.Looks (model X.prog X.w) s.heap (typeOf u) t := by
  cases ty with
  | non => cases (show u = Value.none from rx); exact .of_pure rfl
  | bl y => cases (show u = Value.bool y from rx); exact .of_pure rfl
  | int i => obtain ⟨t, q⟩ := (show ∃ t, u = Value.int i t from rx); cases q; exact .of_pure rfl
  | str y => obtain ⟨t, q⟩ := (show ∃ t, u = Value.str y t from rx); cases q; exact .of_pure rfl
  | flt y => obtain ⟨t, q⟩ := (show ∃ t, u = Value.float y t from rx); cases q; exact .of_pure rfl
  | @lst a xs ea =>
    cases (show u = Value.ref a from rx)
    obtain ⟨_, _, n, _, e⟩ := (show ObjOk X.prog X.w H s.heap a (.lst xs) from I.hok a _ ea)
    exact looks_typ e rfl rfl
  | @frz a ob xs ea =>
    cases (show u = Value.ref a from rx)
    obtain ⟨_, _, _, n, _, e⟩ := (show ObjOk X.prog X.w H s.heap a (.frz ob (.lst xs)) from I.hok a _ ea)
    exact looks_typ e rfl rfl
  | @tup a xs ea =>
    cases (show u = Value.ref a from rx)
    obtain ⟨_, _, _, ob, e, c, _⟩ := (show ObjOk X.prog X.w H s.heap a (.tup xs) from I.hok a _ ea)
    exact looks_typ e c rfl
  | @dK a kvs ea =>
    cases (show u = Value.ref a from rx)
    obtain ⟨_, _, vs, _, ob, _, _, e, c, _⟩ := (show ObjOk X.prog X.w H s.heap a (.dK kvs) from I.hok a _ ea)
    exact looks_typ e c.1 rfl
  | @dT a kvs ea =>
    cases (show u = Value.ref a from rx)
    obtain ⟨_, _, _, _, ob, _, _, e, c, _⟩ := (show ObjOk X.prog X.w H s.heap a (.dT kvs) from I.hok a _ ea)
    exact looks_typ e c.1 rfl
  | @ins a C dx fs ea cl ha hn htk hm =>
    cases (show u = Value.ref a from rx)
    obtain ⟨mA, O, _⟩ := ins_get I.hok ea
    obtain ⟨od, J, _⟩ := O.look
    exact J.type
/-- the built-in types whose values are compared here -/
def plainTys : List String := ["NoneType", "bool", "int", "str", "list", "tuple", "dict"]
theorem sub_none {C : Addr} {l : List String} {T : String} (h : PySem.fastBuiltinMro T = some (l.map Value.type)) (K : PySem.W.Frag) : PySem.W.subIn K (.type T) (.ref C) = some false := by
  show (PySem.fastBuiltinMro T).map (·.contains (.ref C)) = some false
  rw [h, Option.map_some]
  congr 1
  rw [List.contains_eq_any_beq, List.any_eq_false]
  intro v hv
  obtain ⟨n, _, rfl⟩ := List.mem_map.mp hv
  intro q
  cases beq_iff_eq.mp q
theorem not_first {K : PySem.W.Frag} {C : Addr} {T : String} (h : T ∈ plainTys) : PySem.W.notFirst K C (.type T) = true := by
  have : PySem.W.subIn K (.type T) (.ref C) = some false := by
    unfold plainTys at h
    simp only [List.mem_cons, List.not_mem_nil, or_false] at h
    rcases h with rfl | rfl | rfl | rfl | rfl | rfl | rfl
    · exact sub_none (l := ["NoneType", "object"]) (by decide +kernel) K
    · exact sub_none (l := ["bool", "int", "object"]) (by decide +kernel) K
    · exact sub_none (l := ["int", "object"]) (by decide +kernel) K
    · exact sub_none (l := ["str", "object"]) (by decide +kernel) K
    · exact sub_none (l := ["list", "object"]) (by decide +kernel) K
    · exact sub_none (l := ["tuple", "object"]) (by decide +kernel) K
    · exact sub_none (l := ["dict", "object"]) (by decide +kernel) K
  unfold PySem.W.notFirst
  rw [this]
  simp
theorem not_first_self {K : PySem.W.Frag} {C : Addr} : PySem.W.notFirst K C (.ref C) = true := by simp [PySem.W.notFirst]
theorem not_first_of {K : PySem.W.Frag} {C D : Addr} (h : PySem.W.subIn K (.ref D) (.ref C) = some false) : PySem.W.notFirst K C (.ref D) = true := by
  unfold PySem.W.notFirst
  rw [h]
  simp
theorem kit_own {K : PySem.W.Frag} {C : Addr} {t : Value} (c : PySem.W.isClsIn K C = true) (ty : PySem.W.typeIn K (.ref C) = some (.type "type")) (n : t ≠ .ref C) (sub : PySem.W.subIn K t (.ref C) = some false) : PySem.W.kitOne K t (.ref C) = some false := by
  have ne : (t == Value.ref C) = false := beq_eq_false_iff_ne.mpr n
  have both : ((PySem.W.clsIn K C).isSome && PySem.W.typeIn K (.ref C) == some (.type "type")) = true := by
    rw [ty, show (PySem.W.clsIn K C).isSome = true from c]
    simp
  unfold PySem.W.kitOne
  rw [ne]
  refine (if_neg Bool.false_ne_true).trans ?_
  show (if ((PySem.W.clsIn K C).isSome && PySem.W.typeIn K (.ref C) == some (.type "type")) = true then PySem.W.subIn K t (.ref C) else none) = some false
  rw [if_pos both, sub]
theorem plain_sub {K : PySem.W.Frag} {C : Addr} {T : String} (h : T ∈ plainTys) : PySem.W.subIn K (.type T) (.ref C) = some false := by
  unfold plainTys at h
  simp only [List.mem_cons, List.not_mem_nil, or_false] at h
  rcases h with rfl | rfl | rfl | rfl | rfl | rfl | rfl
  · exact sub_none (l := ["NoneType", "object"]) (by decide +kernel) K
  · exact sub_none (l := ["bool", "int", "object"]) (by decide +kernel) K
  · exact sub_none (l := ["int", "object"]) (by decide +kernel) K
  · exact sub_none (l := ["str", "object"]) (by decide +kernel) K
  · exact sub_none (l := ["list", "object"]) (by decide +kernel) K
  · exact sub_none (l := ["tuple", "object"]) (by decide +kernel) K
  · exact sub_none (l := ["dict", "object"]) (by decide +kernel) K
section
variable {P : Program} {w : World} {A : Around} {E : Value → Shared → Prop} {s : Shared} {K : PySem.W.Frag} {x C L f : Addr} {h₀ : Heap} {m : Str → Option Value} {ox : Obj} {od : Option Obj} {b tb : Value}
open PySem.W in
theorem ne_own {Q : Value → Shared → Prop} (hu : A.units + 1 < cLine) (F : Fr h₀ L s.heap m) (X₀ : K.In h₀) (I : InstAt s.heap x ox C od) (hb : Looks (model P w) s.heap (typeOf b) tb) (hn : notFirst K C tb = true)
    (hne : findIn K (.ref C) "__ne__" = some (some (.builtin "object.__ne__"))) (hob : subIn K (.ref C) (.type "object") = some true) (hs : findIn K (.ref C) "__eq__" = some (some (.ref f))) (hf : isFn K (.ref f) = true)
    (h : wpAny (model P w) A.in1 (call (.ref f) [.ref x, b]) (fun v s' => ∃ c, v = .bool c ∧ Q (.bool (!c)) s') E s) : wpAny (model P w) A (richCompare .NotEq (.ref x) b) Q E s := by
  have KI := X₀.keeps F.keep
  have body : wpAny (model P w) A.in1 (Builtin.«object.__ne__» ⟨[.ref x, b], []⟩) (fun fin s' => ∃ v, fin = .done (.ret v) ∧ ∃ c, v = .bool c ∧ Q v s') E s := by
    unfold Builtin.«object.__ne__»
    refine wpAny_bind (?_ : wpAny _ _ (slotArgs _ _ _) _ _ _)
    unfold slotArgs
    show wpAny _ _ (pure (Value.ref x, [b])) _ _ _
    refine wpAny_pure ?_
    dsimp only
    refine wpAny_bind (wpAny_cRoomFor (show A.units + 1 < cLine from hu) ?_)
    refine wpAny_bind (ifBound_K KI I hs hf (wpAny_mono h (fun v s' hv => ?_) fun _ _ e => e))
    obtain ⟨c, rfl, q⟩ := hv
    dsimp only
    refine wpAny_bind (wpAny_truthy_bool ?_)
    exact wpAny_pure ⟨_, rfl, _, rfl, q⟩
  have sig : ∀ {A' : Around} {Q' : Unit → Shared → Prop}, Q' () s → wpAny (model P w) A' (checkBuiltinCall "object.__ne__" ⟨[.ref x, b], []⟩) Q' E s := fun {A' Q'} q => by
    have ha := PySem.F.cmpArgs_ne (.ref x) b
    simp only [checkBuiltinCall, PySem.F.cmpKind_ne, PySem.F.cmpSplit_ne]
    unfold isInstance
    refine wpAny_bind (wpAny_bind (I.type.here ((looks_subIn KI hob).here ?_)))
    simp only [Bool.not_true, Bool.false_eq_true, if_false]
    cases hsig : Manifest.signature? "object.__ne__" with
    | none => exact wpAny_pure q
    | some sg =>
      simp only [argsOk, hsig] at ha
      have h2 : Bind.checkArgs "object.__ne__" sg ⟨[.ref x, b], []⟩ = pure () := ha
      show wpAny _ _ (Bind.checkArgs "object.__ne__" sg ⟨[.ref x, b], []⟩) _ _ _
      rw [h2]; exact wpAny_pure q
  have called : wpAny (model P w) A (call (.builtin "object.__ne__") [.ref x, b]) (fun v s' => ∃ c, v = .bool c ∧ Q v s') E s := by
    refine wpAny_call (codeAny_call_builtin (by decide +kernel) PySem.F.cmpEntry_ne (sig ?_))
    refine wpAny_mono body (fun fin s' hv => ?_) fun _ _ e => e
    obtain ⟨v, rfl, q⟩ := hv
    exact q
  have bnd : bindSpecial (.builtin "object.__ne__") (.ref x) = pure (.builtin "object.__ne__", [.ref x]) := PySem.F.cmp_object.ne.bind _
  have one : wpAny (model P w) A (tryCompare (.ref x) "__ne__" b) (fun r s' => ∃ v, r = some v ∧ Q v s') E s := by
    unfold tryCompare
    refine wpAny_bind (?_ : wpAny _ _ (callSpecialIfBound? _ _ _) _ _ _)
    simp only [callSpecialIfBound?, bindSpecialIfBound?]
    refine wpAny_holding (wpAny_bind (wpAny_bind (?_ : wpAny _ _ (specialOf (.ref x) "__ne__") _ _ _)))
    unfold specialOf
    refine wpAny_bind (I.type.here ((looks_findIn KI hne).here ?_))
    dsimp only
    rw [bnd]
    have fin : ∀ {R : Option Value → Shared → Prop}, (∀ v s', (∃ c, v = .bool c ∧ Q v s') → R (some v) s') → wpAny (model P w) A (call (.builtin "object.__ne__") ([.ref x] ++ [b]) >>= fun v => pure (some v)) R E s := fun {R} k => wpAny_bind (wpAny_mono called (fun v s' hv => wpAny_pure (k v s' hv)) fun _ _ e => e)
    have last : ∀ v s', (∃ c, v = Value.bool c ∧ Q v s') → wpAny (model P w) A (match some v with | some .notImplemented | none => pure none | some v => pure (some v)) (fun r s' => ∃ v, r = some v ∧ Q v s') E s' := fun v s' ⟨c, e, q⟩ => by
      subst e
      exact wpAny_pure ⟨_, rfl, q⟩
    refine wpAny_bind (wpAny_askSetting (wpAny_ite ?_))
    split
    · exact wpAny_bind (wpAny_pure (wpAny_pure (fin last)))
    · exact wpAny_tryCatch (wpAny_bind (wpAny_pure (wpAny_pure (fin last))))
  unfold richCompare
  simp only [oneThing_ref]
  refine wpAny_holding (wpAny_bind (wpAny_cRoomFor (show A.units < cLine by omega) ?_))
  refine wpAny_bind (I.type.here (wpAny_bind (hb.here ?_)))
  split
  · rename_i q
    have e : subIn K tb (.ref C) = some false := by
      rcases Bool.or_eq_true_iff.mp hn with e | e
      · rw [beq_iff_eq.mp e] at q; simp at q
      · exact beq_iff_eq.mp e
    refine wpAny_bind ((looks_subIn KI e).here ?_)
    simp only [Bool.false_eq_true, if_false]
    exact wpAny_bind (wpAny_mono one (fun r s' ⟨v, ev, q⟩ => by subst ev; exact wpAny_pure q) fun _ _ e => e)
  · refine wpAny_bind (wpAny_pure ?_)
    simp only [Bool.false_eq_true, if_false]
    exact wpAny_bind (wpAny_mono one (fun r s' ⟨v, ev, q⟩ => by subst ev; exact wpAny_pure q) fun _ _ e => e)
end
section
variable {X : Cx} {k j : Nat} {C : Addr} {sp : Sp}
def rOwnCmp (K : PySem.W.Frag) (C : Addr) (sp : Sp) (neg : Bool) : R2 := fun x y H Q => ∃ a dx fs t, x = .ref a ∧ H a = some (.ins C dx fs) ∧ TyOf K H y t ∧ PySem.W.notFirst K C t = true ∧ sp [.ref a, y] H (fun v H' => ∃ c, v = .bl c ∧ Q (.bl (if neg then !c else c)) H') E0
theorem op_ownEqA (c : Own X.prog X.w X.K X.mg X.base k C "__eq__" sp) (hr : Room j X.A) (hk : k ≤ j) : OpR X (compareOp .Eq) (rOwnCmp X.K C sp false) := by
  obtain ⟨f, fd, ps, h1, h2, h3, F, bb⟩ := c.ex
  intro pins s σ H x y v u Q I rx ry hq
  obtain ⟨a, dx, fs, t, rfl, ha, ty, nf, q⟩ := hq
  have lt := looks_ty I ry ty
  cases rx
  obtain ⟨mA, J, _⟩ := ins_get I.hok ha
  obtain ⟨od, J, _⟩ := J.look
  obtain ⟨m, hF⟩ := I.fr
  show wpAny (model X.prog X.w) X.A (richCompare .Eq (.ref a) u) (EP X pins σ Q) X.xe s
  refine PySem.W.cmp_K (op := .Eq) (tb := t) hr.units0 hF I.ok.mod.kin J lt nf h1 h2 ?_
  refine wpAny_mono (run_fn (vs := [.ref a, y]) (us := [.ref a, u]) (dvs := []) (ds := []) F (hr.mono hk) bb .nil pass0 I (.cons rfl (.cons ry .nil)) q) (fun r s' hv => ?_) fun _ _ e => e
  obtain ⟨z, H', I', rz, c, ez, q2⟩ := hv
  subst ez
  cases rz
  exact ⟨.bl c, H', I', rfl, q2⟩
theorem op_ownNe (c : Own X.prog X.w X.K X.mg X.base k C "__eq__" sp) (hne : PySem.W.findIn X.K (.ref C) "__ne__" = some (some (.builtin "object.__ne__"))) (hob : PySem.W.subIn X.K (.ref C) (.type "object") = some true) (hr : Room j X.A) (hk : k + 1 ≤ j) : OpR X (compareOp .NotEq) (rOwnCmp X.K C sp true) := by
  obtain ⟨f, fd, ps, h1, h2, h3, F, bb⟩ := c.ex
  intro pins s σ H x y v u Q I rx ry hq
  obtain ⟨a, dx, fs, t, rfl, ha, ty, nf, q⟩ := hq
  have lt := looks_ty I ry ty
  cases rx
  obtain ⟨mA, J, _⟩ := ins_get I.hok ha
  obtain ⟨od, J, _⟩ := J.look
  obtain ⟨m, hF⟩ := I.fr
  show wpAny (model X.prog X.w) X.A (richCompare .NotEq (.ref a) u) (EP X pins σ Q) X.xe s
  refine ne_own (tb := t) (by have := hr.un; omega) hF I.ok.mod.kin J lt nf hne hob h1 h2 ?_
  refine wpAny_mono (run_in1 (vs := [.ref a, y]) (us := [.ref a, u]) F (hr.mono hk) bb pass0 I (.cons rfl (.cons ry .nil)) q) (fun r s' hv => ?_) fun _ _ e => e
  obtain ⟨z, H', I', rz, c, ez, q2⟩ := hv
  subst ez
  cases rz
  exact ⟨c, rfl, .bl (!c), H', I', rfl, q2⟩
end
end KnW

set_option Elab.async false
set_option linter.all false
set_option maxRecDepth 100000
set_option maxHeartbeats 4000000
/-! Two dicts of texts compared, with either answer. -/
namespace KnV
open PySem PySem.Spec PyProof.Rows L2
def strV : V → Bool
  | .str _ => true
  | _ => false
def dictEq (ks ls : List (Key × V)) : Bool := ks.length == ls.length && ks.all fun p => decide (valV ls p.1 = some p.2)
theorem hits_any {A : Around} {s : Shared} {kvs : List (Key × V)} {vb : List (Key × Value)} (rb : KV kvs vb) (sb : ∀ k v, valV kvs k = some v → strV v = true) {ks : List (Key × V)} {va : List (Key × Value)} (ra : KV ks va) :
    (∀ p ∈ ks, strV p.2 = true) → PySem.W.KeqHits A s vb va (ks.all fun p => decide (valV kvs p.1 = some p.2)) := by
  unfold KV at ra
  induction ra with
  | nil => intro _; exact .nil
  | @cons p q ps qs h t ih =>
    intro hp
    obtain ⟨h1, h2⟩ := h
    obtain ⟨k, v⟩ := q
    have h1' : p.1 = k := h1
    subst h1'
    have sp := hp p List.mem_cons_self
    have rest := ih fun p' hm => hp p' (List.mem_cons_of_mem _ hm)
    have rv := rb.val p.1
    rw [List.all_cons]
    cases e : valV kvs p.1 with
    | none =>
      rw [e] at rv
      cases e2 : valueAt vb p.1 with
      | none =>
        rw [decide_eq_false (fun t => by cases t), Bool.false_and]
        exact .miss e2
      | some z => rw [e2] at rv; exact rv.elim
    | some y =>
      rw [e] at rv
      obtain ⟨u, hu, ru⟩ := rv.some_of
      have sy := sb _ _ e
      obtain ⟨pk, pv⟩ := p
      cases pv with
      | str a =>
        cases y with
        | str b =>
          obtain ⟨t1, rfl⟩ := (show ∃ t, v = Value.str a t from h2)
          obtain ⟨t2, rfl⟩ := (show ∃ t, u = Value.str b t from ru)
          have g := PySem.SeqAt.EqAt.str_str (A := A) (s := s) a t1 b t2
          have eq : decide (some (V.str b) = some (V.str a)) = (a == b) := by
            by_cases z : a = b
            · rw [z, decide_eq_true rfl]; simp
            · rw [decide_eq_false (fun t => z (V.str.inj (Option.some.inj t)).symm)]
              exact (beq_eq_false_iff_ne.mpr z).symm
          show PySem.W.KeqHits A s vb ((pk, Value.str a t1) :: qs) (decide (some (V.str b) = some (V.str a)) && _)
          rw [eq]
          exact .hit hu g rest
        | _ => cases sy
      | _ => cases sp
section
variable {X : Cx}
def rDictB (neg : Bool) : R2 := fun x y H Q => ∃ a b ks ls, x = .ref a ∧ y = .ref b ∧ H a = some (.dK ks) ∧ H b = some (.dK ls) ∧ (∀ p ∈ ks, strV p.2 = true) ∧ (∀ k v, valV ls k = some v → strV v = true) ∧ Q (.bl (if neg then !dictEq ks ls else dictEq ks ls)) H
theorem op_eqDictB (hu : X.A.units < cLine) : OpR X (compareOp .Eq) (rDictB false) := by
  intro pins s σ H x y v u Q I rx ry h
  obtain ⟨a, b, ks, ls, rfl, rfl, ea, eb, p1, p2, q⟩ := h
  cases rx
  cases ry
  obtain ⟨_, ya, va, ra, da⟩ := (show ObjOk X.prog X.w H s.heap a (.dK ks) from I.hok a _ ea)
  obtain ⟨_, yb, vb, rb, db⟩ := (show ObjOk X.prog X.w H s.heap b (.dK ls) from I.hok b _ eb)
  exact PySem.W.keq_eq (knd := mixKind X.prog X.w) ya yb da db hu (fun _ => hits_any rb p2 ra p1) (fin_bl I q (by unfold dictEq; rw [ra.length, rb.length]; rfl))
theorem op_neDictB (hu : X.A.units < cLine) : OpR X (compareOp .NotEq) (rDictB true) := by
  intro pins s σ H x y v u Q I rx ry h
  obtain ⟨a, b, ks, ls, rfl, rfl, ea, eb, p1, p2, q⟩ := h
  cases rx
  cases ry
  obtain ⟨_, ya, va, ra, da⟩ := (show ObjOk X.prog X.w H s.heap a (.dK ks) from I.hok a _ ea)
  obtain ⟨_, yb, vb, rb, db⟩ := (show ObjOk X.prog X.w H s.heap b (.dK ls) from I.hok b _ eb)
  exact PySem.W.keq_ne (knd := mixKind X.prog X.w) ya yb da db hu (fun _ => hits_any rb p2 ra p1) (fin_bl I q (by unfold dictEq; rw [ra.length, rb.length]; rfl))
end
end KnV

set_option Elab.async false
set_option linter.all false
set_option maxRecDepth 100000
/-! Order of texts, of ints; the states that steps reach. -/
namespace KnA
open PySem PySem.Spec PyProof.Rows
theorem lt_irr : ∀ a : List Nat, ltCps a a = false
  | [] => rfl
  | x :: r => by
    show (decide (x < x) || (x == x && ltCps r r)) = false
    rw [lt_irr r, decide_eq_false (Nat.lt_irrefl x)]; simp
theorem le_trans_ : ∀ {a b c : List Nat}, ltCps b a = false → ltCps c b = false → ltCps c a = false
  | [], [], [], _, _ => rfl
  | [], [], _ :: _, _, _ => rfl
  | [], _ :: _, [], _, h => by cases h
  | [], _ :: _, _ :: _, _, _ => rfl
  | _ :: _, [], _, h, _ => by cases h
  | _ :: _, _ :: _, [], _, h => by cases h
  | x :: r, y :: t, z :: u, h1, h2 => by
    have h1' : (decide (y < x) || (y == x && ltCps t r)) = false := h1
    have h2' : (decide (z < y) || (z == y && ltCps u t)) = false := h2
    show (decide (z < x) || (z == x && ltCps u r)) = false
    rw [Bool.or_eq_false_iff, decide_eq_false_iff_not, Bool.and_eq_false_iff, beq_eq_false_iff_ne] at h1' h2' ⊢
    refine ⟨by omega, ?_⟩
    by_cases e : z = x
    · right
      have e1 : y = x := by omega
      have e2 : z = y := by omega
      exact le_trans_ (h1'.2.resolve_left fun q => q e1) (h2'.2.resolve_left fun q => q e2)
    · exact .inl e
theorem le_anti : ∀ {a b : List Nat}, ltCps b a = false → ltCps a b = false → a = b
  | [], [], _, _ => rfl
  | [], _ :: _, _, h2 => by cases h2
  | _ :: _, [], h1, _ => by cases h1
  | x :: r, y :: t, h1, h2 => by
    have h1' : (decide (y < x) || (y == x && ltCps t r)) = false := h1
    have h2' : (decide (x < y) || (x == y && ltCps r t)) = false := h2
    rw [Bool.or_eq_false_iff, decide_eq_false_iff_not, Bool.and_eq_false_iff, beq_eq_false_iff_ne] at h1' h2'
    have e : x = y := by omega
    subst e
    rw [le_anti (h1'.2.resolve_left fun q => q rfl) (h2'.2.resolve_left fun q => q rfl)]
def leS (a b : Str) : Prop := ltCps b.cps.toList a.cps.toList = false
theorem leS_trans {a b c : Str} (h1 : leS a b) (h2 : leS b c) : leS a c := le_trans_ h1 h2
theorem str_ext {a b : Str} (h : a.cps.toList = b.cps.toList) : a = b := by
  cases a; cases b
  exact congrArg Str.mk (Array.toList_inj.mp h)
theorem leS_anti {a b : Str} (h1 : leS a b) (h2 : leS b a) : a = b := str_ext (le_anti h1 h2)
theorem rising_pair : ∀ {p : Str} {l : List Str}, risingS p l = true → (p :: l).Pairwise leS
  | p, [], _ => List.pairwise_singleton _ _
  | p, x :: r, h => by
    have h' : (!ltCps x.cps.toList p.cps.toList && risingS x r) = true := h
    rw [Bool.and_eq_true, Bool.not_eq_true'] at h'
    have ih := rising_pair h'.2
    refine List.pairwise_cons.mpr ⟨fun y hy => ?_, ih⟩
    rcases List.mem_cons.mp hy with z | z
    · rw [z]; exact h'.1
    · exact leS_trans h'.1 ((List.pairwise_cons.mp ih).1 y z)
theorem sorted_pair {l : List Str} (h : sortedS l = true) : l.Pairwise leS := by
  cases l with
  | nil => exact List.Pairwise.nil
  | cons x r => exact rising_pair h
theorem perm_sorted {α : Type} {R : α → α → Prop} (anti : ∀ {a b}, R a b → R b a → a = b) : ∀ {l m : List α}, l.Perm m → l.Pairwise R → m.Pairwise R → l = m
  | [], m, p, _, _ => (List.Perm.nil_eq p)
  | x :: l, [], p, _, _ => absurd p.length_eq (by simp)
  | x :: l, y :: m, p, h1, h2 => by
    have e : x = y := by
      have hx : x ∈ y :: m := p.mem_iff.mp List.mem_cons_self
      have hy : y ∈ x :: l := p.mem_iff.mpr List.mem_cons_self
      rcases List.mem_cons.mp hx with z | z
      · exact z
      · rcases List.mem_cons.mp hy with z' | z'
        · exact z'.symm
        · exact anti ((List.pairwise_cons.mp h1).1 y z') ((List.pairwise_cons.mp h2).1 x z)
    subst e
    rw [perm_sorted anti (List.perm_cons x |>.mp p) (List.pairwise_cons.mp h1).2 (List.pairwise_cons.mp h2).2]
theorem nodup_perm {α : Type} [DecidableEq α] {l m : List α} (h1 : l.Nodup) (h2 : m.Nodup) (h : ∀ x, x ∈ l ↔ x ∈ m) : l.Perm m := (List.perm_ext_iff_of_nodup h1 h2).mpr h
/-- the sorted list of these texts, each once -/
structure Words (ys : List Str) (xs : List Str) : Prop where
  up : ys.Pairwise leS
  nd : ys.Nodup
  mem : ∀ x, x ∈ ys ↔ x ∈ xs
theorem Words.uniq {ys zs xs : List Str} (a : Words ys xs) (b : Words zs xs) : ys = zs :=
  perm_sorted leS_anti (nodup_perm a.nd b.nd fun x => (a.mem x).trans (b.mem x).symm) a.up b.up
/-! ### states -/
abbrev Stp := Int × Str × Int
inductive Reach (ss : List Stp) (s0 : Int) : Int → Prop where
  | start : Reach ss s0 s0
  | step {x : Int} {w : Str} {y : Int} (h : Reach ss s0 x) (m : (x, w, y) ∈ ss) : Reach ss s0 y
structure States (ns : List Int) (ss : List Stp) (s0 : Int) : Prop where
  up : ns.Pairwise (· < ·)
  mem : ∀ x, x ∈ ns ↔ Reach ss s0 x
theorem States.uniq {a b : List Int} {ss : List Stp} {s0 : Int} (h : States a ss s0) (k : States b ss s0) : a = b := by
  have nd : ∀ {l : List Int}, l.Pairwise (· < ·) → l.Nodup := fun p => p.imp fun h e => by omega
  exact perm_sorted (R := fun x y : Int => x < y) (fun h1 h2 => by omega) (nodup_perm (nd h.up) (nd k.up) fun x => (h.mem x).trans (k.mem x).symm) h.up k.up
theorem lt_of_le {l : List Int} (h : l.Pairwise (· ≤ ·)) (d : l.Nodup) : l.Pairwise (· < ·) := by
  induction l with
  | nil => exact List.Pairwise.nil
  | cons x r ih =>
    obtain ⟨h1, h2⟩ := List.pairwise_cons.mp h
    obtain ⟨d1, d2⟩ := List.nodup_cons.mp d
    refine List.pairwise_cons.mpr ⟨fun y hy => ?_, ih h2 d2⟩
    have := h1 y hy
    have ne : x ≠ y := fun e => d1 (e ▸ hy)
    omega
/-- closed under the steps, from the start, and nothing else -/
theorem reach_of {ss : List Stp} {s0 : Int} {l : List Int} (h0 : s0 ∈ l) (hc : ∀ x w y, x ∈ l → (x, w, y) ∈ ss → y ∈ l) (hr : ∀ x ∈ l, Reach ss s0 x) (x : Int) : x ∈ l ↔ Reach ss s0 x := by
  refine ⟨hr x, fun h => ?_⟩
  induction h with
  | start => exact h0
  | step _ m ih => exact hc _ _ _ ih m
end KnA

set_option Elab.async false
set_option linter.all false
set_option maxRecDepth 100000
set_option maxHeartbeats 4000000
/-! xs[::-1] of a list. -/
namespace KnR
open PySem PySem.Spec PyProof.Rows L2
theorem pick_rev (its : List Value) : slicePick its.toArray none none (some (-1)) = its.reverse.toArray := by
  unfold slicePick
  have b : sliceBounds none none (some (-1)) its.toArray.size = ((its.length : Int) - 1, -1, -1) := by
    unfold sliceBounds
    simp
  rw [b]
  refine congrArg List.toArray ?_
  show (sliceRange ((its.length : Int) - 1) (-1) (-1)).filterMap (its.toArray[·]?) = its.reverse
  have r : sliceRange ((its.length : Int) - 1) (-1) (-1) = (List.range its.length).map fun k => its.length - 1 - k := by
    unfold sliceRange
    have c : (if (-1 : Int) > 0 then (if (its.length : Int) - 1 < -1 then (-1 - ((its.length : Int) - 1) + -1 - 1) / -1 else 0) else (if (its.length : Int) - 1 > -1 then ((its.length : Int) - 1 - -1 - -1 - 1) / (- -1) else 0)) = (its.length : Int) := by
      rw [if_neg (by decide)]
      by_cases h : (its.length : Int) - 1 > -1
      · rw [if_pos h]
        have : (- -1 : Int) = 1 := rfl
        rw [this, Int.ediv_one]
        omega
      · rw [if_neg h]; omega
    show (List.range (Int.toNat _)).map _ = _
    rw [c, Int.toNat_natCast]
    refine List.map_congr_left fun k hk => ?_
    have := List.mem_range.mp hk
    omega
  rw [r, List.filterMap_map]
  refine List.ext_getElem? fun i => ?_
  have all : ∀ n, n ≤ its.length → ((List.range n).filterMap ((fun x : Nat => its.toArray[x]?) ∘ fun k => its.length - 1 - k)) = its.reverse.take n := by
    intro n
    induction n with
    | zero => intro _; rfl
    | succ n ih =>
      intro h
      have hk : its.length - 1 - n < its.length := by omega
      have e : its.toArray[its.length - 1 - n]? = some its[its.length - 1 - n] := by
        rw [List.getElem?_toArray, List.getElem?_eq_getElem hk]
      rw [List.range_succ, List.filterMap_append, ih (by omega), List.take_add_one]
      refine congrArg (its.reverse.take n ++ ·) ?_
      have g : its.reverse[n]? = some its[its.length - 1 - n] := by
        rw [List.getElem?_reverse (by omega), List.getElem?_eq_getElem hk]
      rw [g, List.filterMap_cons, List.filterMap_nil]
      have e2 : ((fun x : Nat => its.toArray[x]?) ∘ fun k => its.length - 1 - k) n = some its[its.length - 1 - n] := e
      rw [e2]; rfl
  rw [all its.length (Nat.le_refl _), List.take_of_length_le (by rw [List.length_reverse]; exact Nat.le_refl _)]
def tRev (K : PySem.W.Frag) (te : TE) (ts : TO) : TE := fun σ H Q => te σ H fun x H1 => ts σ H1 fun o H2 => ∃ a xs, x = .ref a ∧ o = some (-1) ∧ SqL K H2 a xs ∧ ∀ p, H2 p = none → Q (.ref p) (upd H2 p (.lst xs.reverse))
section
variable {X : Cx} {e st : Expr} {te ts : TE} {p2 pos : Pos}
theorem pe_rev (he : PE X e te) (hs : PE X st ts) : PE X (.Subscript e (.Slice none none (some st) p2) pos) (tRev X.K te (tPart ts)) := by
  refine ⟨fun pins s σ H Q I h => ?_⟩
  refine Subscript_ (thn (he.run pins s σ H _ I h) fun v s1 ⟨x, H1, I1, r1, q1⟩ => ?_)
  have po : PO X (some st) (tPart ts) := po_some hs
  refine wpAny_Slice ?_
  rw [evalPart_none]
  refine wpAny_pure (wpAny_pure ?_)
  refine thn (po.run pins s1 σ H1 _ I1 q1) fun vk s3 ⟨o, H3, I3, pk, a, xs, ex, eo, hx, q3⟩ => ?_
  subst ex eo
  cases r1
  have I4 : Inv X pins σ H3 { s3 with heap := s3.heap.push { cls := .type "slice", data := .fields #[.none, .none, vk] } } := I3.kept (t' := s3.toks) fun b ob q => Heap.get?_push_of_some _ q
  obtain ⟨its, r, ht, hz⟩ := I4.list hx
  have hlen := r.length
  have hg : wpAny (model X.prog X.w) X.A (getItem (.ref a) (.ref s3.heap.objs.size)) (EP X pins σ Q) X.xe { s3 with heap := s3.heap.push { cls := .type "slice", data := .fields #[.none, .none, vk] } } := by
    refine wpAny_getItem_list_slice ht.isList (Heap.IsSliceOf.new ..) .none .none pk (by simp) ?_ (by rw [List.size_toArray]; omega)
    rw [pick_rev]
    refine ⟨.ref _, _, I4.laid (t' := s3.toks) (o := .lst xs.reverse) (fun b ob q => Heap.get?_push_of_some _ q) (Nat.le_refl _) ?_, rfl, q3 _ (I4.hok.fresh (Nat.le_refl _))⟩
    exact ⟨by rw [List.length_reverse]; exact hz, _, 0, r.reverse, Heap.get?_push_size _ rfl⟩
  show wpAny (model X.prog X.w) X.A (subscriptTail e (.Slice none none (some st) p2) (.ref a) (.ref s3.heap.objs.size)) (EP X pins σ Q) X.xe { s3 with heap := s3.heap.push { cls := .type "slice", data := .fields #[.none, .none, vk] } }
  exact tail_any (ops := [.ref a, .ref s3.heap.objs.size]) ht.isList.typeIs slot_list_getitem.lookup hg (by with_unfolding_all rfl)
end
end KnR

set_option Elab.async false
set_option linter.all false
set_option maxRecDepth 100000
set_option maxHeartbeats 4000000
/-! A def that has defaults, all of its arguments given. -/
namespace KnD
open PySem PySem.Spec PyProof.Rows L2
structure FunX (K : PySem.W.Frag) (x qual : Str) (st : Stmt) (f : Addr) (fd : FuncData) : Prop where
  ex : ∃ (oc : Value) (od : Option Addr) (dV kV doc pm : Value) (an : Option Addr) (cdv ct : Value) (osl : Array (Option Value)),
    fd = PySem.W.fnOf x qual (defArgs st) (defBody st) (defScope st) dV kV doc pm an cdv ct ∧ K.lookup f = some ⟨oc, od, .func fd, osl⟩ ∧ PySem.W.codeIn K cdv qual = true
section
variable {P : Program} {w : World} {K : PySem.W.Frag} {mg : Str → Option Value} {base : Heap}
theorem FunX.ok {x qual : Str} {st : Stmt} {f : Addr} {fd : FuncData} {N ps : List Str} {k : Nat} {sp : Sp} (F : FunX K x qual st f fd) (S : FnScope N ps (defScope st)) (len : ∀ vs H Q E, sp vs H Q E → vs.length = ps.length)
    (hbody : ∀ (cdv : Value) (A : Around) (outer : List Env) (s : Shared) (H : Hp) (vs : List V) (Q : VK) (E : XK), Room k (A.deeper (envOfC qual (defScope st) s.heap.objs.size f cdv)) → sp vs H Q E →
      ∃ t, PSs (cxOf CX0 P w K mg base N qual (defScope st) f cdv A outer s H E).nox (defBody st) t ∧ t { nx := fun _ H' => Q .non H', rt := Q } (start N vs) H) : FnOk P w K mg base CX0 (k + 1) f fd ps sp := by
  obtain ⟨oc, od, dV, kV, doc, pm, an, cdv, ct, osl, rfl, lk, hcd⟩ := F.ex
  refine fn_of lk hcd S len fun A outer s H vs Q E hr hsp => ?_
  obtain ⟨t, h, q⟩ := hbody cdv A outer s H vs Q E hr hsp
  exact ⟨t, h.nox, q⟩
/-- .. that may raise -/
theorem FunX.okX {x qual : Str} {st : Stmt} {f : Addr} {fd : FuncData} {N ps : List Str} {k : Nat} {sp : Sp} (F : FunX K x qual st f fd) (S : FnScope N ps (defScope st)) (len : ∀ vs H Q E, sp vs H Q E → vs.length = ps.length)
    (hbody : ∀ (cdv : Value) (A : Around) (outer : List Env) (s : Shared) (H : Hp) (vs : List V) (Q : VK) (E : XK), Room k (A.deeper (envOfC qual (defScope st) s.heap.objs.size f cdv)) → sp vs H Q E →
      ∃ t, PSs (cxOf (L2.CX P w) P w K mg base N qual (defScope st) f cdv A outer s H E) (defBody st) t ∧ t { nx := fun _ H' => Q .non H', rt := Q } (start N vs) H) : FnOk P w K mg base (L2.CX P w) (k + 1) f fd ps sp := by
  obtain ⟨oc, od, dV, kV, doc, pm, an, cdv, ct, osl, rfl, lk, hcd⟩ := F.ex
  exact fn_of lk hcd S len fun A outer s H vs Q E hr hsp => hbody cdv A outer s H vs Q E hr hsp
theorem binds_full {x qual : Str} {st : Stmt} {f T : Addr} {oc : Value} {od an : Option Addr} {osl : Array (Option Value)} {kV doc pm cdv ct : Value} {to : Obj} {tn : Nat} {its : List Value} {dvs : List V} {ps : List Str}
    (l : K.lookup f = some ⟨oc, od, .func (PySem.W.fnOf x qual (defArgs st) (defBody st) (defScope st) (.ref T) kV doc pm an cdv ct), osl⟩) (c : PySem.W.codeIn K cdv qual = true) (k : PySem.W.keepIn K (.ref f) = true)
    (lT : K.lookup T = some to) (oT : to.data = .seq its.toArray tn) (rT : Vals dvs its) (hd : dvs ≠ [])
    (h : ∀ (T : Addr) (kV doc pm : Value) (an : Option Addr) (cdv ct : Value) (us its : List Value), us.length = ps.length → its.length = dvs.length →
      ∃ k, bindArgs (PySem.W.fnOf x qual (defArgs st) (defBody st) (defScope st) (.ref T) kV doc pm an cdv ct) ⟨us, []⟩ = seqItems? (.ref T) >>= k ∧ k (some its.toArray) = pure (ps.zip (us ++ its.drop dvs.length))) : Binds K (PySem.W.fnOf x qual (defArgs st) (defBody st) (defScope st) (.ref T) kV doc pm an cdv ct) ps [] := by
  have F : FunD K x qual (defArgs st) (defBody st) (defScope st) dvs [] f (PySem.W.fnOf x qual (defArgs st) (defBody st) (defScope st) (.ref T) kV doc pm an cdv ct) :=
    ⟨⟨oc, od, .ref T, kV, doc, pm, an, cdv, ct, osl, rfl, l, c, .inr ⟨hd, T, to, its, tn, rfl, lT, oT, rT⟩, .inl rfl⟩, k⟩
  obtain ⟨ds, v, b⟩ := FunD.binds1 F (ps := ps) ps.length dvs.length hd (by omega) h
  rw [List.drop_length] at v
  cases v
  exact b
end
end KnD

set_option Elab.async false
set_option linter.all false
set_option maxRecDepth 100000
set_option maxHeartbeats 4000000
/-! Own errors whose base is an own error: Base.__init__(self, ..). -/
namespace KnX
open PySem PySem.Spec PyProof.Rows L2 ClX
variable {X : Cx} {o e : Expr} {es : List Expr} {to te : TE} {ta : TA} {f x : Str} {p p' p1 p2 pos : Pos} {C0 : Addr} {mc : Value}
/-- what the written part says of the base, as it is read by its name -/
structure BaseC (K : PySem.W.Frag) (C0 : Addr) (mc : Value) : Prop where
  r : CRead K C0 mc
  at_ : PySem.W.findCls K (.ref C0) mc "__init__" = some (.val (.builtin "ValueError.__init__"))
theorem pe_baseinit {pl : Sem Bool} (hg : Gl X x) (hm : X.mg x = some (.ref C0)) (B : BaseC X.K C0 mc) (ha : PA X (e :: es) ta)
    (hdb : (x == ("__debug__" : Str)) = false := by decide)
    (hc : eval (.Call (.Attribute (.Name x p1) "__init__" p2) (e :: es) [] pos) X.env = (do
      let ov ← eval (.Name x p1) X.env
      standAt p2.atName
      let (f, first) ← holding [ov] (getMethod ov "__init__" pl)
      callWith pos f first (backTo pos (starEach (e :: es) X.env)) (backToKw pos (keywordEach [] X.env))) := by rfl)
    (he : starEach (e :: es) X.env = (false, eval e X.env) :: starEach es X.env := by rfl) (hpl : (backTo pos (starEach es X.env)).any (·.1) = false := by rfl) :
    PE X (.Call (.Attribute (.Name x p1) "__init__" p2) (e :: es) [] pos) (tVeI X.K ta) := by
  refine ⟨fun pins s σ H Q I h => ?_⟩
  refine PySem.W.methodCall_KW (ld_glob I hg hm ?_ hdb) hc
  refine PySem.W.method_cls I.kIn B.r.ga (PySem.W.cls_value I.kIn B.r.rd B.at_ (by decide +kernel) ?_)
  show wpAny _ _ (callWith pos (Value.builtin "ValueError.__init__") [] (backTo pos (starEach (e :: es) X.env)) []) _ _ _
  refine PyProof.Rows.callWith_method1 (thn (ha.run pos pins _ σ H _ (I.tok _) h) fun us s1 ⟨vs, H1, I1, r1, a, C, ws, ev, hl, T, ea, q⟩ => ?_) he hpl
  subst ev
  cases r1 with
  | @cons _ u0 _ ur ra rw' =>
    obtain rfl : u0 = Value.ref a := ra
    exact oinit_ok T I1 ea (by rw [← Paired.length rw', sizeLine_eq]; omega) fun s' J => ⟨.non, H1, J, rfl, q⟩
/-- an own error's __init__: the field is stored in a new dict -/
def spErr (C : Addr) (g : Str) (_ : PySem.W.Frag) : Sp := fun vs H Q _ => ∃ (a : Addr) (y : V), vs = [.ref a, y] ∧ H a = some (exo a C none) ∧ ∀ dx, H dx = none → dx ≠ a → Q .non (upd (upd H dx (exd dx [(g, y)])) a (exo a C (some dx)))
/-- what the walk asks of an own error class -/
structure ErrC (K : PySem.W.Frag) (mg : Str → Option Value) (x : Str) (C fI : Addr) (g : Str) : Prop where
  gC : mg x = some (.ref C)
  ox : OexC K C
  iC : PySem.W.findIn K (.ref C) "__init__" = some (some (.ref fI))
  tI : PySem.W.typeIn K (.ref fI) = some (.type "function")
  no : PySem.W.findIn K (.ref C) g = some none
/-- C(v) behind its arguments: the error's dict d is new -/
theorem mk_err {C : Addr} {g : Str} {K : PySem.W.Frag} {v : V} {H1 : Hp} {Q : XK} (h : ∀ d, H1 d = none → Q (.ref C) (some d) (upd H1 d (.xd [(g, v)]))) : ([v] : List V).length ≤ 1000 ∧ ∀ a, H1 a = none → spErr C g K (.ref a :: ([v] ++ [])) (upd H1 a (exo a C none))
    (fun u H2 => u = .non ∧ ∃ (d : Addr) (fs : List (Str × V)), H2 a = some (exo a C (some d)) ∧ H2 d = some (exd d fs) ∧ H1 d = none ∧ Q (.ref C) (some d) (upd (del H2 a) d (.xd fs))) (fun _ _ _ => False) := by
  refine ⟨Nat.le_of_ble_eq_true rfl, fun a na => ⟨a, v, rfl, upd_same, fun dx nd ne => ⟨rfl, dx, [(g, v)], upd_same, (upd_ne ne).trans upd_same, ?_, ?_⟩⟩⟩
  · rwa [upd_ne ne] at nd
  · have nd' : H1 dx = none := by rwa [upd_ne ne] at nd
    have e : upd (del (upd (upd (upd H1 a (exo a C none)) dx (exd dx [(g, v)])) a (exo a C (some dx))) a) dx (.xd [(g, v)]) = upd H1 dx (.xd [(g, v)]) := by
      funext b
      by_cases hb : b = dx
      · rw [hb, upd_same, upd_same]
      · rw [upd_ne hb, upd_ne hb]
        by_cases ha : b = a
        · rw [ha, del_same, na]
        · rw [del_ne ha, upd_ne ha, upd_ne hb, upd_ne ha]
    rw [e]
    exact h dx nd'
theorem pmk_err {C fI : Addr} {k j : Nat} {fd : FuncData} {ps : List Str} {g : Str} (T : ErrC X.K X.mg x C fI g) (F1 : FnOk X.prog X.w X.K X.mg X.base CX0 k fI fd ps (spErr C g X.K)) (hr : Room j X.A) (hk : k + 1 ≤ j) (hb : Binds X.K fd ps []) (hg : Gl X x) (ha : PA X (e :: es) ta)
    (hdb : (x == ("__debug__" : Str)) = false := by decide) (he : starEach (e :: es) X.env = (false, eval e X.env) :: starEach es X.env := by rfl) (hpl : (backTo pos (starEach es X.env)).any (·.1) = false := by rfl) :
    PMk X (.Call (.Name x p) (e :: es) [] pos) (tMkO C (spErr C g X.K) [] ta) :=
  pmk_oex (dvs := []) T.ox T.iC T.tI F1 (hr.mono hk) hb .nil (fun _ _ _ _ _ _ _ h => h.elim) hg T.gC ha hdb he hpl
/-- an own error class by its promise -/
structure Err (P : Program) (w : World) (K : PySem.W.Frag) (mg : Str → Option Value) (base : Heap) (k : Nat) (x : Str) (C : Addr) (g : Str) : Prop where
  ex : ∃ (fI : Addr) (fd : FuncData) (ps : List Str), ErrC K mg x C fI g ∧ FnOk P w K mg base CX0 k fI fd ps (spErr C g K) ∧ Binds K fd ps []
/-- raise C(e) -/
theorem ps_err {C : Addr} {k j : Nat} {g : Str} {W : WX} {pos2 : Pos} (hc : X.calm = true) (tk : Takes X W) (c : Err X.prog X.w X.K X.mg X.base k x C g) (hr : Room j X.A) (hk : k + 1 ≤ j) (hg : Gl X x) (ha : PA X (e :: es) ta)
    (hdb : (x == ("__debug__" : Str)) = false := by decide) (he : starEach (e :: es) X.env = (false, eval e X.env) :: starEach es X.env := by rfl) (hpl : (backTo pos (starEach es X.env)).any (·.1) = false := by rfl) :
    PS X (.Raise (some (.Call (.Name x p) (e :: es) [] pos)) none pos2) (fun _ σ H => tMkO C (spErr C g X.K) [] ta σ H fun cls d H' => W cls d σ H') := by
  obtain ⟨fI, fd, ps, T, F, b⟩ := c.ex
  exact ps_raise hc tk (pmk_err T F hr hk b hg ha hdb he hpl)
/-! ### calls that may raise -/
/-- a def that may raise, by its promise -/
structure CalX (P : Program) (w : World) (K : PySem.W.Frag) (mg : Str → Option Value) (base : Heap) (k : Nat) (x : Str) (sp : Sp) : Prop where
  ex : ∃ (f : Addr) (fd : FuncData) (ps : List Str), FnOk P w K mg base (L2.CX P w) k f fd ps sp ∧ mg x = some (.ref f) ∧ PySem.W.keepIn K (.ref f) = true ∧ Binds K fd ps []
theorem pe_cx {k j : Nat} {sp : Sp} {W : WX} {t : TA} (c : CalX X.prog X.w X.K X.mg X.base k x sp) (hr : Room j X.A) (hk : k ≤ j) (hg : Gl X x) (tk : Takes X W) (ha : PA X (e :: es) t)
    (hdb : (x == ("__debug__" : Str)) = false := by decide) (he : starEach (e :: es) X.env = (false, eval e X.env) :: starEach es X.env := by rfl) (hpl : (backTo pos (starEach es X.env)).any (·.1) = false := by rfl) :
    PE X (.Call (.Name x p) (e :: es) [] pos) (tCallS sp (WE W) t) := by
  obtain ⟨f, fd, ps, F, hm, kp, b⟩ := c.ex
  exact pe_callS F (hr.mono hk) hg hm kp b (fun σ => passAt tk σ) ha hdb he hpl
/-- C(e, ..), C's own __init__ may raise -/
def tMakeS (C : Addr) (sp : Sp) (E : L2.St → XK) (t : TA) : TE := fun σ H Q => t σ H fun vs H1 => ∀ x dx, H1 x = none → H1 dx = none → dx ≠ x → sp (.ref x :: vs) (upd (upd H1 dx (.own x)) x (.ins C dx [])) (fun v H2 => v = .non ∧ Q (.ref x) H2) (E σ)
structure MakX (P : Program) (w : World) (K : PySem.W.Frag) (mg : Str → Option Value) (base : Heap) (k : Nat) (x : Str) (C : Addr) (sp : Sp) : Prop where
  ex : ∃ (f : Addr) (fd : FuncData) (ps : List Str), Mk K C f ∧ FnOk P w K mg base (L2.CX P w) k f fd ps sp ∧ mg x = some (.ref C) ∧ Binds K fd ps []
theorem pe_mkx {k j : Nat} {C : Addr} {sp : Sp} {W : WX} {t : TA} (c : MakX X.prog X.w X.K X.mg X.base k x C sp) (hr : Room j X.A) (hk : k + 1 ≤ j) (hg : Gl X x) (tk : Takes X W) (ha : PA X (e :: es) t)
    (hdb : (x == ("__debug__" : Str)) = false := by decide) (he : starEach (e :: es) X.env = (false, eval e X.env) :: starEach es X.env := by rfl) (hpl : (backTo pos (starEach es X.env)).any (·.1) = false := by rfl) :
    PE X (.Call (.Name x p) (e :: es) [] pos) (tMakeS C sp (WE W) t) := by
  obtain ⟨f, fd, ps, M, F, hm, b⟩ := c.ex
  refine ⟨fun pins s σ H Q I h => wpAny_Call_Name_kw (ld_glob I hg hm (PySem.W.callWith_K (h₀ := X.base) I.ok.mod.kin M.kp (thn (ha.run pos pins s σ H _ I h) fun us s1 ⟨vs, H1, I1, r, q⟩ => ⟨I1.kIn, ?_⟩) he hpl) hdb)⟩
  have new : ∀ a, s1.heap.objs.size ≤ a → H1 a = none := fun a => I1.hok.fresh
  have q1 := q (s1.heap.objs.size + 1) s1.heap.objs.size (new _ (Nat.le_succ _)) (new _ (Nat.le_refl _)) (Nat.ne_of_lt (Nat.lt_succ_self _))
  have J := Inv.made (C := C) I1
  have rr : Vals (V.ref (s1.heap.objs.size + 1) :: vs) (Value.ref (s1.heap.objs.size + 1) :: us) := .cons rfl r
  have len : (Value.ref (s1.heap.objs.size + 1) :: us).length = ps.length := by rw [← rr.length]; exact F.len _ _ _ _ q1
  have bb := b _ (Value.ref (s1.heap.objs.size + 1) :: us) J.kIn (by rw [List.append_nil]; exact len)
  rw [List.append_nil] at bb
  refine wpAny_call (make_map (f := f) I1.kIn M.makes M.init (beq_iff_eq.mp M.fn) (codeAny_mono (F.run _ X.stack _ _ ⟨_, []⟩ _ _ _ (WE W σ) ((hr.mono hk).make C us []) (J.env0.make C us []) bb rr q1) fun res s2 hres => ?_))
  cases res with
  | error ex => exact passAt tk σ pins _ _ ex s2 J hres
  | ok fl =>
    cases fl with
    | ret u =>
      obtain ⟨v, H', J2, rv, ev, q3⟩ := J.after hres
      subst ev
      exact ⟨rv, ⟨.ref _, H', J2, rfl, q3⟩⟩
    | next => exact hres.elim
    | brk => exact hres.elim
    | cont => exact hres.elim
/-! ### out of a statement that runs while a thing is locked -/
/-- the thing is as it was -/
def wUn (G0 : Hp) (W : WX) : WX := fun cls dd τ G => ∃ (d : Addr) (u : HO) (od : Obj), (∀ o' u', G0 d ≠ some (.frz o' u')) ∧ G d = some (.frz od u) ∧ W cls dd τ (upd G d u)
theorem takes_un {W : WX} (tk : Takes X W) : Takes X (wUn X.H_0 W) := fun v s' h => by
  obtain ⟨a, B, sI, pins, τ, G, cls, dd, ev, I, nb, up, sky, na, eos, bare, d, u, od, h0, hd, hw⟩ := h
  have ne : a ≠ d := fun z => by rw [z, hd] at na; cases na
  exact tk v s' ⟨a, B, sI, pins, τ, upd G d u, cls, dd, ev, I.unlock hd h0, nb, up, sky, (upd_ne ne).trans na, eos, bare, hw⟩
theorem upd_swap {G : Hp} {a b : Addr} {x y : HO} (h : a ≠ b) : upd (upd G a x) b y = upd (upd G b y) a x := by
  funext c
  by_cases ca : c = a
  · subst ca; rw [upd_ne h, upd_same, upd_same]
  · by_cases cb : c = b
    · subst cb; rw [upd_same, upd_ne (Ne.symm h), upd_same]
    · rw [upd_ne cb, upd_ne ca, upd_ne ca, upd_ne cb]
end KnX

set_option Elab.async false
set_option linter.all false
set_option maxRecDepth 100000
set_option maxHeartbeats 4000000
/-! try: .. except A as e: .. except B as e: .. -/
namespace KnX
open PySem PySem.Spec PyProof.Rows L2
/-- behind a suite the name is gone -/
def endsAs (i : Nat) (D : Ends) : Ends := { nx := fun τ G => D.nx (τ.set i none) G, rt := D.rt, bk := fun τ G => D.bk (τ.set i none) G, ct := fun τ G => D.ct (τ.set i none) G }
abbrev Clause := Value × Nat × (Addr → Value → Option Addr → TS)
def wAll (K : PySem.W.Frag) (Wout : WX) (D : Ends) : List Clause → WX
  | [] => Wout
  | q :: r => fun cls d τ G => ∃ yes, PySem.W.exmOne K cls q.1 = some yes ∧ (yes = true → ∀ a, G a = none → q.2.2 a cls d (endsAs q.2.1 D) (τ.set q.2.1 (some (.ref a))) G) ∧ (yes = false → wAll K Wout D r cls d τ G)
inductive HdsAs (X : Cx) : List ExceptHandler → List Clause → Prop
  | nil : HdsAs X [] []
  | cons {x n : Str} {c : Value} {i : Nat} {ts : Addr → Value → Option Addr → TS} {b₀ : Stmt} {suite : List Stmt} {np pe : Pos} {hds : List ExceptHandler} {l : List Clause} (hc : Names X x c) (hi : X.N[i]? = some n) (hln : X.env.kindOf n = some .local)
      (hsu : ∀ (a : Addr) (oe : Obj) (cls : Value) (d : Option Addr) (pn : List (Addr × Obj)), Zc cls d oe → (∃ vs, oe.data = .fields vs) → PSs (X.suite a ((a, oe) :: pn)) (b₀ :: suite) (ts a cls d)) (r : HdsAs X hds l) :
      HdsAs X (.ExceptHandler (some (.Name x np)) (some n) (b₀ :: suite) pe :: hds) ((c, i, ts) :: l)
section
variable {X : Cx} {body : List Stmt} {h₀ : ExceptHandler} {hds : List ExceptHandler} {l : List Clause} {pos : Pos} {tb : WX → TS} {Wout : WX}
theorem ps_try_all (hs : X.stack = X.env :: X.outer) (hf : X.env.frame = some X.env.locals) (hN : X.N.Nodup) (tk : Takes X Wout)
    (hb : ∀ (W : WX) (pn : List (Addr × Obj)) (xe : Value → Shared → Prop), Takes (X.tr pn xe) W → PassesOwn (model X.prog X.w) X.A X.env xe → PSs (X.tr pn xe) body (tb W))
    (hh : HdsAs X (h₀ :: hds) l) : PS X (.Try body (h₀ :: hds) [] [] pos) (fun D σ H => tb (wAll X.K Wout D l) D σ H) := by
  refine ⟨fun pins s0 σ0 H0 D I0 h => ?_⟩
  have okX := I0.ok
  have frX : X.A.frames = some (X.env :: X.outer) := by rw [okX.frames, hs]
  refine wpAny_Try_except (wpAny_mono ((hb (wAll X.K Wout D l) (X.pn ++ pins) (fun ex s₁ => wpAny (model X.prog X.w) X.A (noteFrame ex X.env) (fun _ s₂ => wpAny (model X.prog X.w) X.A (setFlight ex none) (fun _ s₃ =>
    wpAny (model X.prog X.w) X.A (handleBy ex X.env (h₀ :: hds)) (SP X pins D) X.xe s₃) X.xe s₂) X.xe s₁) (fun u st air => ?_) PassesOwn.looking).run [] s0 σ0 H0 D (I0.toTry _) h) (fun fl s1 fin => ?_) (fun ex s1 hx => hx))
  · obtain ⟨a, B, sB, pins2, τ, G, cls, d, rfl, JT, keepB, upB, sky, na, eos, bare, wq⟩ := air
    have J : Inv X pins τ G sB := JT.ofTry okX
    have skyX : Sky B (X.env :: X.outer) a (Zc cls d) X.env.locals st.heap := by rw [← hs]; exact sky
    show wpAny (model X.prog X.w) X.A (noteFrame (.ref a) X.env) _ _ _
    refine Sky.land Zc.steady frX hf skyX fun g1 land1 up1 => ?_
    have J1 : Inv X pins τ G { st with heap := g1 } := J.landed keepB land1.1 (upB.trans up1) eos bare
    obtain ⟨oe1, vs1, ge1, hz1, hd1⟩ := land1.there
    have notIn : a ∉ frs (X.env :: X.outer) := fun hm => by
      obtain ⟨_, o', e', bad⟩ := land1.2.2.1.mem hm
      rw [ge1] at e'
      cases e'
      exact bad _ hd1
    have n1 : a ≠ X.env.locals := fun z => notIn (List.mem_filterMap.mpr ⟨X.env, List.mem_cons_self, by rw [hf, z]⟩)
    have n2 : a ∉ X.fs := fun hm => by
      obtain ⟨fr, hfr, q⟩ := List.mem_filterMap.mp hm
      exact notIn (List.mem_filterMap.mpr ⟨fr, List.mem_cons_of_mem _ hfr, q⟩)
    have S1 := J1.suite ge1 hd1 na n1 n2
    have each : ∀ {hs' : List ExceptHandler} {l' : List Clause}, HdsAs X hs' l' → wAll X.K Wout D l' cls d τ G → wpAny (model X.prog X.w) X.A (handleBy (.ref a) X.env hs') (SP X pins D) X.xe { st with heap := g1 } := by
      intro hs' l' hk
      induction hk with
      | nil =>
        intro wq
        refine wpAny_handleBy_nil ?_
        obtain ⟨_, _, _, oe, vs, T, oT, ts', ge, _, hd, hT, _⟩ := id land1
        unfold PySem.passOn
        refine wpAny_bind (wpAny_field ge hd hT ?_)
        rw [if_neg (show ¬ ((Value.ref T == Value.none) = true) by simp)]
        have out : wpAny (model X.prog X.w) X.A (setFlight (.ref a) X.env.frame) (fun _ s4 => wpAny (model X.prog X.w) X.A (throw (.ref a) : Sem Flow) (SP X pins D) X.xe s4) X.xe { st with heap := g1 } := by
          rw [hf]
          exact HandSPX.setFlight_upZ land1 fun g2 held2 up2 => wpAny_throw (tk _ _ ⟨a, B, sB, pins, τ, G, cls, d, rfl, J, keepB, (upB.trans up1).trans up2, .inr (.inr (by rw [hs]; exact held2)), na, eos, bare, wq⟩)
        first
          | exact wpAny_bind (wpAny_pure (wpAny_bind out))
          | exact wpAny_bind out
      | @cons x n c i ts b₀ suite np pe hds2 l2 hc hi hln hsu r ih =>
        intro wq
        obtain ⟨yes, hyes, wy, wn⟩ := wq
        refine wpAny_handleBy_cons (codeAny_handlers_test ?_) (by intro q; cases q)
        have kind : PySem.W.Looks (model X.prog X.w) g1 (typeOf (.ref a)) cls := fun A Q E s k q => wpAny_typeOf_ref (k _ _ ge1) (by rw [hz1.1]; exact q)
        have asked : ∀ {Q : Value → Shared → Prop} {E : Value → Shared → Prop}, Q c { st with heap := g1 } → wpAny (model X.prog X.w) (X.A.mark (some (.ref a))) (eval (.Name x np) X.env) Q E { st with heap := g1 } := fun {Q E} q => by
          obtain ⟨hg, hdbg, hm | ⟨hm, hv, hnn⟩⟩ := hc
          · exact ld_glob (X := X.suite a ((a, oe1) :: (X.pn ++ pins))) S1 hg hm q hdbg
          · exact ld_blt (X := X.suite a ((a, oe1) :: (X.pn ++ pins))) S1 hg hm hv q hnn hdbg
        refine asked ((PySem.W.exm_one (M := model X.prog X.w) J1.kIn kind hyes).here ?_)
        cases yes with
        | false => exact ih (wn rfl)
        | true =>
          refine codeAny_handlers_suite_as (HandSPX.lands_againZ land1 fun g2 land2 up2 => ?_)
          have J2 : Inv X pins τ G { st with heap := g2 } := J.landed keepB land2.1 ((upB.trans up1).trans up2) eos bare
          obtain ⟨oe2, vs2, ge2, hz2, hd2⟩ := land2.there
          refine store_ok (X := X.suite a ((a, oe2) :: (X.pn ++ pins))) (v := .ref a) (J2.suite ge2 hd2 na n1 n2) hN hi (.inl hln) rfl (fun s5 S5 => ?_) (.inr hln)
          refine wpAny_mono ((hsu a oe2 cls d (X.pn ++ pins) hz2 ⟨_, hd2⟩).run [] s5 _ G _ S5 (wy rfl a na)) (fun fl s6 fin => ?_) (fun _ _ z => False.elim z)
          have gone : ∀ {τ6 : L2.St} {G6 : Hp} {Q : Shared → Prop}, Inv (X.suite a ((a, oe2) :: (X.pn ++ pins))) [] τ6 G6 s6 → (∀ s7, Inv X pins (τ6.set i none) G6 s7 → Q s7) →
              wpAny (model X.prog X.w) X.A (do bindName X.env n .none; unbindBehindTheSuite X.env n pe) (fun _ s7 => Q s7) X.xe s6 := fun {τ6 G6 Q} S6 k => gone_ok (S6.unsuite okX) hN hi hln k
          cases fl with
          | next => obtain ⟨τ6, G6, S6, q6⟩ := fin; exact gone S6 fun s7 J7 => ⟨_, _, J7, q6⟩
          | brk => obtain ⟨τ6, G6, S6, q6⟩ := fin; exact gone S6 fun s7 J7 => ⟨_, _, J7, q6⟩
          | cont => obtain ⟨τ6, G6, S6, q6⟩ := fin; exact gone S6 fun s7 J7 => ⟨_, _, J7, q6⟩
          | ret u => obtain ⟨v6, τ6, G6, S6, r6, q6⟩ := fin; exact gone S6 fun s7 J7 => ⟨_, _, _, J7, r6, q6⟩
    exact each hh wq
  · cases fl with
    | next => obtain ⟨τ, G, J, q⟩ := fin; exact wpAny_execs_nil ⟨τ, G, J.ofTry okX, q⟩
    | brk => obtain ⟨τ, G, J, q⟩ := fin; exact ⟨τ, G, J.ofTry okX, q⟩
    | cont => obtain ⟨τ, G, J, q⟩ := fin; exact ⟨τ, G, J.ofTry okX, q⟩
    | ret u => obtain ⟨v, τ, G, J, r, q⟩ := fin; exact ⟨v, τ, G, J.ofTry okX, r, q⟩
end
end KnX

set_option Elab.async false
set_option linter.all false
set_option maxRecDepth 100000
set_option maxHeartbeats 4000000
/-! Two lists of the very same items, of any depth. -/
namespace KnQ
open PySem PySem.Spec PyProof.Rows L2
/-- an item that equals itself at once -/
def Own : V → Prop
  | .non => True
  | .bl _ => True
  | .int _ => True
  | .str _ => True
  | .ref _ => True
  | _ => False
open PySem.SeqAt in
theorem eq_own {A : Around} {s : Shared} {v : V} {u1 u2 : Value} (o : Own v) (r1 : RelV v u1) (r2 : RelV v u2) : EqAt A s u1 u2 true := by
  cases v with
  | non => cases r1; cases r2; exact EqAt.same _
  | bl b => cases r1; cases r2; exact EqAt.same _
  | ref a => cases r1; cases r2; exact EqAt.same _
  | int i =>
    obtain ⟨t1, rfl⟩ := r1
    obtain ⟨t2, rfl⟩ := r2
    have h := EqAt.int_int (A := A) (s := s) i t1 i t2
    rwa [beq_self_eq_true] at h
  | str z =>
    obtain ⟨t1, rfl⟩ := r1
    obtain ⟨t2, rfl⟩ := r2
    have h := EqAt.str_str (A := A) (s := s) z t1 z t2
    rwa [beq_self_eq_true] at h
  | _ => exact o.elim
section
variable {X : Cx}
theorem op_neOwn (hu : X.A.units < cLine) : OpR X (compareOp .NotEq) (fun x y H Q => ∃ a b xs, x = .ref a ∧ y = .ref b ∧ H a = some (.lst xs) ∧ H b = some (.lst xs) ∧ (∀ v ∈ xs, Own v) ∧ Q (.bl false) H) := by
  intro pins s σ H x y v u Q I rx ry h
  obtain ⟨a, b, xs, rfl, rfl, ea, eb, ho, q⟩ := h
  cases rx
  cases ry
  obtain ⟨i1, r1, p1, _⟩ := I.list (.inl (.inl ea) : SqL X.K H a xs)
  obtain ⟨i2, r2, p2, _⟩ := I.list (.inl (.inl eb) : SqL X.K H b xs)
  have l1 := r1.length
  have l2 := r2.length
  have each : ∀ j (h1 : j < i1.toArray.size) (h2 : j < i2.toArray.size), PySem.SeqAt.EqAt X.A.in1 s i1.toArray[j] i2.toArray[j] ((fun _ => true) j) := fun j h1 h2 => by
    rw [List.size_toArray] at h1 h2
    have hj : j < xs.length := by omega
    have gx : xs[j]? = some xs[j] := List.getElem?_eq_getElem hj
    obtain ⟨u1, g1, k1⟩ := r1.get gx
    obtain ⟨u2, g2, k2⟩ := r2.get gx
    have e1 : i1.toArray[j] = u1 := (List.getElem?_eq_some_iff.mp g1).2
    have e2 : i2.toArray[j] = u2 := (List.getElem?_eq_some_iff.mp g2).2
    rw [e1, e2]
    exact eq_own (ho _ (List.getElem_mem hj)) k1 k2
  have rc := PySem.SeqAt.RcNeAt.lists p1.isList p2.isList (by rw [List.size_toArray, List.size_toArray]; omega) hu each
  have all : (List.range i1.toArray.size).all (fun _ => true) = true := List.all_eq_true.mpr fun _ _ => rfl
  refine rc X.prog X.w X.xe (EP X pins σ Q) ?_
  rw [all]
  exact ⟨.bl false, H, I, rfl, q⟩
end
end KnQ

set_option Elab.async false
set_option linter.all false
set_option maxRecDepth 100000
set_option maxHeartbeats 4000000
/-! t + u, t of any length: an empty t gives u itself. -/
namespace KnX
open PySem PySem.Spec PyProof.Rows L2
section
variable {X : Cx}
def rCatT0 (K : PySem.W.Frag) : R2 := fun x y H Q => ∃ a b xs ys, x = .ref a ∧ y = .ref b ∧ SqT K H a xs ∧ SqT K H b ys ∧ (xs = [] → Q (.ref b) H) ∧ (xs ≠ [] → xs.length + ys.length ≤ sizeLine ∧ (ys = [] → Q (.ref a) H) ∧ (ys ≠ [] → ∀ p, H p = none → Q (.ref p) (upd H p (.tup (xs ++ ys)))))
theorem op_catT0 : OpR X (binaryOp .Add) (rCatT0 X.K) := by
  intro pins s σ H x y v u Q I rx ry h
  obtain ⟨a, b, xs, ys, rfl, rfl, ha, hb, q0, q1⟩ := h
  by_cases z : xs = []
  · subst z
    cases rx
    cases ry
    obtain ⟨its, r1, p1, _⟩ := I.tuple ha
    obtain ⟨its2, r2, p2, _⟩ := I.tuple hb
    have e : its = [] := r1.nil_iff.mpr rfl
    subst e
    obtain ⟨⟨cls, dd, data, sl⟩, ho, hc, n, hd⟩ := p1
    obtain ⟨⟨cls2, dd2, data2, sl2⟩, ho2, hc2, n2, hd2⟩ := p2
    simp only at hc hd hc2 hd2
    subst hc hd hc2 hd2
    exact concat_meets ⟨_, ho, rfl⟩ ⟨_, ho2, rfl⟩ noFill_tuple_add seq_tuple_add PySem.F.slot_tuple_add PySem.F.entry_tuple_add (PySem.F.args_tuple_add_2 _ _)
      (tuple_addW0 a b [].toArray its2.toArray n n2 dd dd2 sl sl2 (by simp)) ⟨ho, ho2, ⟨.ref b, H, I, rfl, q0 rfl⟩⟩
  · obtain ⟨l, h1, h2⟩ := q1 z
    exact op_catT pins s σ H _ _ v u Q I rx ry ⟨a, b, xs, ys, rfl, rfl, ha, hb, z, l, h1, h2⟩
end
end KnX

set_option Elab.async false
set_option linter.all false
set_option maxRecDepth 100000
set_option maxHeartbeats 4000000
/-! Own methods that may raise; a value compared with itself. -/
namespace KnX
open PySem PySem.Spec PyProof.Rows L2
section
variable {X : Cx} {o e : Expr} {es : List Expr} {ta : TE} {t : TA} {C : Addr} {m : Str} {apos pos : Pos}
/-- an own method that may raise, by its promise -/
structure MetX (P : Program) (w : World) (K : PySem.W.Frag) (mg : Str → Option Value) (base : Heap) (k : Nat) (C : Addr) (m : Str) (sp : Sp) : Prop where
  ex : ∃ (f : Addr) (fd : FuncData) (ps : List Str), Cls K C ∧ Meth K C m f ∧ FnOk P w K mg base (L2.CX P w) k f fd ps sp ∧ Binds K fd ps []
def tMethX (C : Addr) (m : Str) (sp : Sp) (E : L2.St → XK) (ta : TE) (t : TA) : TE := fun σ H Q => ta σ H fun x H1 => ∃ a dx fs, x = .ref a ∧ H1 a = some (.ins C dx fs) ∧ fs.lookup m = none ∧ t σ H1 fun vs H2 => sp (x :: vs) H2 Q (E σ)
theorem pe_mtx {pl : Sem Bool} {k j : Nat} {sp : Sp} {W : WX} (c : MetX X.prog X.w X.K X.mg X.base k C m sp) (hr : Room j X.A) (hk : k ≤ j) (tk : Takes X W) (he : PE X o ta) (ha : PA X (e :: es) t)
    (hst : starEach (e :: es) X.env = (false, eval e X.env) :: starEach es X.env := by rfl) (hpl : (backTo pos (starEach es X.env)).any (·.1) = false := by rfl)
    (ht : eval (.Call (.Attribute o m apos) (e :: es) [] pos) X.env = (do
      let ov ← eval o X.env
      standAt apos.atName
      let (f, first) ← holding [ov] (getMethod ov m pl)
      callWith pos f first (backTo pos (starEach (e :: es) X.env)) (backToKw pos (keywordEach [] X.env))) := by rfl) :
    PE X (.Call (.Attribute o m apos) (e :: es) [] pos) (tMethX C m sp (WE W) ta t) := by
  obtain ⟨f, fd, ps, hc, hm, F, b⟩ := c.ex
  refine ⟨fun pins s σ H Q I h => ?_⟩
  refine PySem.W.methodCall_KW (pl := pl) (thn (he.run pins s σ H _ I h) fun u s1 ⟨x, H1, I1, rx, a, dx, fs, ex, ea, l, q⟩ => ?_) ht
  subst ex
  obtain rfl : u = Value.ref a := rx
  refine getmeth_ok I1 ea hc hm l ?_
  refine PySem.W.callWith_K (first := [.ref a]) (h₀ := X.base) I.ok.mod.kin hm.kp (thn (ha.run pos pins s1 σ H1 _ I1 q) fun us s2 ⟨vs, H2, I2, r, q2⟩ => ⟨I2.kIn, ?_⟩) hst hpl
  exact run_fnS (us := .ref a :: us) (vs := .ref a :: vs) F (hr.mono hk) b (passAt tk σ) I2 (.cons rfl r) q2
end
end KnX
namespace KnQ
open PySem PySem.Spec PyProof.Rows L2
/-- what equals itself here -/
def SelfV (H : Hp) : V → Prop
  | .non => True
  | .bl _ => True
  | .int _ => True
  | .str _ => True
  | .ref a => (∃ xs, H a = some (.lst xs) ∧ ∀ v ∈ xs, Own v) ∨ (∃ xs, H a = some (.tup xs) ∧ ∀ v ∈ xs, Own v) ∨ ∃ ks, H a = some (.dK ks) ∧ ∀ p ∈ ks, valV ks p.1 = some p.2 ∧ flatB p.2 = true
  | _ => False
section
variable {X : Cx}
def rSelf : R2 := fun x y H Q => x = y ∧ SelfV H x ∧ Q (.bl true) H
theorem op_eqSelf (hu : X.A.units < cLine) : OpR X (compareOp .Eq) rSelf := by
  intro pins s σ H x y v u Q I rx ry h
  obtain ⟨rfl, hs, q⟩ := h
  have each : ∀ {xs : List V} {i1 : List Value} (r1 : Vals xs i1) (ho : ∀ v ∈ xs, Own v), ∀ j (h1 : j < i1.toArray.size) (h2 : j < i1.toArray.size), PySem.SeqAt.EqAt X.A.in1 s i1.toArray[j] i1.toArray[j] ((fun _ => true) j) := fun {xs i1} r1 ho j h1 h2 => by
    rw [List.size_toArray] at h1
    have l1 := r1.length
    have hj : j < xs.length := by omega
    obtain ⟨u1, g1, k1⟩ := r1.get (List.getElem?_eq_getElem hj)
    have e1 : i1.toArray[j] = u1 := (List.getElem?_eq_some_iff.mp g1).2
    rw [e1]
    exact eq_own (ho _ (List.getElem_mem hj)) k1 k1
  have all : ∀ n, (List.range n).all (fun _ => true) = true := fun n => List.all_eq_true.mpr fun _ _ => rfl
  cases x with
  | non => exact op_eq pins s σ H _ _ v u Q I rx ry ⟨rfl, by rw [decide_eq_true rfl]; exact q⟩
  | bl b => exact op_eq pins s σ H _ _ v u Q I rx ry ⟨rfl, by rw [decide_eq_true rfl]; exact q⟩
  | int i => exact op_eq pins s σ H _ _ v u Q I rx ry ⟨rfl, by rw [decide_eq_true rfl]; exact q⟩
  | str z => exact op_eq pins s σ H _ _ v u Q I rx ry ⟨rfl, by rw [decide_eq_true rfl]; exact q⟩
  | ref a =>
    rcases hs with ⟨xs, ea, ho⟩ | ⟨xs, ea, ho⟩ | ⟨ks, ea, hp⟩
    · cases rx
      cases ry
      obtain ⟨i1, r1, p1, _⟩ := I.list (.inl (.inl ea) : SqL X.K H a xs)
      refine PySem.SeqAt.eq_listAt p1.isList p1.isList rfl hu (each r1 ho) ?_
      rw [all]
      exact ⟨.bl true, H, I, rfl, q⟩
    · cases rx
      cases ry
      obtain ⟨i1, r1, p1⟩ := I.tuple (.inl (.inl ea) : SqT X.K H a xs)
      refine PySem.SeqAt.eq_tupleAt p1.1 p1.1 hu (each r1 ho) ?_
      rw [all]
      simp only [beq_self_eq_true, Bool.and_self]
      exact ⟨.bl true, H, I, rfl, q⟩
    · exact op_eq_dictA hu pins s σ H _ _ v u Q I rx ry ⟨a, a, ks, ks, rfl, rfl, ea, ea, rfl, hp, q⟩
  | _ => exact hs.elim
end
end KnQ

set_option Elab.async false
set_option linter.all false
set_option maxRecDepth 100000
set_option maxHeartbeats 4000000
/-! A built-in value on the left of != , an instance with an own __eq__ on the right. -/
namespace KnW
open PySem PySem.Spec PyProof.Rows L2
section
variable {P : Program} {w : World} {A : Around} {E : Value → Shared → Prop} {s : Shared} {K : PySem.W.Frag} {x C : Addr} {h₀ : Heap} {ox : Obj} {od : Option Obj}
open PySem.W in
theorem not_inst {T : String} {Q : Bool → Shared → Prop} (KI : K.In s.heap) (I : InstAt s.heap x ox C od) (sub : subIn K (.ref C) (.type T) = some false) (h : Q false s) : wpAny (model P w) A (isInstance (.ref x) (.type T)) Q E s := by
  unfold isInstance
  exact wpAny_bind (I.type.here ((looks_subIn KI sub).here h))
abbrev Dec (s : Shared) : Fin → Shared → Prop := fun fin s' => fin = .done (.ret .notImplemented) ∧ s' = s
open PySem.W in
theorem dec_list {l : Addr} (KI : K.In s.heap) (I : InstAt s.heap x ox C od) (sub : subIn K (.ref C) (.type "list") = some false) : wpAny (model P w) A (Builtin.«list.__ne__» ⟨[.ref l, .ref x], []⟩) (Dec s) E s := by
  refine wpAny_bind (?_ : wpAny _ _ (slotArgs _ _ _) _ _ _)
  show wpAny _ _ (pure (Value.ref l, [Value.ref x])) _ _ _
  refine wpAny_pure ?_
  dsimp only
  refine wpAny_bind (not_inst KI I sub ?_)
  rw [if_pos (show (!false) = true from rfl)]
  exact wpAny_pure ⟨rfl, rfl⟩
open PySem.W in
theorem dec_tuple {l : Addr} (KI : K.In s.heap) (I : InstAt s.heap x ox C od) (sub : subIn K (.ref C) (.type "tuple") = some false) : wpAny (model P w) A (Builtin.«tuple.__ne__» ⟨[.ref l, .ref x], []⟩) (Dec s) E s := by
  refine wpAny_bind (?_ : wpAny _ _ (slotArgs _ _ _) _ _ _)
  show wpAny _ _ (pure (Value.ref l, [Value.ref x])) _ _ _
  refine wpAny_pure ?_
  dsimp only
  refine wpAny_bind (not_inst KI I sub ?_)
  rw [if_pos (show (!false) = true from rfl)]
  exact wpAny_pure ⟨rfl, rfl⟩
theorem dec_none {l : Value} : wpAny (model P w) A (Builtin.«NoneType.__ne__» ⟨[l, .ref x], []⟩) (Dec s) E s := by
  refine wpAny_bind (?_ : wpAny _ _ (slotArgs _ _ _) _ _ _)
  show wpAny _ _ (pure (l, [Value.ref x])) _ _ _
  refine wpAny_pure ?_
  exact wpAny_pure ⟨rfl, rfl⟩
open PySem.W in
theorem dec_dict {l : Addr} (KI : K.In s.heap) (I : InstAt s.heap x ox C od) (sub : subIn K (.ref C) (.type "dict") = some false) : wpAny (model P w) A (Builtin.«dict.__ne__» ⟨[.ref l, .ref x], []⟩) (Dec s) E s := by
  refine wpAny_bind (?_ : wpAny _ _ (Builtin.Dict.dictSlotArgs _ _) _ _ _)
  unfold Builtin.Dict.dictSlotArgs
  refine wpAny_bind (?_ : wpAny _ _ (Builtin.Dict.notOrdered _ _) _ _ _)
  unfold Builtin.Dict.notOrdered
  rw [if_neg (by decide +kernel)]
  refine wpAny_pure ?_
  refine wpAny_bind (?_ : wpAny _ _ (slotArgs _ _ _) _ _ _)
  show wpAny _ _ (pure (Value.ref l, [Value.ref x])) _ _ _
  refine wpAny_pure ?_
  refine wpAny_pure ?_
  dsimp only
  refine wpAny_bind (not_inst KI I sub ?_)
  rw [if_pos (show (!false) = true from rfl)]
  exact wpAny_bind (wpAny_rule (wpAny_pure ⟨rfl, rfl⟩))
def notPrim (o : Obj) : Prop := ∀ v, o.data ≠ .prim v
theorem as_int {Q : Option Int → Shared → Prop} (hx : s.heap.get? x = some ox) (np : notPrim ox) (h : Q none s) : wpAny (model P w) A (asInt? (.ref x)) Q E s := by
  show wpAny _ _ (load x >>= _) _ _ _
  refine wpAny_bind (wpAny_load hx ?_)
  split
  · rename_i e; exact (np _ e).elim
  · exact wpAny_pure h
theorem as_str {Q : Option Str → Shared → Prop} (hx : s.heap.get? x = some ox) (np : notPrim ox) (h : Q none s) : wpAny (model P w) A (asStr? (.ref x)) Q E s := by
  show wpAny _ _ (load x >>= _) _ _ _
  refine wpAny_bind (wpAny_load hx ?_)
  split
  · rename_i e; exact (np _ e).elim
  · exact wpAny_pure h
theorem dec_int {i : Int} {t : Tok} (hx : s.heap.get? x = some ox) (np : notPrim ox) : wpAny (model P w) A (Builtin.«int.__ne__» ⟨[.int i t, .ref x], []⟩) (Dec s) E s := by
  refine wpAny_bind (?_ : wpAny _ _ (slotArgs _ _ _) _ _ _)
  show wpAny _ _ (pure (Value.int i t, [Value.ref x])) _ _ _
  refine wpAny_pure ?_
  dsimp only
  refine wpAny_bind (?_ : wpAny _ _ (Builtin.Int.intOfSelf _) _ _ _)
  unfold Builtin.Int.intOfSelf
  refine wpAny_bind (?_ : wpAny _ _ (asInt? (.int i t)) _ _ _)
  show wpAny _ _ (pure (some i)) _ _ _
  refine wpAny_pure (wpAny_pure ?_)
  refine wpAny_bind (as_int hx np ?_)
  exact wpAny_bind (wpAny_rule (wpAny_pure ⟨rfl, rfl⟩))
theorem dec_bool {b : Bool} (hx : s.heap.get? x = some ox) (np : notPrim ox) : wpAny (model P w) A (Builtin.«int.__ne__» ⟨[.bool b, .ref x], []⟩) (Dec s) E s := by
  refine wpAny_bind (?_ : wpAny _ _ (slotArgs _ _ _) _ _ _)
  show wpAny _ _ (pure (Value.bool b, [Value.ref x])) _ _ _
  refine wpAny_pure ?_
  dsimp only
  refine wpAny_bind (?_ : wpAny _ _ (Builtin.Int.intOfSelf _) _ _ _)
  unfold Builtin.Int.intOfSelf
  refine wpAny_bind (?_ : wpAny _ _ (asInt? (.bool b)) _ _ _)
  show wpAny _ _ (pure (some (if b then 1 else 0))) _ _ _
  refine wpAny_pure (wpAny_pure ?_)
  refine wpAny_bind (as_int hx np ?_)
  exact wpAny_bind (wpAny_rule (wpAny_pure ⟨rfl, rfl⟩))
theorem dec_str {i : Str} {t : Tok} (hx : s.heap.get? x = some ox) (np : notPrim ox) : wpAny (model P w) A (Builtin.«str.__ne__» ⟨[.str i t, .ref x], []⟩) (Dec s) E s := by
  refine wpAny_bind (?_ : wpAny _ _ (Builtin.Str.strSlot _ _ _) _ _ _)
  unfold Builtin.Str.strSlot
  refine wpAny_bind (?_ : wpAny _ _ (slotArgs _ _ _) _ _ _)
  show wpAny _ _ (pure (Value.str i t, [Value.ref x])) _ _ _
  refine wpAny_pure ?_
  dsimp only
  refine wpAny_bind (?_ : wpAny _ _ (Builtin.Str.textOf _) _ _ _)
  unfold Builtin.Str.textOf
  refine wpAny_bind (?_ : wpAny _ _ (asStr? (.str i t)) _ _ _)
  show wpAny _ _ (pure (some i)) _ _ _
  refine wpAny_pure (wpAny_pure (wpAny_pure ?_))
  dsimp only
  refine wpAny_bind (as_str hx np ?_)
  exact wpAny_bind (wpAny_rule (wpAny_pure ⟨rfl, rfl⟩))
/-- a built-in value's own __ne__ does not know the instance -/
theorem declines {T id : String} {B : Builtin} {u b : Value} {Q : Option Value → Shared → Prop} (hT : s.TypeIs u T) (slot : Slot T (cmpInfo .NotEq).2.1 id) (entry : entryFor table id = some B) (args : argsOk id ⟨[u, b], []⟩) (body : ∀ E', wpAny (model P w) A.in1 (B ⟨[u, b], []⟩) (Dec s) E' s) (h : Q none s) : wpAny (model P w) A (tryCompare u "__ne__" b) Q E s :=
  wpAny_tryCompare_declines hT slot (wpAny_call (codeAny_call_builtin slot.plain entry (slot.check _ _ _ _ _ _ _ _ hT args (wpAny_mono (body _) (fun fin s' hv => by
    obtain ⟨e1, e2⟩ := hv
    subst e1 e2
    exact ⟨rfl, h⟩) fun _ _ e => e))))
open PySem.W in
theorem ne_try {L f : Addr} {m : Str → Option Value} {b : Value} {Q : Value → Shared → Prop} (hu : A.units + 1 < cLine) (F : Fr h₀ L s.heap m) (X₀ : K.In h₀) (I : InstAt s.heap x ox C od)
    (hne : findIn K (.ref C) "__ne__" = some (some (.builtin "object.__ne__"))) (hob : subIn K (.ref C) (.type "object") = some true) (hs : findIn K (.ref C) "__eq__" = some (some (.ref f))) (hf : isFn K (.ref f) = true)
    (h : wpAny (model P w) A.in1 (call (.ref f) [.ref x, b]) (fun v s' => ∃ c, v = .bool c ∧ Q (.bool (!c)) s') E s) : wpAny (model P w) A (tryCompare (.ref x) "__ne__" b) (fun r s' => ∃ v, r = some v ∧ Q v s') E s := by
  have KI := X₀.keeps F.keep
  have body : wpAny (model P w) A.in1 (Builtin.«object.__ne__» ⟨[.ref x, b], []⟩) (fun fin s' => ∃ v, fin = .done (.ret v) ∧ ∃ c, v = .bool c ∧ Q v s') E s := by
    unfold Builtin.«object.__ne__»
    refine wpAny_bind (?_ : wpAny _ _ (slotArgs _ _ _) _ _ _)
    unfold slotArgs
    show wpAny _ _ (pure (Value.ref x, [b])) _ _ _
    refine wpAny_pure ?_
    dsimp only
    refine wpAny_bind (wpAny_cRoomFor (show A.units + 1 < cLine from hu) ?_)
    refine wpAny_bind (ifBound_K KI I hs hf (wpAny_mono h (fun v s' hv => ?_) fun _ _ e => e))
    obtain ⟨c, rfl, q⟩ := hv
    dsimp only
    refine wpAny_bind (wpAny_truthy_bool ?_)
    exact wpAny_pure ⟨_, rfl, _, rfl, q⟩
  have sig : ∀ {A' : Around} {Q' : Unit → Shared → Prop}, Q' () s → wpAny (model P w) A' (checkBuiltinCall "object.__ne__" ⟨[.ref x, b], []⟩) Q' E s := fun {A' Q'} q => by
    have ha := PySem.F.cmpArgs_ne (.ref x) b
    simp only [checkBuiltinCall, PySem.F.cmpKind_ne, PySem.F.cmpSplit_ne]
    unfold isInstance
    refine wpAny_bind (wpAny_bind (I.type.here ((looks_subIn KI hob).here ?_)))
    simp only [Bool.not_true, Bool.false_eq_true, if_false]
    cases hsig : Manifest.signature? "object.__ne__" with
    | none => exact wpAny_pure q
    | some sg =>
      simp only [argsOk, hsig] at ha
      have h2 : Bind.checkArgs "object.__ne__" sg ⟨[.ref x, b], []⟩ = pure () := ha
      show wpAny _ _ (Bind.checkArgs "object.__ne__" sg ⟨[.ref x, b], []⟩) _ _ _
      rw [h2]; exact wpAny_pure q
  have called : wpAny (model P w) A (call (.builtin "object.__ne__") [.ref x, b]) (fun v s' => ∃ c, v = .bool c ∧ Q v s') E s := by
    refine wpAny_call (codeAny_call_builtin (by decide +kernel) PySem.F.cmpEntry_ne (sig ?_))
    refine wpAny_mono body (fun fin s' hv => ?_) fun _ _ e => e
    obtain ⟨v, rfl, q⟩ := hv
    exact q
  have bnd : bindSpecial (.builtin "object.__ne__") (.ref x) = pure (.builtin "object.__ne__", [.ref x]) := PySem.F.cmp_object.ne.bind _
  have one : wpAny (model P w) A (tryCompare (.ref x) "__ne__" b) (fun r s' => ∃ v, r = some v ∧ Q v s') E s := by
    unfold tryCompare
    refine wpAny_bind (?_ : wpAny _ _ (callSpecialIfBound? _ _ _) _ _ _)
    simp only [callSpecialIfBound?, bindSpecialIfBound?]
    refine wpAny_holding (wpAny_bind (wpAny_bind (?_ : wpAny _ _ (specialOf (.ref x) "__ne__") _ _ _)))
    unfold specialOf
    refine wpAny_bind (I.type.here ((looks_findIn KI hne).here ?_))
    dsimp only
    rw [bnd]
    have fin : ∀ {R : Option Value → Shared → Prop}, (∀ v s', (∃ c, v = .bool c ∧ Q v s') → R (some v) s') → wpAny (model P w) A (call (.builtin "object.__ne__") ([.ref x] ++ [b]) >>= fun v => pure (some v)) R E s := fun {R} k => wpAny_bind (wpAny_mono called (fun v s' hv => wpAny_pure (k v s' hv)) fun _ _ e => e)
    have last : ∀ v s', (∃ c, v = Value.bool c ∧ Q v s') → wpAny (model P w) A (match some v with | some .notImplemented | none => pure none | some v => pure (some v)) (fun r s' => ∃ v, r = some v ∧ Q v s') E s' := fun v s' ⟨c, e, q⟩ => by
      subst e
      exact wpAny_pure ⟨_, rfl, q⟩
    refine wpAny_bind (wpAny_askSetting (wpAny_ite ?_))
    split
    · exact wpAny_bind (wpAny_pure (wpAny_pure (fin last)))
    · exact wpAny_tryCatch (wpAny_bind (wpAny_pure (wpAny_pure (fin last))))
  exact one
open PySem.W in
theorem ne_right {L f : Addr} {m : Str → Option Value} {u : Value} {T : String} {Q : Value → Shared → Prop} (hu : A.units + 1 < cLine) (F : Fr h₀ L s.heap m) (X₀ : K.In h₀) (I : InstAt s.heap x ox C od) (hT : s.TypeIs u T) (sub : subIn K (.ref C) (.type T) = some false)
    (hne : findIn K (.ref C) "__ne__" = some (some (.builtin "object.__ne__"))) (hob : subIn K (.ref C) (.type "object") = some true) (hs : findIn K (.ref C) "__eq__" = some (some (.ref f))) (hf : isFn K (.ref f) = true)
    (dec : ∀ {Q' : Option Value → Shared → Prop}, Q' none s → wpAny (model P w) A (tryCompare u "__ne__" (.ref x)) Q' E s)
    (h : wpAny (model P w) A.in1 (call (.ref f) [.ref x, u]) (fun v s' => ∃ c, v = .bool c ∧ Q (.bool (!c)) s') E s) : wpAny (model P w) A (richCompare .NotEq u (.ref x)) Q E s := by
  have KI := X₀.keeps F.keep
  have one := ne_try hu F X₀ I hne hob hs hf h
  simp only [richCompare, hT.oneThing_none]
  refine wpAny_holding (wpAny_bind (wpAny_cRoomFor (show A.units < cLine by omega) ?_))
  refine wpAny_bind (wpAny_typeOf hT (wpAny_bind (I.type.here ?_)))
  have ne : (Value.type T != Value.ref C) = true := by simp
  rw [if_pos ne]
  refine wpAny_bind ((looks_subIn KI sub).here ?_)
  simp only [Bool.false_eq_true, if_false, Bool.not_false, if_true]
  refine wpAny_bind (m := tryCompare u _ (.ref x)) (dec ?_)
  exact wpAny_bind (m := tryCompare (.ref x) _ u) (wpAny_mono one (fun r s' ⟨v, ev, q⟩ => by subst ev; exact wpAny_pure q) fun _ _ e => e)
end
/-- a built-in value of the kinds that are compared here -/
inductive PlainAt (H : Hp) : V → Prop where
  | non : PlainAt H .non
  | bl (b : Bool) : PlainAt H (.bl b)
  | int (i : Int) : PlainAt H (.int i)
  | str (z : Str) : PlainAt H (.str z)
  | lst {a : Addr} {xs : List V} (e : H a = some (.lst xs)) : PlainAt H (.ref a)
  | tup {a : Addr} {xs : List V} (e : H a = some (.tup xs)) : PlainAt H (.ref a)
  | dK {a : Addr} {kvs : List (Key × V)} (e : H a = some (.dK kvs)) : PlainAt H (.ref a)
section
variable {X : Cx} {k j : Nat} {C : Addr} {sp : Sp}
structure NoSub (K : PySem.W.Frag) (C : Addr) : Prop where
  non : PySem.W.subIn K (.ref C) (.type "NoneType") = some false
  bl : PySem.W.subIn K (.ref C) (.type "bool") = some false
  int : PySem.W.subIn K (.ref C) (.type "int") = some false
  str : PySem.W.subIn K (.ref C) (.type "str") = some false
  lst : PySem.W.subIn K (.ref C) (.type "list") = some false
  tup : PySem.W.subIn K (.ref C) (.type "tuple") = some false
  dct : PySem.W.subIn K (.ref C) (.type "dict") = some false
def rNeR (C : Addr) (sp : Sp) : R2 := fun x y H Q => ∃ a dx fs, y = .ref a ∧ H a = some (.ins C dx fs) ∧ PlainAt H x ∧ sp [.ref a, x] H (fun v H' => ∃ c, v = .bl c ∧ Q (.bl (!c)) H') E0
theorem op_neR (c : Own X.prog X.w X.K X.mg X.base k C "__eq__" sp) (hne : PySem.W.findIn X.K (.ref C) "__ne__" = some (some (.builtin "object.__ne__"))) (hob : PySem.W.subIn X.K (.ref C) (.type "object") = some true) (ns : NoSub X.K C) (hr : Room j X.A) (hk : k + 1 ≤ j) : OpR X (compareOp .NotEq) (rNeR C sp) := by
  obtain ⟨f, fd, ps, h1, h2, h3, F, bb⟩ := c.ex
  intro pins s σ H x y v u Q I rx ry hq
  obtain ⟨a, dx, fs, rfl, ha, pl, q⟩ := hq
  cases ry
  obtain ⟨mA, J, _⟩ := ins_get I.hok ha
  obtain ⟨od, J, _⟩ := J.look
  obtain ⟨m, hF⟩ := I.fr
  have KI := I.kIn
  have np : notPrim (PySem.W.instObj C dx) := fun v e => by cases e
  have call_ : wpAny (model X.prog X.w) X.A.in1 (call (.ref f) [.ref a, v]) (fun r s' => ∃ c, r = .bool c ∧ EP X pins σ Q (.bool (!c)) s') X.xe s := by
    refine wpAny_mono (run_in1 (vs := [.ref a, x]) (us := [.ref a, v]) F (hr.mono hk) bb pass0 I (.cons rfl (.cons rx .nil)) q) (fun r s' hv => ?_) fun _ _ e => e
    obtain ⟨z, H', I', rz, c, ez, q2⟩ := hv
    subst ez
    cases rz
    exact ⟨c, rfl, .bl (!c), H', I', rfl, q2⟩
  have hu : X.A.units + 1 < cLine := by have := hr.un; omega
  show wpAny (model X.prog X.w) X.A (richCompare .NotEq v (.ref a)) (EP X pins σ Q) X.xe s
  have jx := J.at_
  cases pl with
  | non =>
    cases (show v = Value.none from rx)
    exact ne_right (T := "NoneType") hu hF I.ok.mod.kin J rfl ns.non hne hob h1 h2 (fun {Q'} h => declines rfl PySem.F.slot_NoneType_ne PySem.F.entry_NoneType_ne (PySem.F.args_NoneType_ne_2 _ _) (fun E' => dec_none) h) call_
  | bl b =>
    cases (show v = Value.bool b from rx)
    exact ne_right (T := "bool") hu hF I.ok.mod.kin J rfl ns.bl hne hob h1 h2 (fun {Q'} h => declines rfl PySem.F.slot_bool_ne PySem.F.entry_int_ne (PySem.F.args_int_ne_2 _ _) (fun E' => dec_bool jx np) h) call_
  | int i =>
    obtain ⟨t, rfl⟩ := (show ∃ t, v = Value.int i t from rx)
    exact ne_right (T := "int") hu hF I.ok.mod.kin J rfl ns.int hne hob h1 h2 (fun {Q'} h => declines rfl PySem.F.slot_int_ne PySem.F.entry_int_ne (PySem.F.args_int_ne_2 _ _) (fun E' => dec_int jx np) h) call_
  | str z =>
    obtain ⟨t, rfl⟩ := (show ∃ t, v = Value.str z t from rx)
    exact ne_right (T := "str") hu hF I.ok.mod.kin J rfl ns.str hne hob h1 h2 (fun {Q'} h => declines rfl PySem.F.slot_str_ne PySem.F.entry_str_ne (PySem.F.args_str_ne_2 _ _) (fun E' => dec_str jx np) h) call_
  | @lst l xs e =>
    cases (show v = Value.ref l from rx)
    obtain ⟨its, r1, p1, _⟩ := I.list (.inl (.inl e) : SqL X.K H l xs)
    have hT := p1.isList.typeIs
    exact ne_right (T := "list") hu hF I.ok.mod.kin J hT ns.lst hne hob h1 h2 (fun {Q'} h => declines hT PySem.F.slot_list_ne PySem.F.entry_list_ne (PySem.F.args_list_ne_2 _ _) (fun E' => dec_list KI J ns.lst) h) call_
  | @tup l xs e =>
    cases (show v = Value.ref l from rx)
    obtain ⟨its, r1, p1, _⟩ := I.tuple (.inl (.inl e) : SqT X.K H l xs)
    have hT := p1.typeIs
    exact ne_right (T := "tuple") hu hF I.ok.mod.kin J hT ns.tup hne hob h1 h2 (fun {Q'} h => declines hT PySem.F.slot_tuple_ne PySem.F.entry_tuple_ne (PySem.F.args_tuple_ne_2 _ _) (fun E' => dec_tuple KI J ns.tup) h) call_
  | @dK l kvs e =>
    cases (show v = Value.ref l from rx)
    obtain ⟨_, ya, va, ra, da⟩ := (show ObjOk X.prog X.w H s.heap l (.dK kvs) from I.hok l _ e)
    have hT : s.TypeIs (.ref l) "dict" := by
      obtain ⟨o, _, _, ho, hc, _⟩ := da
      exact ⟨o, ho, hc.1⟩
    exact ne_right (T := "dict") hu hF I.ok.mod.kin J hT ns.dct hne hob h1 h2 (fun {Q'} h => declines hT PySem.F.slot_dict_ne PySem.F.entry_dict_ne (PySem.F.args_dict_ne_2 _ _) (fun E' => dec_dict KI J ns.dct) h) call_
end
end KnW

set_option Elab.async false
set_option linter.all false
set_option maxRecDepth 100000
set_option maxHeartbeats 4000000
/-! An own __setitem__ that may raise; bool(d), bool(o) by an own __bool__. -/
namespace KnW
open PySem PySem.Spec PyProof.Rows L2
structure OwnX (P : Program) (w : World) (K : PySem.W.Frag) (mg : Str → Option Value) (base : Heap) (k : Nat) (C : Addr) (m : Str) (sp : Sp) : Prop where
  ex : ∃ (f : Addr) (fd : FuncData) (ps : List Str), PySem.W.findIn K (.ref C) m = some (some (.ref f)) ∧ PySem.W.isFn K (.ref f) = true ∧ PySem.W.fnIn K f = true ∧ FnOk P w K mg base (L2.CX P w) k f fd ps sp ∧ Binds K fd ps []
section
variable {X : Cx} {k j : Nat} {C : Addr} {sp : Sp} {pos : Pos} {o i : Expr} {to ti : TE}
def gSubX (to ti : TE) (C : Addr) (sp : Sp) (E : L2.St → XK) : TG := fun v σ H Q => to σ H fun x H1 => ti σ H1 fun y H2 => ∃ a dx fs, x = .ref a ∧ H2 a = some (.ins C dx fs) ∧ sp [.ref a, y, v] H2 (fun _ H3 => Q σ H3) (E σ)
theorem pg_subX {W : WX} (c : OwnX X.prog X.w X.K X.mg X.base k C "__setitem__" sp) (nq : PySem.W.noSeq X.K C = true) (hr : Room j X.A) (hk : k ≤ j) (tk : Takes X W) (ho : PE X o to) (hi : PE X i ti)
    (ha : ∀ v, assign (.Subscript o i pos) X.env v = (do
      let ov ← holding [v] (eval o X.env)
      let iv ← holding [v, ov] (eval i X.env)
      standAt pos
      holding [v, ov, iv] (setItem ov iv v)
      release [v, ov, iv] []) := by intro _; rfl) : PG X (.Subscript o i pos) (gSubX to ti C sp (WE W)) := by
  obtain ⟨f, fd, ps, h1, h2, h3, F, bb⟩ := c.ex
  refine ⟨fun pins s σ H v u Q I r h => ?_⟩
  rw [ha]
  refine wpAny_bind (wpAny_holding (thn (ho.run pins s σ H _ I h) fun ov s1 ⟨x, H1, I1, r1, q1⟩ => ?_))
  refine wpAny_bind (wpAny_holding (thn (hi.run pins s1 σ H1 _ I1 q1) fun iv s2 ⟨y, H2, I2, r2, q2⟩ => ?_))
  obtain ⟨a, dx, fs, rfl, ea, q⟩ := q2
  cases r1
  obtain ⟨mA, J, _⟩ := ins_get I2.hok ea
  obtain ⟨od, J, _⟩ := J.look
  obtain ⟨m, hF⟩ := I2.fr
  refine wpAny_bind (wpAny_standAt (wpAny_bind (wpAny_holding ?_)))
  refine PySem.W.ksp_setItem hF I2.ok.mod.kin J nq h1 h2 ?_
  have r3 : Vals [V.ref a, y, v] [Value.ref a, iv, u] := .cons rfl (.cons r2 (.cons r .nil))
  refine thn (run_fnS (us := [.ref a, iv, u]) (vs := [.ref a, y, v]) F (hr.mono hk) bb (passAt tk σ) I2 r3 q) fun z s3 ⟨_, H3, I3, _, q3⟩ => ?_
  exact wpAny_release ⟨σ, H3, I3, q3⟩
theorem call_boolW {P : Program} {w : World} {A : Around} {E : Value → Shared → Prop} {s : Shared} {x : Value} {Q : Value → Shared → Prop} (h : wpAny (model P w) A.in1.in1 (truthy x) (fun b s' => Q (.bool b) s') E s) : wpAny (model P w) A (call (.type "bool") [x]) Q E s :=
  callType_newIn (S := fun A' R s' => wpAny (model P w) A'.in1 (truthy x) (fun b s'' => R (.ok (.ret (.bool b))) s'') (fun e s'' => R (.error e) s'') s') F.called_bool F.newNe_bool (F.typeCall_bool_1 x) (F.newCall_bool_1 x) (fun obj => F.args_object_init_2 obj x) F.entry_bool_new
    (.of_wp fun A' R s' h' => by
      obtain ⟨hp, g, d, tk, os⟩ := s'
      have f1 := F.conv_sub_bool
      repeat (any_goals (first | assumption | wp_step))
      exact wpAny_mono h' (fun b s'' q => wpAny_pure ⟨_, rfl, q⟩) fun _ _ e => e) (wpAny_mono h (fun b s' q => ⟨rfl, q⟩) fun _ _ e => e)
def rOwnBool (C : Addr) (sp : Sp) : List V → Hp → VK → Prop := fun xs H Q => ∃ a dx fs, xs = [.ref a] ∧ H a = some (.ins C dx fs) ∧ sp [.ref a] H (fun v H' => ∃ b, v = .bl b ∧ Q (.bl b) H') E0
theorem cr_ownBool (c : Own X.prog X.w X.K X.mg X.base k C "__bool__" sp) (hr : Room j X.A) (hk : k + 2 ≤ j) : CallR X (.type "bool") (rOwnBool C sp) := by
  obtain ⟨f, fd, ps, h1, h2, h3, F, bb⟩ := c.ex
  intro pins s σ H xs us Q I r hq
  obtain ⟨a, dx, fs, rfl, ha, q⟩ := hq
  obtain ⟨u, rfl, rx⟩ := vals1 r
  cases rx
  obtain ⟨mA, J, _⟩ := ins_get I.hok ha
  obtain ⟨od, J, _⟩ := J.look
  refine call_boolW ?_
  unfold truthy
  dsimp only
  refine wpAny_bind (PySem.W.special_fn I.kIn J h1 (beq_iff_eq.mp h2) ?_)
  have hl : ([Value.ref a] : List Value).length = ps.length := F.len _ _ _ _ q
  have hb' := bb s [.ref a] I.kIn (by simpa using hl)
  rw [List.append_nil] at hb'
  refine wpAny_call (codeAny_mono (F.run X.A.in1.in1 X.stack s H ⟨[.ref a], []⟩ [.ref a] [.ref a] _ E0 (hr.mono hk).in1.in1 I.env0.in1.in1 hb' (.cons rfl .nil) q) fun r s' hq => ?_)
  cases r with
  | error e => exact pass0 pins σ H s e s' I hq
  | ok fl =>
    cases fl with
    | ret u =>
      obtain ⟨z, H', I', rz, b, ez, q2⟩ := I.after hq
      subst ez
      cases rz
      exact wpAny_pure ⟨.bl b, H', I', rfl, q2⟩
    | next => exact False.elim hq
    | brk => exact False.elim hq
    | cont => exact False.elim hq
theorem cr_boolD : CallR X (.type "bool") (fun xs H Q => ∃ a kvs, xs = [.ref a] ∧ H a = some (.dK kvs) ∧ Q (.bl (!kvs.isEmpty)) H) := by
  intro pins s σ H xs us Q I r hq
  obtain ⟨a, kvs, rfl, ha, q⟩ := hq
  obtain ⟨u, rfl, rx⟩ := vals1 r
  cases rx
  refine call_boolW ?_
  exact d_truth I (.inl ha) fun s' I' => ⟨.bl (!kvs.isEmpty), H, I', rfl, q⟩
end
end KnW

set_option Elab.async false
set_option linter.all false
set_option maxRecDepth 100000
set_option maxHeartbeats 4000000
namespace Kn
open PySem PySem.Spec PyProof.Rows L2
open C8 (Cal pe_c pe_gc Mak pe_mk)
def topS (i : Nat) : Stmt := PySem.Challenge.pw_knownlate_k11_whole_items_of_a_watch.main.body.getD i (.Pass ⟨0, 0, 0, 0⟩)
abbrev s__law_mix : Stmt := topS 17
theorem sc__law_mix : FnScope ["_law_cell_here", "_law_k", "_law_number"] ["_law_cell_here", "_law_k"] (defScope s__law_mix) := ⟨rfl, rfl, rfl, by decide +kernel, rfl, by decide +kernel, by decide +kernel⟩
abbrev s__law_row : Stmt := topS 19
theorem sc__law_row : FnScope ["_law_cell_here", "_law_sizes", "_law_row_here", "_law_rest", "_law_k"] ["_law_cell_here", "_law_sizes"] (defScope s__law_row) := ⟨rfl, rfl, rfl, by decide +kernel, rfl, by decide +kernel, by decide +kernel⟩
abbrev s__law_names : Stmt := topS 20
theorem sc__law_names : FnScope ["_law_cell_here", "_law_many", "_law_row_here", "_law_names_here", "_law_k", "_law_own", "_law_text", "_law_at", "_law_letter", "_law_digit"] ["_law_cell_here", "_law_many"] (defScope s__law_names) := ⟨rfl, rfl, rfl, by decide +kernel, rfl, by decide +kernel, by decide +kernel⟩
abbrev s__law_cell : Stmt := topS 18
theorem sc__law_cell : FnScope ["_law_script", "_law_k"] ["_law_script", "_law_k"] (defScope s__law_cell) := ⟨rfl, rfl, rfl, by decide +kernel, rfl, by decide +kernel, by decide +kernel⟩
abbrev s_is_name : Stmt := topS 8
theorem sc_is_name : FnScope ["value", "letter"] ["value"] (defScope s_is_name) := ⟨rfl, rfl, rfl, by decide +kernel, rfl, by decide +kernel, by decide +kernel⟩
abbrev s_is_sights : Stmt := topS 12
theorem sc_is_sights : FnScope ["value", "word", "sight"] ["value"] (defScope s_is_sights) := ⟨rfl, rfl, rfl, by decide +kernel, rfl, by decide +kernel, by decide +kernel⟩
abbrev s_Watch_init : Stmt := inClass (topS 11) 0
theorem sc_Watch_init : FnScope ["self", "sights"] ["self", "sights"] (defScope s_Watch_init) := ⟨rfl, rfl, rfl, by decide +kernel, rfl, by decide +kernel, by decide +kernel⟩
abbrev s__law_deep : Stmt := topS 24
theorem sc__law_deep : FnScope ["_law_many", "_law_thing_here", "_law_k"] ["_law_many"] (defScope s__law_deep) := ⟨rfl, rfl, rfl, by decide +kernel, rfl, by decide +kernel, by decide +kernel⟩
abbrev s__law_thing : Stmt := topS 25
theorem sc__law_thing : FnScope ["_law_digit", "_law_things"] ["_law_digit"] (defScope s__law_thing) := ⟨rfl, rfl, rfl, by decide +kernel, rfl, by decide +kernel, by decide +kernel⟩
abbrev s_Watch_setitem : Stmt := inClass (topS 11) 3
theorem sc_Watch_setitem : FnScope ["self", "at", "worth"] ["self", "at", "worth"] (defScope s_Watch_setitem) := ⟨rfl, rfl, rfl, by decide +kernel, rfl, by decide +kernel, by decide +kernel⟩
abbrev s__law_set : Stmt := topS 26
theorem sc__law_set : FnScope ["_law_watch", "_law_word", "_law_sight", "e"] ["_law_watch", "_law_word", "_law_sight"] (defScope s__law_set) := ⟨rfl, rfl, rfl, by decide +kernel, rfl, by decide +kernel, by decide +kernel⟩
abbrev s__law_flag : Stmt := topS 22
theorem sc__law_flag : FnScope ["_law_told", "_law_due"] ["_law_told", "_law_due"] (defScope s__law_flag) := ⟨rfl, rfl, rfl, by decide +kernel, rfl, by decide +kernel, by decide +kernel⟩
abbrev s_Watch_words : Stmt := inClass (topS 11) 15
theorem sc_Watch_words : FnScope ["self"] ["self"] (defScope s_Watch_words) := ⟨rfl, rfl, rfl, by decide +kernel, rfl, by decide +kernel, by decide +kernel⟩
abbrev s_Watch_sights : Stmt := inClass (topS 11) 16
theorem sc_Watch_sights : FnScope ["self"] ["self"] (defScope s_Watch_sights) := ⟨rfl, rfl, rfl, by decide +kernel, rfl, by decide +kernel, by decide +kernel⟩
abbrev s__law_is_integer : Stmt := topS 21
theorem sc__law_is_integer : FnScope ["_law_thing_here"] ["_law_thing_here"] (defScope s__law_is_integer) := ⟨rfl, rfl, rfl, by decide +kernel, rfl, by decide +kernel, by decide +kernel⟩
abbrev s__law_exact : Stmt := topS 23
theorem sc__law_exact : FnScope ["_law_told", "_law_due", "_law_k"] ["_law_told", "_law_due"] (defScope s__law_exact) := ⟨rfl, rfl, rfl, by decide +kernel, rfl, by decide +kernel, by decide +kernel⟩
abbrev s_Watch_len : Stmt := inClass (topS 11) 5
theorem sc_Watch_len : FnScope ["self"] ["self"] (defScope s_Watch_len) := ⟨rfl, rfl, rfl, by decide +kernel, rfl, by decide +kernel, by decide +kernel⟩
abbrev s_Watch_bool : Stmt := inClass (topS 11) 6
theorem sc_Watch_bool : FnScope ["self"] ["self"] (defScope s_Watch_bool) := ⟨rfl, rfl, rfl, by decide +kernel, rfl, by decide +kernel, by decide +kernel⟩
abbrev s_Watch_getitem : Stmt := inClass (topS 11) 2
theorem sc_Watch_getitem : FnScope ["self", "at"] ["self", "at"] (defScope s_Watch_getitem) := ⟨rfl, rfl, rfl, by decide +kernel, rfl, by decide +kernel, by decide +kernel⟩
abbrev s_Watch_contains : Stmt := inClass (topS 11) 4
theorem sc_Watch_contains : FnScope ["self", "x"] ["self", "x"] (defScope s_Watch_contains) := ⟨rfl, rfl, rfl, by decide +kernel, rfl, by decide +kernel, by decide +kernel⟩
abbrev s__law_right : Stmt := topS 27
theorem sc__law_right : FnScope ["_law_watch", "_law_table", "_law_names_here", "_law_thing_here", "_law_words", "_law_sights", "_law_turn", "_law_told", "_law_seen", "_law_name", "_law_word"] ["_law_watch", "_law_table", "_law_names_here", "_law_thing_here"] (defScope s__law_right) := ⟨rfl, rfl, rfl, by decide +kernel, rfl, by decide +kernel, by decide +kernel⟩
abbrev s_Watch_eq : Stmt := inClass (topS 11) 1
theorem sc_Watch_eq : FnScope ["self", "other"] ["self", "other"] (defScope s_Watch_eq) := ⟨rfl, rfl, rfl, by decide +kernel, rfl, by decide +kernel, by decide +kernel⟩
abbrev s_Watch_copy : Stmt := inClass (topS 11) 17
theorem sc_Watch_copy : FnScope ["self"] ["self"] (defScope s_Watch_copy) := ⟨rfl, rfl, rfl, by decide +kernel, rfl, by decide +kernel, by decide +kernel⟩
abbrev s_law : Stmt := topS 28
theorem sc_law : FnScope ["_law_script", "_law_names_here", "_law_watch", "_law_table", "_law_k", "_law_row_here", "_law_word", "_law_sight", "_law_thing_here", "_law_wrong", "_law_other"] ["_law_script"] (defScope s_law) := ⟨rfl, rfl, rfl, by decide +kernel, rfl, by decide +kernel, by decide +kernel⟩
structure Txt (K : PySem.W.Frag) (mg : Str → Option Value) (D : Addr) : Prop where
  m_all : mg "all" = none
  m_bool : mg "bool" = none
  m_dict : mg "dict" = none
  m_int : mg "int" = none
  m_isinstance : mg "isinstance" = none
  m_len : mg "len" = none
  m_list : mg "list" = none
  m_max : mg "max" = none
  m_min : mg "min" = none
  m_range : mg "range" = none
  m_set : mg "set" = none
  m_sorted : mg "sorted" = none
  m_str : mg "str" = none
  m_tuple : mg "tuple" = none
  c_LONGEST_NAME : ∃ u, mg "LONGEST_NAME" = some u ∧ RelV (.int 12) u
  c_LETTERS : ∃ u, mg "LETTERS" = some u ∧ RelV (.str "abcdefghijklmnopqrstuvwxyz") u
  cl_Watch : Cls K D
  g_Watch : mg "Watch" = some (.ref D)
  ins_Watch : C8.InsC K D
  n__sights : NoAttr K D "_sights"
  nq_Watch : PySem.W.noSeq K D = true
  ne_Watch : PySem.W.findIn K (.ref D) "__ne__" = some (some (.builtin "object.__ne__"))
  sob_Watch : PySem.W.subIn K (.ref D) (.type "object") = some true
  sN_Watch : PySem.W.subIn K (.ref D) (.type "NoneType") = some false
  sB_Watch : PySem.W.subIn K (.ref D) (.type "bool") = some false
  sI_Watch : PySem.W.subIn K (.ref D) (.type "int") = some false
  sS_Watch : PySem.W.subIn K (.ref D) (.type "str") = some false
  sL_Watch : PySem.W.subIn K (.ref D) (.type "list") = some false
  sT_Watch : PySem.W.subIn K (.ref D) (.type "tuple") = some false
  sD_Watch : PySem.W.subIn K (.ref D) (.type "dict") = some false
  ic_W : PySem.W.isClsIn K D = true
  it_W : PySem.W.typeIn K (.ref D) = some (.type "type")
structure Es where
  BadWord : Addr
structure TxE (K : PySem.W.Frag) (mg : Str → Option Value) (ce : Es) : Prop where
  g_BadWord : mg "BadWord" = some (.ref ce.BadWord)
  f_BadWord : XfC K ce.BadWord
  o_BadWord : PySem.W.findIn K (.ref ce.BadWord) "value" = some none
  x_BadWord_BadWord : PySem.W.exmOne K (.ref ce.BadWord) (.ref ce.BadWord) = some true
theorem szl {α : Type} {l : List α} (h : Nat.ble l.length 100000 = true) : l.length ≤ sizeLine := smallE (Nat.le_of_ble_eq_true h)
/-! ### values -/
inductive Val (K : PySem.W.Frag) (H : Hp) : V → Prop where
  | non : Val K H .non
  | bl (b : Bool) : Val K H (.bl b)
  | int (i : Int) : Val K H (.int i)
  | str (z : Str) (h : z.cps.size ≤ 100) : Val K H (.str z)
  | lst {a : Addr} {xs : List V} (e : H a = some (.lst xs)) : Val K H (.ref a)
  | tup {a : Addr} {xs : List V} (e : H a = some (.tup xs)) : Val K H (.ref a)
  | dK {a : Addr} {kvs : List (Key × V)} (e : H a = some (.dK kvs)) : Val K H (.ref a)
theorem Val.mono {K : PySem.W.Frag} {H H' : Hp} {v : V} (h : Val K H v) (s : Same H H') : Val K H' v := by
  cases h with
  | non => exact .non
  | bl b => exact .bl b
  | int i => exact .int i
  | str z h => exact .str z h
  | lst e => exact .lst (s _ _ e)
  | tup e => exact .tup (s _ _ e)
  | dK e => exact .dK (s _ _ e)
def isS : V → Bool
  | .str _ => true
  | _ => false
def isI : V → Bool
  | .int _ => true
  | .bl _ => true
  | _ => false
def isB : V → Bool
  | .bl _ => true
  | _ => false
theorem Val.ty {K : PySem.W.Frag} {H : Hp} {v : V} (h : Val K H v) : ∃ t, TyX K H v t ∧ PySem.W.kitOne K t (.type "str") = some (isS v) ∧ PySem.W.kitOne K t (.type "int") = some (isI v) ∧ PySem.W.kitOne K t (.type "bool") = some (isB v) := by
  cases h with
  | non => exact ⟨_, .base .non, kit_ty (show kitB "NoneType" "str" = some false by decide +kernel), kit_ty (show kitB "NoneType" "int" = some false by decide +kernel), kit_ty (show kitB "NoneType" "bool" = some false by decide +kernel)⟩
  | bl b => exact ⟨_, .base (.bl b), kit_ty (show kitB "bool" "str" = some false by decide +kernel), kit_ty (show kitB "bool" "int" = some true by decide +kernel), kit_ty (show kitB "bool" "bool" = some true by decide +kernel)⟩
  | int i => exact ⟨_, .base (.int i), kit_ty (show kitB "int" "str" = some false by decide +kernel), kit_ty (show kitB "int" "int" = some true by decide +kernel), kit_ty (show kitB "int" "bool" = some false by decide +kernel)⟩
  | str z h => exact ⟨_, .base (.str z), kit_ty (show kitB "str" "str" = some true by decide +kernel), kit_ty (show kitB "str" "int" = some false by decide +kernel), kit_ty (show kitB "str" "bool" = some false by decide +kernel)⟩
  | lst e => exact ⟨_, .base (.lst e), kit_ty (show kitB "list" "str" = some false by decide +kernel), kit_ty (show kitB "list" "int" = some false by decide +kernel), kit_ty (show kitB "list" "bool" = some false by decide +kernel)⟩
  | tup e => exact ⟨_, .base (.tup e), kit_ty (show kitB "tuple" "str" = some false by decide +kernel), kit_ty (show kitB "tuple" "int" = some false by decide +kernel), kit_ty (show kitB "tuple" "bool" = some false by decide +kernel)⟩
  | dK e => exact ⟨_, .base (.dK e), kit_ty (show kitB "dict" "str" = some false by decide +kernel), kit_ty (show kitB "dict" "int" = some false by decide +kernel), kit_ty (show kitB "dict" "bool" = some false by decide +kernel)⟩
/-! ### what is computed -/
def letters : Str := "abcdefghijklmnopqrstuvwxyz"
def inL (c : Nat) : Bool := decide (c ∈ letters.cps.toList)
def nameB : V → Bool
  | .str z => decide (1 ≤ z.cps.size) && decide (z.cps.size ≤ 12) && z.cps.toList.all inL
  | _ => false
def wholeB (v : V) : Bool := isI v && !isB v
def stateB : V → Bool
  | .int i => decide (0 ≤ i) && decide (i ≤ 99)
  | _ => false
/-! ### promises -/
def spPure (g : V → Bool) (K : PySem.W.Frag) : Sp := fun vs H Q _ => ∃ v, vs = [v] ∧ Val K H v ∧ ∀ H', Same H H' → Q (.bl (g v)) H'
def sp_is_name := spPure nameB
def sp__law_is_name := spPure nameB
def sp_is_whole := spPure wholeB
def sp__law_is_integer := spPure wholeB
def sp_is_state := spPure stateB
def sp__law_is_state := spPure stateB
def sp__law_flag (_ : PySem.W.Frag) : Sp := fun vs H Q _ => ∃ a b, vs = [.bl a, .bl b] ∧ Q (.bl (decide (a = b))) H
def sp__law_mix (_ : PySem.W.Frag) : Sp := fun vs H Q _ => ∃ c k : Int, vs = [.int c, .int k] ∧ ∀ r : Int, 0 ≤ r → r < 2147483399 → Q (.int r) H
def sp__law_cell (K : PySem.W.Frag) : Sp := fun vs H Q _ => ∃ (a : Addr) (ns : List Int) (k : Nat), vs = [.ref a, .int (k : Int)] ∧ SqL K H a (ns.map V.int) ∧ ∀ r : Int, Q (.int r) H
def sp__law_row (K : PySem.W.Frag) : Sp := fun vs H Q _ => ∃ (c : Int) (b : Addr) (ss : List Int), vs = [.int c, .ref b] ∧ SqL K H b (ss.map V.int) ∧ ss.length ≤ 1000 ∧ (∀ s ∈ ss, 0 < s ∧ s < 1073741824) ∧
  ∀ H' p (rs : List Int), Same H H' → H p = none → H' p = some (.lst (rs.map V.int)) → rs.length = ss.length → (∀ (i : Nat) (r s : Int), rs[i]? = some r → ss[i]? = some s → 0 ≤ r ∧ r < s) → Q (.ref p) H'
def sp__law_text (_ : PySem.W.Frag) : Sp := fun vs H Q _ => ∃ c : Int, vs = [.int c] ∧ ∀ (z : Str) H', Same H H' → z.cps.size ≤ 100 → Q (.str z) H'
def sp_law (K : PySem.W.Frag) : Sp := fun vs H Q _ => ∃ (a : Addr) (ns : List Int), vs = [.ref a] ∧ SqL K H a (ns.map V.int) ∧ ns.length ≤ 63 ∧ ∀ H', Q (.bl true) H'
section
variable {P : Program} {w : World} {K : PySem.W.Frag} {mg : Str → Option Value} {base : Heap}

theorem nameB_out {z : Str} (h : ¬ (1 ≤ z.cps.size ∧ z.cps.size ≤ 12)) : nameB (.str z) = false := by
  show (decide (1 ≤ z.cps.size) && decide (z.cps.size ≤ 12) && z.cps.toList.all inL) = false
  by_cases a : 1 ≤ z.cps.size
  · rw [decide_eq_false (p := z.cps.size ≤ 12) (fun b => h ⟨a, b⟩), Bool.and_false]; rfl
  · rw [decide_eq_false a]; rfl
theorem nameB_in {z : Str} (h1 : 1 ≤ z.cps.size) (h2 : z.cps.size ≤ 12) : nameB (.str z) = z.cps.toList.all inL := by
  show (decide (1 ≤ z.cps.size) && decide (z.cps.size ≤ 12) && z.cps.toList.all inL) = _
  rw [decide_eq_true h1, decide_eq_true h2]; rfl
theorem nameB_not {v : V} (h : isS v = false) : nameB v = false := by
  cases v <;> first | rfl | cases h
theorem isS_str {v : V} (h : isS v = true) : ∃ z, v = .str z := by
  cases v <;> first | exact ⟨_, rfl⟩ | cases h
theorem Val.size {K : PySem.W.Frag} {H : Hp} {z : Str} (h : Val K H (.str z)) : z.cps.size ≤ 100 := by
  cases h with
  | str _ h => exact h

theorem ok_is_name {f : Addr} {D : Addr} {fd : FuncData} (T : Txt K mg D) (F : Fun K "is_name" "is_name" s_is_name f fd)  : FnOk P w K mg base CX0 1 f fd ["value"] (sp_is_name K) := by
  have nd := sc_is_name.nd
  refine F.ok sc_is_name (fun vs H Q E h => ?_) (fun cdv A outer s H vs Q E hr h => ?_)
  · obtain ⟨v, rfl, _⟩ := h
    rfl
  · obtain ⟨v, rfl, hv, q⟩ := h
    refine ⟨_, (pss_cons (ps_if (PW.pt (pw_or (pt_not (pt_val (pe_callB call_isi (by rfl) T.m_isinstance (by decide +kernel) (pa_cons (pv 0) (pa_cons (pe_bltn (v := .ty "str") (u := .type "str") (by rfl) T.m_str (by decide +kernel) rfl) pa_nil))))) (pw_or1 (pt_not (pt_chain op_le op_le pe_int (pe_callB call_len (by rfl) T.m_len (by decide +kernel) (pa_cons (pv 0) pa_nil)) (pe_gc (by rfl) T.c_LONGEST_NAME)))))) (pss_one (ps_ret pe_bl)) pss_nil)
      (pss_one (ps_ret (pe_callB (cr_all rfl) (by rfl) T.m_all (by decide +kernel) (pa_cons (pe_lc (own := [("letter", 1)]) (g := gName 1) (tt := tYes) rfl nd (pi_str (pv 0)) (blkOk_by (N := ["value", "letter"]) (sc := defScope s_is_name) (by decide +kernel)) (fun _ _ _ _ _ => (pg_name (i := 1) nd rfl (.inl rfl))) (fun _ _ _ _ _ => pts_nil) (fun _ _ _ _ _ => (pe_cmpR op_in_sign (pv 1) (pe_gc (by rfl) T.c_LETTERS) (by with_unfolding_all rfl)))) pa_nil))))), ?_⟩
    obtain ⟨t, ht, hs, hi, hb⟩ := hv.ty
    refine ⟨v, rfl, v, .ty "str", t, _, isS v, rfl, .ty _, ht, hs, _, rfl, ?_⟩
    cases e : isS v with
    | false =>
      refine iteT ?_
      have q' := q H (Same.refl H)
      rw [nameB_not e] at q'
      exact q'
    | true =>
      obtain ⟨z, rfl⟩ := isS_str e
      have hz := hv.size
      refine iteF ⟨.str z, rfl, .str z, z.cps.size, rfl, ⟨smallE (show z.cps.size ≤ 100000 by omega), rfl⟩, 1, (z.cps.size : Int), rfl, rfl, _, rfl, ?_⟩
      by_cases a : 1 ≤ z.cps.size
      · rw [decide_eq_true (show (1 : Int) ≤ (z.cps.size : Int) by omega)]
        refine iteT ⟨(z.cps.size : Int), 12, rfl, rfl, _, rfl, ?_⟩
        by_cases b : z.cps.size ≤ 12
        · rw [decide_eq_true (show (z.cps.size : Int) ≤ 12 by omega)]
          refine iteF ⟨.str z, rfl, z, rfl, fun D nD => lc_text (fun i H' => Same H H' ∧ H' D = some (.lst ((z.cps.toList.take i).map fun c => .bl (inL c)))) ⟨same_upd nD, upd_same⟩ (fun i c H' hc hP => ?_) (fun H' hP => ?_)⟩
          · obtain ⟨sm, eD⟩ := hP
            have hl : i < z.cps.toList.length := (List.getElem?_eq_some_iff.mp hc).1
            rw [Array.length_toList] at hl
            refine ⟨rfl, ?_⟩
            refine ⟨.str ⟨#[c]⟩, rfl, c, letters, rfl, rfl, _, eD, ?_, same_set nD sm, ?_⟩
            · rw [List.length_map, List.length_take]
              exact Nat.lt_of_le_of_lt (Nat.min_le_left _ _) (small (by omega))
            · rw [upd_same, take_more hc, List.map_append]; rfl
          · obtain ⟨sm, eD⟩ := hP
            rw [List.take_length] at eD
            refine ⟨D, z.cps.toList.map inL, rfl, .inl (.inl (by rw [eD, List.map_map]; rfl)), ?_⟩
            have q' := q H' sm
            rw [nameB_in a b] at q'
            rw [List.all_map]
            exact q'
        · rw [decide_eq_false (show ¬ (z.cps.size : Int) ≤ 12 by omega)]
          refine iteT ?_
          have q' := q H (Same.refl H)
          rw [nameB_out (fun h => b h.2)] at q'
          exact q'
      · rw [decide_eq_false (show ¬ (1 : Int) ≤ (z.cps.size : Int) by omega)]
        refine iteF ?_
        have q' := q H (Same.refl H)
        rw [nameB_out (fun h => a h.1)] at q'
        exact ⟨_, rfl, q'⟩

/-! ### rows, steps -/
abbrev rowO (b : Bool) (xs : List V) : HO := match b with | true => .lst xs | false => .tup xs
theorem row_sq {b : Bool} {H : Hp} {a : Addr} {xs : List V} (h : H a = some (rowO b xs)) : KnE.Sq K b H a xs := by
  cases b with
  | true => exact .inl (.inl h)
  | false => exact .inl (.inl h)
theorem row_len {b : Bool} {H : Hp} {a : Addr} {xs : List V} (h : H a = some (rowO b xs)) : LenV K (.ref a) H xs.length := by
  cases b with
  | true => exact .inl ⟨xs, .inl (.inl h), rfl⟩
  | false => exact .inr ⟨xs, .inl (.inl h), rfl⟩
theorem paired_get {α β : Type} {F : α → β → Prop} {l : List α} {m : List β} (h : Paired F l m) : ∀ {i : Nat} {a : α}, l[i]? = some a → ∃ b, m[i]? = some b ∧ F a b := by
  induction h with
  | nil => intro i a e; cases e
  | cons r _ ih =>
    intro i a e
    cases i with
    | zero => cases e; exact ⟨_, rfl, r⟩
    | succ i => exact ih (i := i) e
theorem name_size {z : Str} (h : nameB (.str z) = true) : 1 ≤ z.cps.size ∧ z.cps.size ≤ 12 := by
  by_cases a : 1 ≤ z.cps.size ∧ z.cps.size ≤ 12
  · exact a
  · rw [nameB_out a] at h; cases h
/-- the pairs of a dict of faults -/
def fkv (fs : List (Str × Str)) : List (Key × V) := fs.map fun p => (Sum.inr p.1, .str p.2)
theorem fkv_get {fs : List (Str × Str)} {i : Nat} {k : Key} {v : V} (h : (fkv fs)[i]? = some (k, v)) : ∃ x y, fs[i]? = some (x, y) ∧ k = .inr x ∧ v = .str y := by
  unfold fkv at h
  rw [List.getElem?_map] at h
  cases e : fs[i]? with
  | none => rw [e] at h; cases h
  | some p => rw [e] at h; cases h; exact ⟨p.1, p.2, rfl, rfl, rfl⟩
theorem inV_strs {x : Str} {ws : List Str} : inV (.str x) (ws.map V.str) = decide (x ∈ ws) := by
  unfold inV
  induction ws with
  | nil => rfl
  | cons y r ih =>
    rw [List.map_cons, List.any_cons, ih]
    have e : eqV (.str y) (.str x) = decide (y = x) := by
      show (y == x) = decide (y = x)
      by_cases z : y = x
      · rw [z]; simp
      · rw [decide_eq_false z]; exact beq_eq_false_iff_ne.mpr z
    rw [e]
    by_cases z : y = x
    · subst z; simp
    · have z' : ¬ x = y := fun q => z q.symm
      simp [z, z']
theorem flat_ws (ws : List Str) : (ws.map V.str).all flatV = true := by
  rw [List.all_map]
  exact List.all_eq_true.mpr fun _ _ => rfl
/-! ### a machine -/
def look (fs : List (Str × Str)) (x : Str) : Option Str := (fs.find? fun p => decide (p.1 = x)).map (·.2)
theorem look_val (fs : List (Str × Str)) (x : Str) : valV (fkv fs) (.inr x) = (look fs x).map V.str := by
  unfold look fkv
  induction fs with
  | nil => rfl
  | cons p r ih =>
    obtain ⟨y, n⟩ := p
    by_cases e : y = x
    · rw [List.find?_cons_of_pos (by simp [e])]
      unfold valV
      rw [List.map_cons, List.find?_cons_of_pos (by simp [e])]
      rfl
    · rw [List.find?_cons_of_neg (by simp [e]), ← ih]
      unfold valV
      rw [List.map_cons, List.find?_cons_of_neg (by simp [e])]
theorem val_none {fs : List (Str × Str)} {x : Str} (h : ∀ p ∈ fs, p.1 ≠ x) : valV (fkv fs) (.inr x) = none := by
  rw [look_val]
  unfold look
  rw [List.find?_eq_none.mpr fun p hp => by simp [h p hp]]; rfl
theorem sub_len {α : Type} [DecidableEq α] : ∀ {l m : List α}, l.Nodup → (∀ x ∈ l, x ∈ m) → l.length ≤ m.length
  | [], _, _, _ => Nat.zero_le _
  | x :: r, m, d, h => by
    obtain ⟨d1, d2⟩ := List.nodup_cons.mp d
    have hx := h x List.mem_cons_self
    have ih := sub_len (m := m.erase x) d2 (fun y hy => (List.mem_erase_of_ne (fun e : y = x => d1 (by rw [← e]; exact hy))).mpr (h y (List.mem_cons_of_mem _ hy)))
    have e := List.length_erase_of_mem hx
    have : 0 < m.length := List.length_pos_of_mem hx
    rw [List.length_cons]
    omega
theorem words_le {ws xs : List Str} (h : KnA.Words ws xs) : ws.length ≤ xs.length := sub_len h.nd fun x hx => (h.mem x).mp hx
/-- set(xs), xs texts -/
theorem foldL_strs : ∀ (xs acc : List Str), acc.Nodup → ∃ ys : List Str, (xs.map Sum.inr).foldl KnS.addL (acc.map Sum.inr) = ys.map Sum.inr ∧ ys.Nodup ∧ ∀ x, x ∈ ys ↔ x ∈ acc ∨ x ∈ xs
  | [], acc, h => ⟨acc, rfl, h, fun x => by simp⟩
  | z :: xs, acc, h => by
    obtain ⟨ys, e, n, m⟩ := foldL_strs xs (if z ∈ acc then acc else acc ++ [z]) (by
      by_cases q : z ∈ acc
      · rw [if_pos q]; exact h
      · rw [if_neg q]
        refine List.nodup_append.mpr ⟨h, by simp, fun a ha b hb e => ?_⟩
        rw [List.mem_singleton] at hb
        exact q (hb ▸ e ▸ ha))
    refine ⟨ys, ?_, n, fun x => ?_⟩
    · rw [List.map_cons, List.foldl_cons, KnC.addL_strs, e]
    · rw [m]
      by_cases q : z ∈ acc
      · rw [if_pos q, List.mem_cons]
        exact ⟨fun y => y.elim .inl fun t => .inr (.inr t), fun y => y.elim .inl fun t => t.elim (fun t => .inl (t ▸ q)) .inr⟩
      · rw [if_neg q, List.mem_append, List.mem_singleton, List.mem_cons, or_assoc]
theorem allL_strs (xs : List Str) : ∃ ys : List Str, KnS.allL (xs.map Sum.inr) = ys.map Sum.inr ∧ ys.Nodup ∧ ∀ x, x ∈ ys ↔ x ∈ xs := by
  obtain ⟨ys, e, n, m⟩ := foldL_strs xs [] List.nodup_nil
  exact ⟨ys, e, n, fun x => (m x).trans (by simp)⟩
/-! ### faults given in another order -/
theorem look_cons (x n : Str) (r : List (Str × Str)) (y : Str) : look ((x, n) :: r) y = if x = y then some n else look r y := by
  unfold look
  by_cases e : x = y
  · rw [List.find?_cons_of_pos (by simp [e]), if_pos e]; rfl
  · rw [List.find?_cons_of_neg (by simp [e]), if_neg e]
theorem look_mem {fs : List (Str × Str)} (nd : (fs.map (·.1)).Nodup) {x n : Str} : look fs x = some n ↔ (x, n) ∈ fs := by
  induction fs with
  | nil => exact ⟨fun h => (by cases h), fun h => nomatch h⟩
  | cons p r ih =>
    obtain ⟨y, m⟩ := p
    rw [List.map_cons, List.nodup_cons] at nd
    rw [look_cons]
    by_cases e : y = x
    · subst e
      rw [if_pos rfl]
      constructor
      · intro h; cases h; exact List.mem_cons_self
      · intro h
        rcases List.mem_cons.mp h with h | h
        · cases h; rfl
        · exact absurd (List.mem_map.mpr ⟨_, h, rfl⟩) nd.1
    · rw [if_neg e, ih nd.2]
      constructor
      · intro h; exact List.mem_cons_of_mem _ h
      · intro h
        rcases List.mem_cons.mp h with h | h
        · cases h; exact absurd rfl e
        · exact h

theorem ok__law_mix {f : Addr} {D : Addr} {fd : FuncData} (T : Txt K mg D) (F : Fun K "_law_mix" "_law_mix" s__law_mix f fd)  : FnOk P w K mg base CX0 1 f fd ["_law_cell_here", "_law_k"] (sp__law_mix K) := by
  have nd := sc__law_mix.nd
  refine F.ok sc__law_mix (fun vs H Q E h => ?_) (fun cdv A outer s H vs Q E hr h => ?_)
  · obtain ⟨c, k, rfl, _⟩ := h
    rfl
  · obtain ⟨c, k, rfl, q⟩ := h
    refine ⟨_, (pss_cons (ps_set (i := 2) nd rfl (.inl rfl) (pe_op op_mod (pe_op op_mul (pe_callTy call_int1 (by rfl) T.m_int (by decide +kernel) (pa_cons (pe_op op_add (pe_op op_add (pe_callTy call_int1 (by rfl) T.m_int (by decide +kernel) (pa_cons (pv 0) pa_nil)) (pe_op op_mul pe_int (pv 1))) pe_int) pa_nil)) pe_int) pe_int))
      (pss_cons (ps_set (i := 2) nd rfl (.inl rfl) (pe_op op_mod (pe_callTy call_int1 (by rfl) T.m_int (by decide +kernel) (pa_cons (pe_op op_mul (pv 2) (pe_op op_add (pe_op op_fdiv (pv 2) pe_int) pe_int)) pa_nil)) pe_int))
      (pss_one (ps_ret (pe_op op_mod (pe_callTy call_int1 (by rfl) T.m_int (by decide +kernel) (pa_cons (pe_op op_mul (pv 2) (pe_op op_add (pe_op op_fdiv (pv 2) pe_int) pe_int)) pa_nil)) pe_int))))), ?_⟩
    refine ⟨.int c, rfl, .inl ⟨c, rfl, .int k, rfl, 7919, k, rfl, rfl, .inl ⟨by decide, by decide⟩, _, _, rfl, rfl, _, _, rfl, rfl, .inl ⟨_, rfl, _, 48271, rfl, rfl, .inr ⟨by decide, by decide⟩, _, 2147483647, rfl, rfl, (show (0 : Int) < 2147483647 by decide), ?_⟩⟩⟩
    refine ⟨_, rfl, _, rfl, _, 1009, rfl, rfl, ⟨by decide, by decide⟩, _, 69621, rfl, rfl, _, _, rfl, rfl, .inl ⟨?_, ?_⟩, .inl ⟨_, rfl, _, 2147483647, rfl, rfl, (show (0 : Int) < 2147483647 by decide), ?_⟩⟩
    · omega
    · omega
    refine ⟨_, rfl, _, rfl, _, 2003, rfl, rfl, ⟨by decide, by decide⟩, _, 40692, rfl, rfl, _, _, rfl, rfl, .inl ⟨?_, ?_⟩, .inl ⟨_, rfl, _, 2147483399, rfl, rfl, (show (0 : Int) < 2147483399 by decide), ?_⟩⟩
    · omega
    · omega
    exact q _ (Int.emod_nonneg _ (by decide)) (Int.emod_lt_of_pos _ (by decide))

theorem ok__law_cell {f : Addr} {D : Addr} {fd : FuncData} (T : Txt K mg D) (F : Fun K "_law_cell" "_law_cell" s__law_cell f fd) (c__law_mix : Cal P w K mg base 1 "_law_mix" (sp__law_mix K) []) : FnOk P w K mg base CX0 2 f fd ["_law_script", "_law_k"] (sp__law_cell K) := by
  have nd := sc__law_cell.nd
  refine F.ok sc__law_cell (fun vs H Q E h => ?_) (fun cdv A outer s H vs Q E hr h => ?_)
  · obtain ⟨a, ns, k, rfl, _⟩ := h
    rfl
  · obtain ⟨a, ns, k, rfl, hS, q⟩ := h
    refine ⟨_, (pss_cons (ps_if (pt_cmpR op_lt (pv 1) (pe_callB call_len (by rfl) T.m_len (by decide +kernel) (pa_cons (pv 0) pa_nil)) (nomark _)) (pss_one (ps_ret (pe_callTy call_int1 (by rfl) T.m_int (by decide +kernel) (pa_cons (pe_ix (r := rIxL K) ix_list (pv 0) (pv 1) (fun _ _ => rfl)) pa_nil)))) pss_nil)
      (pss_cons (ps_if (pt_cmpR op_eq (pe_callB call_len (by rfl) T.m_len (by decide +kernel) (pa_cons (pv 0) pa_nil)) pe_int (nomark _)) (pss_one (ps_ret (pv 1))) pss_nil)
      (pss_one (ps_ret (pe_c c__law_mix hr (by omega) (by rfl) (pa_cons (pe_ix (r := rIxL K) ix_list (pv 0) (pe_op op_mod (pe_callTy call_int1 (by rfl) T.m_int (by decide +kernel) (pa_cons (pv 1) pa_nil)) (pe_callB call_len (by rfl) T.m_len (by decide +kernel) (pa_cons (pv 0) pa_nil))) (fun _ _ => rfl)) (pa_cons (pv 1) pa_nil))))))), ?_⟩
    refine ⟨.int k, rfl, .ref a, rfl, .ref a, (ns.map V.int).length, rfl, .inl ⟨_, hS, rfl⟩, _, _, rfl, rfl, _, rfl, ite2 (fun e => ?_) (fun e => ?_)⟩
    · have hk : k < (ns.map V.int).length := by
        have := of_decide_eq_true e
        omega
      have hk2 : k < ns.length := by rw [List.length_map] at hk; exact hk
      have g : (ns.map V.int)[k]? = some (.int ns[k]) := by rw [List.getElem?_map, List.getElem?_eq_getElem hk2]; rfl
      exact ⟨.ref a, rfl, .int k, rfl, a, _, (k : Int), _, rfl, rfl, hS, atI_nat g, .inl ⟨_, rfl, q _⟩⟩
    · refine ⟨.ref a, rfl, .ref a, (ns.map V.int).length, rfl, .inl ⟨_, hS, rfl⟩, rfl, _, rfl, ite2 (fun e0 => ?_) (fun e0 => ?_)⟩
      · exact ⟨.int k, rfl, q _⟩
      · have hp : 0 < (ns.map V.int).length := by
          cases e1 : (ns.map V.int).length with
          | zero => exact absurd (decide_eq_true (by rw [e1]; rfl)) e0
          | succ n => exact Nat.succ_pos _
        have hj : ((k : Int) % ((ns.map V.int).length : Int)) = ((k % (ns.map V.int).length : Nat) : Int) := rfl
        have hlt : k % (ns.map V.int).length < ns.length := by
          have := Nat.mod_lt k hp
          rw [List.length_map] at this ⊢
          exact this
        have g : (ns.map V.int)[k % (ns.map V.int).length]? = some (.int ns[k % (ns.map V.int).length]) := by rw [List.getElem?_map, List.getElem?_eq_getElem hlt]; rfl
        refine ⟨.ref a, rfl, .int k, rfl, .inl ⟨_, rfl, .ref a, rfl, .ref a, (ns.map V.int).length, rfl, .inl ⟨_, hS, rfl⟩, (k : Int), ((ns.map V.int).length : Int), rfl, rfl, (show (0 : Int) < ((ns.map V.int).length : Int) by omega), a, ns.map V.int, (k : Int) % ((ns.map V.int).length : Int), .int ns[k % (ns.map V.int).length], rfl, rfl, hS, ?_, ?_⟩⟩
        · rw [hj]; exact atI_nat g
        · exact ⟨.int k, rfl, _, _, rfl, fun r _ _ => q r⟩

theorem ok__law_row {f : Addr} {D : Addr} {fd : FuncData} (T : Txt K mg D) (F : Fun K "_law_row" "_law_row" s__law_row f fd) (c__law_mix : Cal P w K mg base 1 "_law_mix" (sp__law_mix K) []) : FnOk P w K mg base CX0 2 f fd ["_law_cell_here", "_law_sizes"] (sp__law_row K) := by
  have nd := sc__law_row.nd
  refine F.ok sc__law_row (fun vs H Q E h => ?_) (fun cdv A outer s H vs Q E hr h => ?_)
  · obtain ⟨c, b, ss, rfl, _⟩ := h
    rfl
  · obtain ⟨c, b, ss, rfl, hS, hlen, hpos, q⟩ := h
    refine ⟨_, (pss_cons (ps_set (i := 2) nd rfl (.inl rfl) (pe_lst pa_nil))
      (pss_cons (ps_set (i := 3) nd rfl (.inl rfl) (pe_callTy call_int1 (by rfl) T.m_int (by decide +kernel) (pa_cons (pv 0) pa_nil)))
      (pss_cons (ps_for PassesOwn.never rfl (pi_range1 (by rfl) T.m_range (pa_cons (pe_callB call_len (by rfl) T.m_len (by decide +kernel) (pa_cons (pv 1) pa_nil)) pa_nil)) (pg_name (i := 4) nd rfl (.inl rfl)) (pss_one (ps_if (pt_cmpR op_ge (pv 0) (pe_op op_pow pe_int pe_int) (nomark _)) (pss_cons (ps_expr (pe_bm PySem.F.plainAttrs_list PySem.F.slot_list_append PySem.F.type_list_append mt_append (pv 2) (pa_cons (pe_op op_mod (pe_callTy call_int1 (by rfl) T.m_int (by decide +kernel) (pa_cons (pv 3) pa_nil)) (pe_ix (r := rIxL K) ix_list (pv 1) (pv 4) (fun _ _ => rfl))) pa_nil)))
      (pss_one (ps_set (i := 3) nd rfl (.inl rfl) (pe_op op_fdiv (pv 3) (pe_ix (r := rIxL K) ix_list (pv 1) (pv 4) (fun _ _ => rfl)))))) (pss_one (ps_expr (pe_bm PySem.F.plainAttrs_list PySem.F.slot_list_append PySem.F.type_list_append mt_append (pv 2) (pa_cons (pe_op op_mod (pe_callTy call_int1 (by rfl) T.m_int (by decide +kernel) (pa_cons (pe_c c__law_mix hr (by omega) (by rfl) (pa_cons (pv 0) (pa_cons (pv 4) pa_nil))) pa_nil)) (pe_ix (r := rIxL K) ix_list (pv 1) (pv 4) (fun _ _ => rfl))) pa_nil)))))))
      (pss_one (ps_ret (pv 2)))))), ?_⟩
    refine ⟨Nat.zero_le _, fun R nR => ⟨.int c, rfl, .inl ⟨c, rfl, .ref b, rfl, .ref b, (ss.map V.int).length, rfl, .inl ⟨_, (same_upd nR).seq hS, rfl⟩, _, rfl, ?_, ?_, ?_⟩⟩⟩
    · have : (0 : Int) ≤ ((ss.map V.int).length : Int) := by omega
      omega
    · rw [List.length_map]
      omega
    · refine for_range (lo := 0) (fun i σ H' => ∃ (z : Int) (y : Option V) (rs : List Int), σ = [some (.int c), some (.ref b), some (.ref R), some (.int z), y] ∧ Same H H' ∧ H' R = some (.lst (rs.map V.int)) ∧ rs.length = i ∧ ∀ (i : Nat) (r s : Int), rs[i]? = some r → ss[i]? = some s → 0 ≤ r ∧ r < s)
        ⟨c, none, [], rfl, same_upd nR, upd_same, rfl, fun i r s h => by simp at h⟩ (fun i σ H' hi hP => ?_) (fun σ H' hP => ?_)
      · obtain ⟨z, y, rs, rfl, sm, eR, hrl, hb⟩ := hP
        have hi2 : i < ss.length := by
          have : i < ((ss.map V.int).length : Int).toNat := hi
          rw [List.length_map, Int.toNat_natCast] at this
          exact this
        have g : (ss.map V.int)[i]? = some (.int ss[i]) := by rw [List.getElem?_map, List.getElem?_eq_getElem hi2]; rfl
        have ps := hpos _ (List.getElem_mem hi2)
        have hS' := sm.seq hS
        have hA : atI (ss.map V.int) (0 + (i : Int)) = some (.int ss[i]) := by rw [Int.zero_add]; exact atI_nat g
        have push : ∀ r : Int, 0 ≤ r → r < ss[i] → ∀ (j : Nat) (r' s : Int), (rs ++ [r])[j]? = some r' → ss[j]? = some s → 0 ≤ r' ∧ r' < s := by
          intro r r0 r1 j r' s e1 e2
          by_cases hj : j < rs.length
          · rw [List.getElem?_append_left hj] at e1
            exact hb j r' s e1 e2
          · by_cases hj2 : j = rs.length
            · subst hj2
              rw [List.getElem?_concat_length] at e1
              cases e1
              rw [hrl, List.getElem?_eq_getElem hi2] at e2
              cases e2
              exact ⟨r0, r1⟩
            · rw [List.getElem?_eq_none (by rw [List.length_append]; simp; omega)] at e1
              cases e1
        have hsz : (rs.map V.int).length < sizeLine := by rw [List.length_map]; exact small (by omega)
        refine ⟨.int c, rfl, 10, 18, rfl, rfl, ⟨by decide, by decide, by decide⟩, c, _, rfl, rfl, _, rfl, ite2 (fun e => ?_) (fun e => ?_)⟩
        · -- the digits of a great cell
          refine ⟨.ref R, rfl, .inl ⟨rfl, _, .inl (.inl eR)⟩, .int z, rfl, .inl ⟨z, rfl, .ref b, rfl, .int (0 + (i : Int)), rfl, b, _, _, _, rfl, rfl, hS', hA, z, ss[i], rfl, rfl, ps.1, R, _, _, rfl, rfl, eR, hsz, ?_⟩⟩
          refine ⟨.int z, rfl, .ref b, rfl, .int (0 + (i : Int)), rfl, b, _, _, _, rfl, rfl, (same_set nR sm).seq hS, hA, z, ss[i], rfl, rfl, ps, ?_⟩
          exact ⟨_, _, rs ++ [z % ss[i]], rfl, same_set nR sm, by rw [upd_same, List.map_append]; rfl, by rw [List.length_append, hrl]; rfl, push _ (Int.emod_nonneg _ (by omega)) (Int.emod_lt_of_pos _ ps.1)⟩
        · refine ⟨.ref R, rfl, .inl ⟨rfl, _, .inl (.inl eR)⟩, .int c, rfl, .int (0 + (i : Int)), rfl, c, (0 + (i : Int)), rfl, fun r r0 r1 => .inl ⟨r, rfl, .ref b, rfl, .int (0 + (i : Int)), rfl, b, _, _, _, rfl, rfl, hS', hA, r, ss[i], rfl, rfl, ps.1, R, _, _, rfl, rfl, eR, hsz, ?_⟩⟩
          exact ⟨_, _, rs ++ [r % ss[i]], rfl, same_set nR sm, by rw [upd_same, List.map_append]; rfl, by rw [List.length_append, hrl]; rfl, push _ (Int.emod_nonneg _ (by omega)) (Int.emod_lt_of_pos _ ps.1)⟩
      · obtain ⟨z, y, rs, rfl, sm, eR, hrl, hb⟩ := hP
        refine ⟨.ref R, rfl, q H' R rs sm nR eR ?_ hb⟩
        rw [hrl, List.length_map, Int.toNat_natCast]

/-! ### names -/
theorem cutS_length (z : Str) (lo hi : Option Int) : (cutS z lo hi).cps.size ≤ z.cps.size := by
  show ((z.cps.toList.drop _).take _).toArray.size ≤ _
  rw [List.size_toArray, List.length_take, List.length_drop, Array.length_toList]
  exact Nat.le_trans (Nat.min_le_right _ _) (Nat.sub_le _ _)
theorem cutS_mem {z : Str} {lo hi : Option Int} {c : Nat} (h : c ∈ (cutS z lo hi).cps.toList) : c ∈ z.cps.toList := by
  have h' : c ∈ (z.cps.toList.drop (HT.sIx z.length 0 lo)).take (HT.sIx z.length z.length hi - HT.sIx z.length 0 lo) := h
  exact List.mem_of_mem_drop (List.mem_of_mem_take h')
theorem app_size (x y : Str) : (x ++ y).cps.size = x.cps.size + y.cps.size := by
  show (x.cps ++ y.cps).size = _
  rw [Array.size_append]
theorem app_mem {x y : Str} {c : Nat} (h : c ∈ (x ++ y).cps.toList) : c ∈ x.cps.toList ∨ c ∈ y.cps.toList := by
  have h' : c ∈ (x.cps ++ y.cps).toList := h
  rw [Array.toList_append] at h'
  exact List.mem_append.mp h'
theorem join_size : ∀ {ys : List Str}, (∀ y ∈ ys, y.cps.size = 1) → (Txt.join "" ys).cps.size ≤ ys.length := by
  intro ys
  rw [TL.join_eq]
  induction ys with
  | nil => intro _; exact Nat.le_refl _
  | cons x r ih =>
    intro h
    cases r with
    | nil => exact Nat.le_of_eq (h x List.mem_cons_self)
    | cons z r =>
      have h1 := h x List.mem_cons_self
      have h2 := ih fun y hy => h y (List.mem_cons_of_mem _ hy)
      have e : (Str.join "" (x :: z :: r)).cps.size = x.cps.size + 0 + (Str.join "" (z :: r)).cps.size := by
        show ((x.cps ++ #[]) ++ (Str.join "" (z :: r)).cps).size = _
        rw [Array.size_append, Array.size_append]; rfl
      rw [e, List.length_cons]
      omega
theorem join_mem {p : Nat → Prop} : ∀ {ys : List Str}, (∀ y ∈ ys, ∀ c ∈ y.cps.toList, p c) → ∀ c ∈ (Txt.join "" ys).cps.toList, p c := by
  intro ys
  rw [TL.join_eq]
  induction ys with
  | nil => intro _ c hc; exact absurd hc (by decide +revert)
  | cons x r ih =>
    intro h c hc
    cases r with
    | nil => exact h x List.mem_cons_self c hc
    | cons z r =>
      have h2 := ih fun y hy => h y (List.mem_cons_of_mem _ hy)
      have hc' : c ∈ ((x.cps ++ #[]) ++ (Str.join "" (z :: r)).cps).toList := hc
      rw [Array.toList_append, Array.toList_append, List.mem_append, List.mem_append] at hc'
      rcases hc' with (hc' | hc') | hc'
      · exact h x List.mem_cons_self c hc'
      · exact absurd hc' (by simp)
      · exact h2 c hc'
theorem join_sum {zs : List Str} (h : ∀ y ∈ zs, y.cps.size = 1) : (zs.map (·.length)).sum + zs.length * ("" : Str).length = zs.length := by
  have z0 : ("" : Str).length = 0 := rfl
  rw [z0, Nat.mul_zero, Nat.add_zero]
  induction zs with
  | nil => rfl
  | cons x r ih =>
    rw [List.map_cons, List.sum_cons, ih fun y hy => h y (List.mem_cons_of_mem _ hy), List.length_cons]
    have : x.length = 1 := h x List.mem_cons_self
    omega
/-- a place of a row -/
theorem row_at {rs ss : List Int} (hl : rs.length = ss.length) (hb : ∀ (i : Nat) (r s : Int), rs[i]? = some r → ss[i]? = some s → 0 ≤ r ∧ r < s) {j : Nat} {t : Int} (e : ss[j]? = some t) : ∃ r, rs[j]? = some r ∧ (rs.map V.int)[j]? = some (.int r) ∧ 0 ≤ r ∧ r < t := by
  have hj : j < ss.length := (List.getElem?_eq_some_iff.mp e).1
  have g : rs[j]? = some (rs[j]'(by omega)) := List.getElem?_eq_getElem (by omega)
  obtain ⟨h1, h2⟩ := hb j _ t g e
  exact ⟨_, g, by rw [List.getElem?_map, g]; rfl, h1, h2⟩
theorem flat_get {α : Type} {l : List α} {j : Nat} (hj : j < l.length) : ∀ {m k : Nat}, k < m → (List.replicate m l).flatten[l.length * k + j]? = l[j]?
  | 0, k, h => absurd h (Nat.not_lt_zero _)
  | m + 1, 0, _ => by
    rw [List.replicate_succ, List.flatten_cons, Nat.mul_zero, Nat.zero_add, List.getElem?_append_left hj]
  | m + 1, k + 1, h => by
    rw [List.replicate_succ, List.flatten_cons, List.getElem?_append_right (by rw [Nat.mul_succ]; omega)]
    have e : l.length * (k + 1) + j - l.length = l.length * k + j := by rw [Nat.mul_succ]; omega
    rw [e]
    exact flat_get hj (by omega)
theorem flat_len {α : Type} (l : List α) (m : Nat) : (List.replicate m l).flatten.length = l.length * m := by
  induction m with
  | zero => rfl
  | succ m ih => rw [List.replicate_succ, List.flatten_cons, List.length_append, ih, Nat.mul_succ]; omega
theorem flat_mem {α : Type} {l : List α} {m : Nat} {x : α} (h : x ∈ (List.replicate m l).flatten) : x ∈ l := by
  obtain ⟨y, hy, hx⟩ := List.mem_flatten.mp h
  rw [(List.mem_replicate.mp hy).2] at hx
  exact hx
theorem cut_nat {xs : List V} {a b : Nat} : cutV xs (some (a : Int)) (some (b : Int)) = (xs.drop a).take (b - a) := by
  unfold cutV
  rw [HT.sIx_nat, HT.sIx_nat]
  by_cases h : a ≤ xs.length
  · rw [Nat.min_eq_left h]
    by_cases h2 : b ≤ xs.length
    · rw [Nat.min_eq_left h2]
    · rw [Nat.min_eq_right (by omega : xs.length ≤ b), List.take_of_length_le (by rw [List.length_drop]; omega), List.take_of_length_le (by rw [List.length_drop]; omega)]
  · rw [Nat.min_eq_right (by omega : xs.length ≤ a), List.drop_of_length_le (Nat.le_refl _), List.drop_of_length_le (by omega), List.take_nil, List.take_nil]
def szN (m : Nat) : List Int := [13, 2, 6] ++ (List.replicate m [6, 13, 13, 13, 13, 13]).flatten
theorem szN_len (m : Nat) : (szN m).length = 3 + 6 * m := by
  unfold szN
  rw [List.length_append, flat_len]; rfl
theorem szN_map (m : Nat) : ([13, 2, 6].map V.int ++ (List.replicate m ([6, 13, 13, 13, 13, 13].map V.int)).flatten) = (szN m).map V.int := by
  unfold szN
  rw [List.map_append, List.map_flatten, List.map_replicate]
theorem szN_at {m k j : Nat} (hk : k < m) (hj : j < 6) : (szN m)[3 + 6 * k + j]? = ([6, 13, 13, 13, 13, 13] : List Int)[j]? := by
  unfold szN
  rw [List.getElem?_append_right (by show 3 ≤ _; omega)]
  show (List.replicate m [6, 13, 13, 13, 13, 13]).flatten[3 + 6 * k + j - 3]? = _
  rw [show 3 + 6 * k + j - 3 = 6 * k + j by omega]
  exact flat_get (l := ([6, 13, 13, 13, 13, 13] : List Int)) (j := j) hj hk
theorem szN_good {m : Nat} {x : Int} (h : x ∈ szN m) : 0 < x ∧ x < 1073741824 := by
  unfold szN at h
  rcases List.mem_append.mp h with h | h
  · simp at h; omega
  · have := flat_mem h
    simp at this; omega
/-- a place of a slice of a row -/
def Own (os : List Int) : Prop := os.length = 6 ∧ ∀ (j : Nat) (r s : Int), os[j]? = some r → ([6, 13, 13, 13, 13, 13] : List Int)[j]? = some s → 0 ≤ r ∧ r < s
theorem own_cut {rs : List Int} {m k : Nat} (hl : rs.length = (szN m).length) (hb : ∀ (i : Nat) (r s : Int), rs[i]? = some r → (szN m)[i]? = some s → 0 ≤ r ∧ r < s) (hk : k < m) : Own ((rs.drop (3 + 6 * k)).take 6) := by
  rw [szN_len] at hl
  refine ⟨by rw [List.length_take, List.length_drop]; omega, fun j r s e1 e2 => ?_⟩
  have hj : j < 6 := (List.getElem?_eq_some_iff.mp e2).1
  rw [List.getElem?_take_of_lt hj, List.getElem?_drop] at e1
  exact hb _ r s e1 (by rw [szN_at hk hj]; exact e2)
def half1 : Str := "abcdefghijklm"
def half2 : Str := "nopqrstuvwxyz"
theorem half1_in : ∀ c ∈ half1.cps.toList, inL c = true := by decide +kernel
theorem half2_in : ∀ c ∈ half2.cps.toList, inL c = true := by decide +kernel
def sp__law_names (_ : PySem.W.Frag) : Sp := fun vs H Q _ => ∃ (c : Int) (m : Nat), vs = [.int c, .int (m : Int)] ∧ m ≤ 100 ∧ ∀ H' a (zs : List Str), Same H H' → H a = none → H' a = some (.lst (zs.map V.str)) → zs.length = m → (∀ z ∈ zs, nameB (.str z) = true) → Q (.ref a) H'
theorem ok__law_names {f : Addr} {D : Addr} {fd : FuncData} (T : Txt K mg D) (F : Fun K "_law_names" "_law_names" s__law_names f fd) (c__law_row : Cal P w K mg base 2 "_law_row" (sp__law_row K) []) : FnOk P w K mg base CX0 3 f fd ["_law_cell_here", "_law_many"] (sp__law_names K) := by
  have nd := sc__law_names.nd
  refine F.ok sc__law_names (fun vs H Q E h => ?_) (fun cdv A outer s H vs Q E hr h => ?_)
  · obtain ⟨c, m, rfl, _⟩ := h
    rfl
  · obtain ⟨c, m, rfl, hm, q⟩ := h
    refine ⟨_, (pss_cons (ps_set (i := 2) nd rfl (.inl rfl) (pe_c c__law_row hr (by omega) (by rfl) (pa_cons (pv 0) (pa_cons (pe_op op_cat (pe_lst (pa_cons pe_int (pa_cons pe_int (pa_cons pe_int pa_nil)))) (pe_op op_rep (pe_lst (pa_cons pe_int (pa_cons pe_int (pa_cons pe_int (pa_cons pe_int (pa_cons pe_int (pa_cons pe_int pa_nil))))))) (pv 1))) pa_nil))))
      (pss_cons (ps_set (i := 3) nd rfl (.inl rfl) (pe_lst pa_nil))
      (pss_cons (ps_for PassesOwn.never rfl (pi_range1 (by rfl) T.m_range (pa_cons (pv 1) pa_nil)) (pg_name (i := 4) nd rfl (.inl rfl)) (pss_cons (ps_set (i := 5) nd rfl (.inl rfl) (pe_slice sl_list (pv 2) (po_some (pe_op op_add pe_int (pe_op op_mul pe_int (pv 4)))) (po_some (pe_op op_add pe_int (pe_op op_mul pe_int (pv 4))))))
      (pss_cons (ps_if (pt_cmpR op_eq (pe_ix (r := rIxL K) ix_list (pv 2) pe_int (fun _ _ => rfl)) pe_int (nomark _)) (pss_one (ps_set (i := 5) nd rfl (.inl rfl) (pe_slice sl_list (pv 2) (po_some pe_int) (po_some pe_int)))) pss_nil)
      (pss_cons (ps_set (i := 6) nd rfl (.inl rfl) (pe_join pe_str (pe_lc (own := [("_law_digit", 9)]) (g := gName 9) (tt := tYes) rfl nd (pi_list (pe_slice sl_list (pv 5) (po_some pe_int) (po_some (pe_op op_add pe_int (pe_ix (r := rIxL K) ix_list (pv 5) pe_int (fun _ _ => rfl)))))) (blkOk_by (N := ["_law_cell_here", "_law_many", "_law_row_here", "_law_names_here", "_law_k", "_law_own", "_law_text", "_law_at", "_law_letter", "_law_digit"]) (sc := defScope s__law_names) (by decide +kernel)) (fun _ _ _ _ _ => (pg_name (i := 9) nd rfl (.inl rfl))) (fun _ _ _ _ _ => pts_nil) (fun _ _ _ _ _ => (pe_ix ix_str pe_str (pv 9) (fun _ _ => rfl))))))
      (pss_cons (ps_set (i := 7) nd rfl (.inl rfl) (pe_op op_mod (pe_callTy call_int1 (by rfl) T.m_int (by decide +kernel) (pa_cons (pe_ix (r := rIxL K) ix_list (pv 2) pe_int (fun _ _ => rfl)) pa_nil)) (pe_op op_add (pe_callB call_len (by rfl) T.m_len (by decide +kernel) (pa_cons (pv 6) pa_nil)) pe_int)))
      (pss_cons (ps_set (i := 8) nd rfl (.inl rfl) (pe_ix ix_str pe_str (pe_op op_mod (pe_callTy call_int1 (by rfl) T.m_int (by decide +kernel) (pa_cons (pe_op op_add (pe_ix (r := rIxL K) ix_list (pv 2) pe_int (fun _ _ => rfl)) (pe_op op_mul pe_int (pv 4))) pa_nil)) pe_int) (fun _ _ => rfl)))
      (pss_one (ps_expr (pe_bm PySem.F.plainAttrs_list PySem.F.slot_list_append PySem.F.type_list_append mt_append (pv 3) (pa_cons (pe_op op_add_str (pe_op op_add_str (pe_slice sl_str (pv 6) po_none (po_some (pv 7))) (pv 8)) (pe_slice sl_str (pv 6) (po_some (pv 7)) po_none)) pa_nil))))))))))
      (pss_one (ps_ret (pv 3)))))), ?_⟩
    refine ⟨.int c, rfl, szl rfl, fun p1 n1 => ⟨szl rfl, fun p2 n2 => ⟨.int m, rfl, p2, m, [.int 6, .int 13, .int 13, .int 13, .int 13, .int 13], rfl, rfl, upd_same, by omega, by omega, smallE (by show 6 * (m : Int).toNat ≤ _; omega), fun p3 n3 => ?_⟩⟩⟩
    have em : (m : Int).toNat = m := Int.toNat_natCast m
    rw [em]
    have s1 := same_upd (o := .lst [.int 13, .int 2, .int 6]) n1
    have s2 := same_upd (o := .lst [.int 6, .int 13, .int 13, .int 13, .int 13, .int 13]) n2
    have s3 := same_upd (o := .lst (List.replicate m [V.int 6, .int 13, .int 13, .int 13, .int 13, .int 13]).flatten) n3
    refine ⟨p1, p3, [.int 13, .int 2, .int 6], _, rfl, rfl, s3 _ _ (s2 _ _ upd_same), upd_same, smallE (by rw [flat_len]; show 3 + 6 * m ≤ _; omega), fun p4 n4 => ?_⟩
    have s4 := (s1.trans (s2.trans s3)).trans (same_upd (o := .lst ([.int 13, .int 2, .int 6] ++ (List.replicate m [V.int 6, .int 13, .int 13, .int 13, .int 13, .int 13]).flatten)) n4)
    have e4 : (upd (upd (upd (upd H p1 (.lst [.int 13, .int 2, .int 6])) p2 (.lst [.int 6, .int 13, .int 13, .int 13, .int 13, .int 13])) p3 (.lst (List.replicate m [V.int 6, .int 13, .int 13, .int 13, .int 13, .int 13]).flatten)) p4 (.lst ([.int 13, .int 2, .int 6] ++ (List.replicate m [V.int 6, .int 13, .int 13, .int 13, .int 13, .int 13]).flatten))) p4 = some (.lst ((szN m).map V.int)) := by
      rw [upd_same, ← szN_map]; rfl
    generalize upd (upd (upd (upd H p1 (.lst [.int 13, .int 2, .int 6])) p2 (.lst [.int 6, .int 13, .int 13, .int 13, .int 13, .int 13])) p3 (.lst (List.replicate m [V.int 6, .int 13, .int 13, .int 13, .int 13, .int 13]).flatten)) p4 (.lst ([.int 13, .int 2, .int 6] ++ (List.replicate m [V.int 6, .int 13, .int 13, .int 13, .int 13, .int 13]).flatten)) = G at s4 e4
    refine ⟨c, p4, szN m, rfl, .inl (.inl e4), by rw [szN_len]; omega, fun x hx => szN_good hx, fun H1 R rs sm nR eR hrl hb => ?_⟩
    have sH : Same H H1 := s4.trans sm
    refine ⟨szl rfl, fun N nN => ?_⟩
    have s5 := same_upd (o := .lst []) nN
    have nNH : H N = none := sH.free nN
    have eR5 := s5 _ _ eR
    have nNR : R ≠ N := ne_of_none eR nN
    refine ⟨.int m, rfl, m, rfl, by omega, by omega, ?_⟩
    refine for_range (lo := 0) (fun i σ H' => ∃ (y4 y5 y6 y7 y8 : Option V) (zs : List Str), σ = [some (.int c), some (.int m), some (.ref R), some (.ref N), y4, y5, y6, y7, y8, none] ∧ Same H H' ∧ H' R = some (.lst (rs.map V.int)) ∧ H' N = some (.lst (zs.map V.str)) ∧ zs.length = i ∧ ∀ z ∈ zs, nameB (.str z) = true)
      ⟨_, _, _, _, _, [], rfl, sH.trans s5, eR5, upd_same, rfl, fun z hz => nomatch hz⟩ (fun i σ H' hi hP => ?_) (fun σ H' hP => ?_)
    · rw [em] at hi
      obtain ⟨y4, y5, y6, y7, y8, zs, rfl, S, eR, eN, lz, hz⟩ := hP
      have e0 : (0 : Int) + (i : Nat) = (i : Nat) := by omega
      rw [e0]
      have i0 : m ≠ 0 := by omega
      obtain ⟨r0, _, g0, l0, u0⟩ := row_at hrl hb (j := 0) (t := 13) rfl
      obtain ⟨r1, _, g1, l1, u1⟩ := row_at hrl hb (j := 1) (t := 2) rfl
      obtain ⟨r2, _, g2, l2, u2⟩ := row_at hrl hb (j := 2) (t := 6) rfl
      refine ⟨.ref R, rfl, .int (i : Nat), rfl, 6, (i : Nat), rfl, rfl, .inl ⟨by decide, by decide⟩, 3, _, rfl, rfl, _, rfl, .int (i : Nat), rfl, 6, (i : Nat), rfl, rfl, .inl ⟨by decide, by decide⟩, 9, _, rfl, rfl, _, rfl, R, rs.map V.int, rfl, .inl (.inl eR), fun w1 nw1 => ?_⟩
      have ec : cutV (rs.map V.int) (some (3 + 6 * ((i : Nat) : Int))) (some (9 + 6 * ((i : Nat) : Int))) = (((rs.drop (3 + 6 * i)).take 6)).map V.int := by
        rw [show (3 + 6 * ((i : Nat) : Int)) = ((3 + 6 * i : Nat) : Int) by omega, show (9 + 6 * ((i : Nat) : Int)) = ((9 + 6 * i : Nat) : Int) by omega, cut_nat, List.map_take, List.map_drop, show 9 + 6 * i - (3 + 6 * i) = 6 by omega]
      rw [ec]
      have sw1 := same_upd (o := .lst (((rs.drop (3 + 6 * i)).take 6).map V.int)) nw1
      have own1 := own_cut hrl hb hi
      refine KnC.asg_if (fun σ2 G => ∃ (wa : Addr) (os : List Int), σ2 = [some (.int c), some (.int m), some (.ref R), some (.ref N), some (.int (i : Nat)), some (.ref wa), y6, y7, y8, none] ∧ Same H' G ∧ G wa = some (.lst (os.map V.int)) ∧ Own os) (fun go => ?_) (fun σ2 G hT => ?_)
      · refine ⟨.ref R, rfl, R, rs.map V.int, 1, .int r1, rfl, rfl, .inl (.inl (sw1 _ _ eR)), atI_nat (j := 1) g1, rfl, _, rfl, ite2 (fun e => ?_) (fun e => ?_)⟩
        · refine ⟨.ref R, rfl, _, rfl, _, rfl, R, rs.map V.int, rfl, .inl (.inl (sw1 _ _ eR)), fun w2 nw2 => ?_⟩
          refine go _ _ ⟨w2, (rs.drop 3).take 6, rfl, sw1.trans (same_upd nw2), ?_, own_cut hrl hb (k := 0) (by omega)⟩
          rw [upd_same, show (some (3 : Int)) = some ((3 : Nat) : Int) from rfl, show (some (9 : Int)) = some ((9 : Nat) : Int) from rfl, cut_nat, List.map_take, List.map_drop]
        · exact go _ _ ⟨w1, _, rfl, sw1, upd_same, own1⟩
      · obtain ⟨wa, os, rfl, SG, ewa, lo, ow⟩ := hT
        obtain ⟨o0, go0, gV, l0', u0'⟩ := row_at (rs := os) (ss := [6, 13, 13, 13, 13, 13]) lo ow (j := 0) (t := 6) rfl
        have eRG := SG _ _ eR
        have eNG := SG _ _ eN
        refine ⟨⟨"", rfl⟩, .ref wa, rfl, 1, rfl, .ref wa, rfl, wa, os.map V.int, 0, .int o0, rfl, rfl, .inl (.inl ewa), atI_nat (j := 0) gV, 1, o0, rfl, rfl, _, rfl, wa, os.map V.int, rfl, .inl (.inl ewa), fun cc nc => ?_⟩
        have cs_ : cutV (os.map V.int) (some 1) (some (1 + o0)) = ((os.drop 1).take o0.toNat).map V.int := by
          rw [show (1 + o0) = ((1 + o0.toNat : Nat) : Int) by omega, show (some (1 : Int)) = some ((1 : Nat) : Int) from rfl, cut_nat, List.map_take, List.map_drop, show 1 + o0.toNat - 1 = o0.toNat by omega]
        rw [cs_]
        have scc := same_upd (o := .lst (((os.drop 1).take o0.toNat).map V.int)) nc
        have ecc : (upd G cc (.lst (((os.drop 1).take o0.toNat).map V.int))) cc = some (.lst (((os.drop 1).take o0.toNat).map V.int)) := upd_same
        have lcs : ((os.drop 1).take o0.toNat).length ≤ 5 := by rw [List.length_take, List.length_drop]; omega
        have mcs : ∀ (j : Nat) (r : Int), ((os.drop 1).take o0.toNat)[j]? = some r → 0 ≤ r ∧ r < 13 := fun j r e => by
          have hj : j < o0.toNat := by
            have := (List.getElem?_eq_some_iff.mp e).1
            rw [List.length_take] at this
            omega
          rw [List.getElem?_take_of_lt hj, List.getElem?_drop] at e
          refine ow (1 + j) r 13 e ?_
          have : j < 5 := by omega
          rcases j with _ | _ | _ | _ | _ | j
          · rfl
          · rfl
          · rfl
          · rfl
          · rfl
          · omega
        generalize (os.drop 1).take o0.toNat = cs at scc ecc lcs mcs
        generalize upd G cc (.lst (cs.map V.int)) = G1 at scc ecc
        refine ⟨cc, rfl, ⟨_, .inl (.inl ecc)⟩, fun D nD => lc_list (K := K) (a := cc) (xs := cs.map V.int) (fun i H' => Same G1 H' ∧ ∃ ys : List Str, H' D = some (.lst (ys.map V.str)) ∧ ys.length = i ∧ (∀ y ∈ ys, y.cps.size = 1) ∧ ∀ y ∈ ys, ∀ c ∈ y.cps.toList, inL c = true)
          ⟨same_upd nD, [], upd_same, rfl, (fun y hy => nomatch hy), fun y hy => nomatch hy⟩ (fun i H' _ hP => hP.1.seq (.inl (.inl ecc))) (fun i x H' hx hP => ?_) (fun H' hP => ?_)⟩
        · obtain ⟨sm', ys, eD, hl, h1, h2⟩ := hP
          rw [List.getElem?_map] at hx
          cases gx : cs[i]? with
          | none => rw [gx] at hx; cases hx
          | some r =>
          rw [gx] at hx
          cases hx
          obtain ⟨l, u⟩ := mcs i r gx
          have hi : i < cs.length := (List.getElem?_eq_some_iff.mp gx).1
          obtain ⟨j, rfl⟩ : ∃ j : Nat, r = (j : Int) := ⟨r.toNat, by omega⟩
          have hj : j < half1.cps.toList.length := by
            have : half1.cps.toList.length = 13 := by decide
            omega
          refine ⟨rfl, ?_⟩
          unfold tYes
          refine iteT ?_
          refine ⟨.int j, rfl, half1, (j : Int), half1.cps.toList[j], rfl, rfl, smallE (by decide), atI_nat (List.getElem?_eq_getElem hj), ys.map V.str, eD, ?_, same_set nD sm', ys ++ [⟨#[half1.cps.toList[j]]⟩], ?_, ?_, ?_, ?_⟩
          · rw [List.length_map]; exact small (by omega)
          · rw [upd_same, List.map_append]; rfl
          · rw [List.length_append, hl]; rfl
          · intro y hy
            rcases List.mem_append.mp hy with hy | hy
            · exact h1 y hy
            · rw [List.mem_singleton.mp hy]; rfl
          · intro y hy c hc
            rcases List.mem_append.mp hy with hy | hy
            · exact h2 y hy c hc
            · rw [List.mem_singleton.mp hy] at hc
              rw [List.mem_singleton.mp (show c ∈ [half1.cps.toList[j]] from hc)]
              exact half1_in _ (List.getElem_mem hj)
        · obtain ⟨sm', ys, eD, hl, h1, h2⟩ := hP
          rw [List.length_map] at hl
          have hz1 := join_size h1
          have hin := join_mem h2
          have hs : (ys.map (·.length)).sum + ys.length * ("" : Str).length ≤ 16777216 := by rw [join_sum h1]; omega
          have SG' : Same G H' := scc.trans sm'
          have eRF := SG' _ _ eRG
          have eNF := SG' _ _ eNG
          have SF := S.trans (SG.trans SG')
          refine ⟨"", D, ys, rfl, rfl, .inl (.inl (.inl eD)), hs, ?_⟩
          generalize Txt.join "" ys = z at hz1 hin ⊢
          have hz5 : z.cps.size ≤ 5 := by omega
          have hzl : z.length ≤ sizeLine := smallE (show z.cps.size ≤ 100000 by omega)
          refine ⟨.ref R, rfl, R, rs.map V.int, 2, .int r2, rfl, rfl, .inl (.inl eRF), atI_nat (j := 2) g2, .inl ⟨r2, rfl, .str z, rfl, .str z, z.cps.size, rfl, ⟨hzl, rfl⟩, (z.cps.size : Int), 1, rfl, rfl, r2, (z.cps.size : Int) + 1, rfl, rfl, (show (0 : Int) < (z.cps.size : Int) + 1 by omega), ?_⟩⟩
          obtain ⟨j, ej⟩ : ∃ j : Nat, (r0 + 5 * ((i : Nat) : Int)) % 13 = (j : Int) := ⟨((r0 + 5 * ((i : Nat) : Int)) % 13).toNat, by omega⟩
          have hj : j < half2.cps.toList.length := by
            have : half2.cps.toList.length = 13 := by decide
            omega
          refine ⟨.ref R, rfl, R, rs.map V.int, 0, .int r0, rfl, rfl, .inl (.inl eRF), atI_nat (j := 0) g0, .int (i : Nat), rfl, 5, (i : Nat), rfl, rfl, .inl ⟨by decide, by decide⟩, r0, _, rfl, rfl, .inl ⟨_, rfl, _, 13, rfl, rfl, (show (0 : Int) < 13 by decide), half2, _, half2.cps.toList[j], rfl, rfl, smallE (by decide), by rw [ej]; exact atI_nat (List.getElem?_eq_getElem hj), ?_⟩⟩
          refine ⟨.ref N, rfl, .inl ⟨rfl, _, .inl (.inl eNF)⟩, .str z, rfl, _, rfl, _, rfl, z, rfl, hzl, .str _, rfl, _, _, rfl, rfl, ?_, .str z, rfl, _, rfl, _, rfl, z, rfl, hzl, _, _, rfl, rfl, ?_, N, _, _, rfl, rfl, eNF, ?_, ?_⟩
          · refine smallE ?_
            have := cutS_length z none (some (r2 % ((z.cps.size : Int) + 1)))
            show (cutS z none _).cps.size + 1 ≤ 100000
            omega
          · refine smallE ?_
            have h1 := cutS_length z none (some (r2 % ((z.cps.size : Int) + 1)))
            have h2 := cutS_length z (some (r2 % ((z.cps.size : Int) + 1))) none
            show ((cutS z none _) ++ (⟨#[_]⟩ : Str)).cps.size + (cutS z _ none).cps.size ≤ 100000
            rw [app_size]
            show (cutS z none _).cps.size + 1 + _ ≤ _
            omega
          · exact small (by rw [List.length_map]; omega)
          · refine ⟨_, _, _, _, _, zs ++ [_], rfl, same_set nNH SF, (upd_ne nNR).trans eRF, by rw [upd_same, List.map_append]; rfl, by rw [List.length_append, lz]; rfl, fun y hy => ?_⟩
            rcases List.mem_append.mp hy with hy | hy
            · exact hz y hy
            · rw [List.mem_singleton.mp hy]
              have h1 := cutS_length z none (some (r2 % ((z.cps.size : Int) + 1)))
              have h2 := cutS_length z (some (r2 % ((z.cps.size : Int) + 1))) none
              have sz : (cutS z none (some (r2 % ((z.cps.size : Int) + 1))) ++ (⟨#[half2.cps.toList[j]]⟩ : Str) ++ cutS z (some (r2 % ((z.cps.size : Int) + 1))) none).cps.size = (cutS z none (some (r2 % ((z.cps.size : Int) + 1)))).cps.size + 1 + (cutS z (some (r2 % ((z.cps.size : Int) + 1))) none).cps.size := by
                rw [app_size, app_size]; rfl
              show (decide _ && decide _ && List.all _ inL) = true
              rw [sz, Bool.and_eq_true, Bool.and_eq_true, List.all_eq_true]
              refine ⟨⟨decide_eq_true (by omega), decide_eq_true (by omega)⟩, fun c hc => ?_⟩
              rcases app_mem hc with hc | hc
              · rcases app_mem hc with hc | hc
                · exact hin c (cutS_mem hc)
                · rw [List.mem_singleton.mp (show c ∈ [half2.cps.toList[j]] from hc)]
                  exact half2_in _ (List.getElem_mem hj)
              · exact hin c (cutS_mem hc)
    · rw [em] at hP
      obtain ⟨y4, y5, y6, y7, y8, zs, rfl, S, eR, eN, lz, hz⟩ := hP
      exact ⟨.ref N, rfl, q H' N zs S nNH eN lz hz⟩

theorem ok__law_is_integer {f : Addr} {D : Addr} {fd : FuncData} (T : Txt K mg D) (F : Fun K "_law_is_integer" "_law_is_integer" s__law_is_integer f fd)  : FnOk P w K mg base CX0 1 f fd ["_law_thing_here"] (sp__law_is_integer K) := by
  have nd := sc__law_is_integer.nd
  refine F.ok sc__law_is_integer (fun vs H Q E h => ?_) (fun cdv A outer s H vs Q E hr h => ?_)
  · obtain ⟨v, rfl, _⟩ := h
    rfl
  · obtain ⟨v, rfl, hv, q⟩ := h
    refine ⟨_, (pss_one (ps_ret (pe_and (pe_callB call_isi (by rfl) T.m_isinstance (by decide +kernel) (pa_cons (pv 0) (pa_cons (pe_bltn (v := .ty "int") (u := .type "int") (by rfl) T.m_int (by decide +kernel) rfl) pa_nil))) (pe_one (pe_not (pe_callB call_isi (by rfl) T.m_isinstance (by decide +kernel) (pa_cons (pv 0) (pa_cons (pe_bltn (v := .ty "bool") (u := .type "bool") (by rfl) T.m_bool (by decide +kernel) rfl) pa_nil)))))))), ?_⟩
    obtain ⟨t, ht, hs, hi, hb⟩ := hv.ty
    refine ⟨v, rfl, v, .ty "int", t, _, isI v, rfl, .ty _, ht, hi, _, rfl, ?_⟩
    have q' := q H (Same.refl H)
    unfold wholeB at q'
    by_cases e : isI v = true
    · rw [if_pos e]
      refine ⟨v, rfl, v, .ty "bool", t, _, isB v, rfl, .ty _, ht, hb, _, rfl, ?_⟩
      rw [e] at q'
      exact q'
    · rw [if_neg e]
      rw [Bool.eq_false_iff.mpr e] at q'
      exact q'


theorem ok__law_flag {f : Addr} {D : Addr} {fd : FuncData} (T : Txt K mg D) (F : Fun K "_law_flag" "_law_flag" s__law_flag f fd)  : FnOk P w K mg base CX0 1 f fd ["_law_told", "_law_due"] (sp__law_flag K) := by
  have nd := sc__law_flag.nd
  refine F.ok sc__law_flag (fun vs H Q E h => ?_) (fun cdv A outer s H vs Q E hr h => ?_)
  · obtain ⟨a, b, rfl, _⟩ := h
    rfl
  · obtain ⟨a, b, rfl, q⟩ := h
    refine ⟨_, (pss_one (ps_ret (pe_and (pe_callB call_isi (by rfl) T.m_isinstance (by decide +kernel) (pa_cons (pv 0) (pa_cons (pe_bltn (v := .ty "bool") (u := .type "bool") (by rfl) T.m_bool (by decide +kernel) rfl) pa_nil))) (pe_one (pe_cmpR op_eq (pv 0) (pv 1) (nomark _)))))), ?_⟩
    refine ⟨.bl a, rfl, .bl a, .ty "bool", _, _, true, rfl, .ty _, .base (.bl a), kit_ty (show kitB "bool" "bool" = some true by decide +kernel), _, rfl, iteT ⟨.bl a, rfl, .bl b, rfl, rfl, ?_⟩⟩
    have e : decide (V.bl a = V.bl b) = decide (a = b) := by cases a <;> cases b <;> rfl
    rw [e]
    exact q

/-! ### two values are the same, kind by kind -/
inductive ExA (K : PySem.W.Frag) : V → V → Prop where
  | non : ExA K .non .non
  | bl (b : Bool) : ExA K (.bl b) (.bl b)
  | int (i : Int) : ExA K (.int i) (.int i)
  | str (z : Str) : ExA K (.str z) (.str z)
/-- .. with lists and tuples, nested less than n deep -/
def Ex (K : PySem.W.Frag) (H : Hp) : Nat → V → V → Prop
  | 0, _, _ => False
  | n + 1, x, y => ExA K x y ∨ ∃ b a a' xs ys, x = .ref a ∧ y = .ref a' ∧ H a = some (rowO b xs) ∧ H a' = some (rowO b ys) ∧ xs.length ≤ 100000 ∧ Paired (Ex K H n) xs ys
theorem Ex.mono {K : PySem.W.Frag} {H H' : Hp} (s : Same H H') : ∀ {n : Nat} {x y : V}, Ex K H n x y → Ex K H' n x y
  | 0, _, _, h => h
  | n + 1, _, _, h => by
    rcases h with h | ⟨b, a, a', xs, ys, e1, e2, h1, h2, l, p⟩
    · exact .inl h
    · exact .inr ⟨b, a, a', xs, ys, e1, e2, s _ _ h1, s _ _ h2, l, Paired.mapP p fun _ _ e => Ex.mono s e⟩
def spEx (n : Nat) (K : PySem.W.Frag) : Sp := fun vs H Q _ => ∃ x y, vs = [x, y] ∧ Ex K H n x y ∧ ∀ H', Same H H' → Q (.bl true) H'
def sp__law_exact := spEx 4
theorem ok_ex0 {f : Addr} {fd : FuncData} (F : Fun K "_law_exact" "_law_exact" s__law_exact f fd) : FnOk P w K mg base CX0 1 f fd ["_law_told", "_law_due"] (spEx 0 K) := by
  refine F.ok sc__law_exact (fun vs H Q E h => ?_) (fun cdv A outer s H vs Q E hr h => ?_)
  · obtain ⟨x, y, rfl, _⟩ := h
    rfl
  · obtain ⟨x, y, rfl, hx, q⟩ := h
    exact hx.elim
theorem ok_exs {f : Addr} {D : Addr} {fd : FuncData} (T : Txt K mg D) (F : Fun K "_law_exact" "_law_exact" s__law_exact f fd) (n : Nat) (c__law_is_integer : Cal P w K mg base 1 "_law_is_integer" (sp__law_is_integer K) [])
    (c__law_exact : Cal P w K mg base (n + 1) "_law_exact" (spEx n K) []) : FnOk P w K mg base CX0 (n + 1 + 1) f fd ["_law_told", "_law_due"] (spEx (n + 1) K) := by
  have nd := sc__law_exact.nd
  refine F.ok sc__law_exact (fun vs H Q E h => ?_) (fun cdv A outer s H vs Q E hr h => ?_)
  · obtain ⟨x, y, rfl, _⟩ := h
    rfl
  · obtain ⟨x, y, rfl, hx, q⟩ := h
    refine ⟨_, (pss_cons (ps_if (PW.pt (pw_or (pt_val (pe_callB call_isi (by rfl) T.m_isinstance (by decide +kernel) (pa_cons (pv 1) (pa_cons (pe_bltn (v := .ty "list") (u := .type "list") (by rfl) T.m_list (by decide +kernel) rfl) pa_nil)))) (pw_or1 (pt_val (pe_callB call_isi (by rfl) T.m_isinstance (by decide +kernel) (pa_cons (pv 1) (pa_cons (pe_bltn (v := .ty "tuple") (u := .type "tuple") (by rfl) T.m_tuple (by decide +kernel) rfl) pa_nil))))))) (pss_cons (ps_if (PW.pt (pw_and (pt_val (pe_callB call_isi (by rfl) T.m_isinstance (by decide +kernel) (pa_cons (pv 1) (pa_cons (pe_bltn (v := .ty "list") (u := .type "list") (by rfl) T.m_list (by decide +kernel) rfl) pa_nil)))) (pw_and1 (pt_not (pt_val (pe_callB call_isi (by rfl) T.m_isinstance (by decide +kernel) (pa_cons (pv 0) (pa_cons (pe_bltn (v := .ty "list") (u := .type "list") (by rfl) T.m_list (by decide +kernel) rfl) pa_nil)))))))) (pss_one (ps_ret pe_bl)) pss_nil)
      (pss_cons (ps_if (PW.pt (pw_and (pt_val (pe_callB call_isi (by rfl) T.m_isinstance (by decide +kernel) (pa_cons (pv 1) (pa_cons (pe_bltn (v := .ty "tuple") (u := .type "tuple") (by rfl) T.m_tuple (by decide +kernel) rfl) pa_nil)))) (pw_and1 (pt_not (pt_val (pe_callB call_isi (by rfl) T.m_isinstance (by decide +kernel) (pa_cons (pv 0) (pa_cons (pe_bltn (v := .ty "tuple") (u := .type "tuple") (by rfl) T.m_tuple (by decide +kernel) rfl) pa_nil)))))))) (pss_one (ps_ret pe_bl)) pss_nil)
      (pss_cons (ps_if (pt_cmpR op_ne (pe_callB call_len (by rfl) T.m_len (by decide +kernel) (pa_cons (pv 0) pa_nil)) (pe_callB call_len (by rfl) T.m_len (by decide +kernel) (pa_cons (pv 1) pa_nil)) (nomark _)) (pss_one (ps_ret pe_bl)) pss_nil)
      (pss_cons (ps_for PassesOwn.never rfl (pi_range1 (by rfl) T.m_range (pa_cons (pe_callB call_len (by rfl) T.m_len (by decide +kernel) (pa_cons (pv 1) pa_nil)) pa_nil)) (pg_name (i := 2) nd rfl (.inl rfl)) (pss_one (ps_if (pt_not (pt_val (pe_c c__law_exact hr (by omega) (by rfl) (pa_cons (pe_ix (r := KnC.rIx K) (KnC.ix_seq ix_list ix_tup) (pv 0) (pv 2) (fun _ _ => rfl)) (pa_cons (pe_ix (r := KnC.rIx K) (KnC.ix_seq ix_list ix_tup) (pv 1) (pv 2) (fun _ _ => rfl)) pa_nil))))) (pss_one (ps_ret pe_bl)) pss_nil)))
      (pss_one (ps_ret pe_bl)))))) pss_nil)
      (pss_cons (ps_if (pt_cmpR op_isN (pv 1) pe_non (nomark _)) (pss_one (ps_ret (pe_cmpR op_isN (pv 0) pe_non (nomark _)))) pss_nil)
      (pss_cons (ps_if (pt_val (pe_callB call_isi (by rfl) T.m_isinstance (by decide +kernel) (pa_cons (pv 1) (pa_cons (pe_bltn (v := .ty "bool") (u := .type "bool") (by rfl) T.m_bool (by decide +kernel) rfl) pa_nil)))) (pss_one (ps_ret (pe_and (pe_callB call_isi (by rfl) T.m_isinstance (by decide +kernel) (pa_cons (pv 0) (pa_cons (pe_bltn (v := .ty "bool") (u := .type "bool") (by rfl) T.m_bool (by decide +kernel) rfl) pa_nil))) (pe_one (pe_cmpR op_eq (pv 0) (pv 1) (nomark _)))))) pss_nil)
      (pss_cons (ps_if (pt_val (pe_callB call_isi (by rfl) T.m_isinstance (by decide +kernel) (pa_cons (pv 1) (pa_cons (pe_bltn (v := .ty "int") (u := .type "int") (by rfl) T.m_int (by decide +kernel) rfl) pa_nil)))) (pss_one (ps_ret (pe_and (pe_c c__law_is_integer hr (by omega) (by rfl) (pa_cons (pv 0) pa_nil)) (pe_one (pe_cmpR op_eq (pv 0) (pv 1) (nomark _)))))) pss_nil)
      (pss_one (ps_ret (pe_and (pe_callB call_isi (by rfl) T.m_isinstance (by decide +kernel) (pa_cons (pv 0) (pa_cons (pe_bltn (v := .ty "str") (u := .type "str") (by rfl) T.m_str (by decide +kernel) rfl) pa_nil))) (pe_one (pe_cmpR op_eq (pv 0) (pv 1) (nomark _)))))))))), ?_⟩
    have q0 := q H (Same.refl H)
    rcases hx with hx | ⟨b, a, a', xs, ys, rfl, rfl, ha, ha', hl, hp⟩
    · cases hx with
      | non =>
        refine ⟨.non, rfl, .non, .ty "list", _, _, false, rfl, .ty _, .base .non, kit_ty (show kitB "NoneType" "list" = some false by decide +kernel), _, rfl, iteF ?_⟩
        refine ⟨.non, rfl, .non, .ty "tuple", _, _, false, rfl, .ty _, .base .non, kit_ty (show kitB "NoneType" "tuple" = some false by decide +kernel), _, rfl, iteF ?_⟩
        exact ⟨.non, rfl, rfl, _, rfl, iteT ⟨.non, rfl, rfl, q0⟩⟩
      | bl c =>
        refine ⟨.bl c, rfl, .bl c, .ty "list", _, _, false, rfl, .ty _, .base (.bl c), kit_ty (show kitB "bool" "list" = some false by decide +kernel), _, rfl, iteF ?_⟩
        refine ⟨.bl c, rfl, .bl c, .ty "tuple", _, _, false, rfl, .ty _, .base (.bl c), kit_ty (show kitB "bool" "tuple" = some false by decide +kernel), _, rfl, iteF ?_⟩
        refine ⟨.bl c, rfl, rfl, _, rfl, ?_⟩
        rw [decide_eq_false (show ¬ V.bl c = V.non from fun z => by cases z)]
        refine iteF ⟨.bl c, rfl, .bl c, .ty "bool", _, _, true, rfl, .ty _, .base (.bl c), kit_ty (show kitB "bool" "bool" = some true by decide +kernel), _, rfl, iteT ?_⟩
        refine ⟨.bl c, rfl, .bl c, .ty "bool", _, _, true, rfl, .ty _, .base (.bl c), kit_ty (show kitB "bool" "bool" = some true by decide +kernel), _, rfl, iteT ⟨.bl c, rfl, .bl c, rfl, rfl, ?_⟩⟩
        rw [decide_eq_true rfl]
        exact q0
      | int i =>
        refine ⟨.int i, rfl, .int i, .ty "list", _, _, false, rfl, .ty _, .base (.int i), kit_ty (show kitB "int" "list" = some false by decide +kernel), _, rfl, iteF ?_⟩
        refine ⟨.int i, rfl, .int i, .ty "tuple", _, _, false, rfl, .ty _, .base (.int i), kit_ty (show kitB "int" "tuple" = some false by decide +kernel), _, rfl, iteF ?_⟩
        refine ⟨.int i, rfl, rfl, _, rfl, ?_⟩
        rw [decide_eq_false (show ¬ V.int i = V.non from fun z => by cases z)]
        refine iteF ⟨.int i, rfl, .int i, .ty "bool", _, _, false, rfl, .ty _, .base (.int i), kit_ty (show kitB "int" "bool" = some false by decide +kernel), _, rfl, iteF ?_⟩
        refine ⟨.int i, rfl, .int i, .ty "int", _, _, true, rfl, .ty _, .base (.int i), kit_ty (show kitB "int" "int" = some true by decide +kernel), _, rfl, iteT ?_⟩
        refine ⟨.int i, rfl, .int i, rfl, .int _, fun H1 s1 => ⟨_, rfl, iteT ⟨.int i, rfl, .int i, rfl, rfl, ?_⟩⟩⟩
        rw [decide_eq_true rfl]
        exact q H1 s1
      | str z =>
        refine ⟨.str z, rfl, .str z, .ty "list", _, _, false, rfl, .ty _, .base (.str z), kit_ty (show kitB "str" "list" = some false by decide +kernel), _, rfl, iteF ?_⟩
        refine ⟨.str z, rfl, .str z, .ty "tuple", _, _, false, rfl, .ty _, .base (.str z), kit_ty (show kitB "str" "tuple" = some false by decide +kernel), _, rfl, iteF ?_⟩
        refine ⟨.str z, rfl, rfl, _, rfl, ?_⟩
        rw [decide_eq_false (show ¬ V.str z = V.non from fun z => by cases z)]
        refine iteF ⟨.str z, rfl, .str z, .ty "bool", _, _, false, rfl, .ty _, .base (.str z), kit_ty (show kitB "str" "bool" = some false by decide +kernel), _, rfl, iteF ?_⟩
        refine ⟨.str z, rfl, .str z, .ty "int", _, _, false, rfl, .ty _, .base (.str z), kit_ty (show kitB "str" "int" = some false by decide +kernel), _, rfl, iteF ?_⟩
        refine ⟨.str z, rfl, .str z, .ty "str", _, _, true, rfl, .ty _, .base (.str z), kit_ty (show kitB "str" "str" = some true by decide +kernel), _, rfl, iteT ⟨.str z, rfl, .str z, rfl, rfl, ?_⟩⟩
        rw [decide_eq_true rfl]
        exact q0
    · have hly := hp.length
      have len1 : ∀ {G : Hp}, Same H G → LenV K (.ref a) G xs.length := fun s => row_len (s _ _ ha)
      have len2 : ∀ {G : Hp}, Same H G → LenV K (.ref a') G xs.length := fun s => by rw [hly]; exact row_len (s _ _ ha')
      cases b with
      | true =>
        refine ⟨.ref a', rfl, .ref a', .ty "list", _, _, true, rfl, .ty _, .base (.lst ha'), kit_ty (show kitB "list" "list" = some true by decide +kernel), _, rfl, iteT ?_⟩
        refine ⟨.ref a', rfl, .ref a', .ty "list", _, _, true, rfl, .ty _, .base (.lst ha'), kit_ty (show kitB "list" "list" = some true by decide +kernel), _, rfl, iteT ⟨.ref a, rfl, .ref a, .ty "list", _, _, true, rfl, .ty _, .base (.lst ha), kit_ty (show kitB "list" "list" = some true by decide +kernel), _, rfl, iteF ?_⟩⟩
        refine ⟨.ref a', rfl, .ref a', .ty "tuple", _, _, false, rfl, .ty _, .base (.lst ha'), kit_ty (show kitB "list" "tuple" = some false by decide +kernel), _, rfl, iteF (iteF ?_)⟩
        refine ⟨.ref a, rfl, .ref a, xs.length, rfl, len1 (Same.refl H), .ref a', rfl, .ref a', xs.length, rfl, len2 (Same.refl H), rfl, _, rfl, ?_⟩
        rw [decide_eq_true rfl]
        refine iteF ⟨.ref a', rfl, .ref a', xs.length, rfl, len2 (Same.refl H), (xs.length : Int), rfl, by omega, by omega, ?_⟩
        refine for_range (lo := 0) (n := ((xs.length : Int)).toNat) (fun i σ H' => Same H H' ∧ ∃ y2, σ = [some (.ref a), some (.ref a'), y2]) ⟨Same.refl H, none, rfl⟩ (fun i σ H' hi hP => ?_) (fun σ H' hP => ?_)
        · obtain ⟨S, y2, rfl⟩ := hP
          have hi' : i < xs.length := by omega
          have g1 : xs[i]? = some xs[i] := List.getElem?_eq_getElem hi'
          obtain ⟨y, g2, hxy⟩ := paired_get hp g1
          have e0 : (0 : Int) + (i : Nat) = (i : Nat) := by omega
          rw [e0]
          refine ⟨.ref a, rfl, .int (i : Nat), rfl, .inl ⟨a, xs, _, xs[i], rfl, rfl, .inl (.inl (S _ _ ha)), atI_nat g1, ?_⟩⟩
          refine ⟨.ref a', rfl, .int (i : Nat), rfl, .inl ⟨a', ys, _, y, rfl, rfl, .inl (.inl (S _ _ ha')), atI_nat g2, ?_⟩⟩
          exact ⟨xs[i], y, rfl, Ex.mono S hxy, fun H1 s1 => ⟨_, rfl, iteF ⟨S.trans s1, _, rfl⟩⟩⟩
        · obtain ⟨S, y2, rfl⟩ := hP
          exact q H' S
      | false =>
        refine ⟨.ref a', rfl, .ref a', .ty "list", _, _, false, rfl, .ty _, .base (.tup ha'), kit_ty (show kitB "tuple" "list" = some false by decide +kernel), _, rfl, iteF ⟨.ref a', rfl, .ref a', .ty "tuple", _, _, true, rfl, .ty _, .base (.tup ha'), kit_ty (show kitB "tuple" "tuple" = some true by decide +kernel), _, rfl, iteT ?_⟩⟩
        refine ⟨.ref a', rfl, .ref a', .ty "list", _, _, false, rfl, .ty _, .base (.tup ha'), kit_ty (show kitB "tuple" "list" = some false by decide +kernel), _, rfl, iteF (iteF ?_)⟩
        refine ⟨.ref a', rfl, .ref a', .ty "tuple", _, _, true, rfl, .ty _, .base (.tup ha'), kit_ty (show kitB "tuple" "tuple" = some true by decide +kernel), _, rfl, iteT ⟨.ref a, rfl, .ref a, .ty "tuple", _, _, true, rfl, .ty _, .base (.tup ha), kit_ty (show kitB "tuple" "tuple" = some true by decide +kernel), _, rfl, iteF ?_⟩⟩
        refine ⟨.ref a, rfl, .ref a, xs.length, rfl, len1 (Same.refl H), .ref a', rfl, .ref a', xs.length, rfl, len2 (Same.refl H), rfl, _, rfl, ?_⟩
        rw [decide_eq_true rfl]
        refine iteF ⟨.ref a', rfl, .ref a', xs.length, rfl, len2 (Same.refl H), (xs.length : Int), rfl, by omega, by omega, ?_⟩
        refine for_range (lo := 0) (n := ((xs.length : Int)).toNat) (fun i σ H' => Same H H' ∧ ∃ y2, σ = [some (.ref a), some (.ref a'), y2]) ⟨Same.refl H, none, rfl⟩ (fun i σ H' hi hP => ?_) (fun σ H' hP => ?_)
        · obtain ⟨S, y2, rfl⟩ := hP
          have hi' : i < xs.length := by omega
          have g1 : xs[i]? = some xs[i] := List.getElem?_eq_getElem hi'
          obtain ⟨y, g2, hxy⟩ := paired_get hp g1
          have e0 : (0 : Int) + (i : Nat) = (i : Nat) := by omega
          rw [e0]
          refine ⟨.ref a, rfl, .int (i : Nat), rfl, .inr ⟨a, xs, _, xs[i], rfl, rfl, .inl (.inl (S _ _ ha)), atI_nat g1, ?_⟩⟩
          refine ⟨.ref a', rfl, .int (i : Nat), rfl, .inr ⟨a', ys, _, y, rfl, rfl, .inl (.inl (S _ _ ha')), atI_nat g2, ?_⟩⟩
          exact ⟨xs[i], y, rfl, Ex.mono S hxy, fun H1 s1 => ⟨_, rfl, iteF ⟨S.trans s1, _, rfl⟩⟩⟩
        · obtain ⟨S, y2, rfl⟩ := hP
          exact q H' S

theorem paired_same {α : Type} {F : α → α → Prop} {l : List α} (h : ∀ x ∈ l, F x x) : Paired F l l := by
  induction l with
  | nil => exact .nil
  | cons x r ih => exact .cons (h x List.mem_cons_self) (ih fun y hy => h y (List.mem_cons_of_mem _ hy))
theorem ex_strs {K : PySem.W.Frag} {H : Hp} {n : Nat} {a b : Addr} {xs : List Str} (ha : H a = some (.lst (xs.map V.str))) (hb : H b = some (.lst (xs.map V.str))) (hl : xs.length ≤ 100000) : Ex K H (n + 2) (.ref a) (.ref b) := by
  refine .inr ⟨true, a, b, _, _, rfl, rfl, ha, hb, by rw [List.length_map]; exact hl, paired_same fun x hx => ?_⟩
  obtain ⟨y, _, rfl⟩ := List.mem_map.mp hx
  exact .inl (.str y)

end
end Kn

set_option Elab.async false
set_option linter.all false
set_option maxRecDepth 100000
set_option maxHeartbeats 4000000
namespace Kn
open PySem PySem.Spec PyProof.Rows L2
open C8 (Cal pe_c pe_gc Mak pe_mk)
section
variable {P : Program} {w : World} {K : PySem.W.Frag} {mg : Str → Option Value} {base : Heap}
/-! ### tables of texts -/
def putT (tb : List (Str × Str)) (x y : Str) : List (Str × Str) := if (tb.any fun p => decide (p.1 = x)) = true then tb.map fun p => if p.1 = x then (x, y) else p else tb ++ [(x, y)]
theorem fkv_any (tb : List (Str × Str)) (x : Str) : ((fkv tb).any fun kv => decide (kv.1 = (Sum.inr x : Key))) = tb.any fun p => decide (p.1 = x) := by
  unfold fkv
  rw [List.any_map]
  congr 1
  funext p
  exact decide_eq_decide.mpr ⟨Sum.inr.inj, fun e => congrArg _ e⟩
theorem fkv_putT (tb : List (Str × Str)) (x y : Str) : putK (fkv tb) (.inr x) (.str y) = fkv (putT tb x y) := by
  unfold putK putT
  rw [fkv_any]
  split
  · unfold fkv
    rw [List.map_map, List.map_map]
    refine List.map_congr_left fun p _ => ?_
    show (if (Sum.inr p.1 : Key) = Sum.inr x then ((Sum.inr p.1 : Key), V.str y) else (Sum.inr p.1, V.str p.2)) = (Sum.inr (if p.1 = x then (x, y) else p).1, V.str (if p.1 = x then (x, y) else p).2)
    by_cases e : p.1 = x
    · rw [if_pos (by rw [e]), if_pos e, e]
    · rw [if_neg (fun z => e (Sum.inr.inj z)), if_neg e]
  · unfold fkv
    rw [List.map_append]; rfl
theorem putT_len (tb : List (Str × Str)) (x y : Str) : (putT tb x y).length ≤ tb.length + 1 := by
  unfold putT
  split
  · rw [List.length_map]; omega
  · rw [List.length_append]; exact Nat.le_refl _
theorem putT_mem {tb : List (Str × Str)} {x y : Str} {p : Str × Str} (h : p ∈ putT tb x y) : p ∈ tb ∨ p = (x, y) := by
  unfold putT at h
  split at h
  · obtain ⟨u, hu, e⟩ := List.mem_map.mp h
    by_cases z : u.1 = x
    · rw [if_pos z] at e; exact .inr e.symm
    · rw [if_neg z] at e; exact .inl (e ▸ hu)
  · rcases List.mem_append.mp h with h | h
    · exact .inl h
    · exact .inr (List.mem_singleton.mp h)
theorem putT_nd {tb : List (Str × Str)} (n : (tb.map (·.1)).Nodup) (x y : Str) : ((putT tb x y).map (·.1)).Nodup := by
  unfold putT
  split
  · rw [List.map_map]
    have e : tb.map ((·.1) ∘ fun p => if p.1 = x then (x, y) else p) = tb.map (·.1) := List.map_congr_left fun p _ => by
      show (if p.1 = x then (x, y) else p).1 = p.1
      by_cases e : p.1 = x
      · rw [if_pos e, e]
      · rw [if_neg e]
    rw [e]; exact n
  · rename_i no
    rw [List.map_append]
    refine List.nodup_append.mpr ⟨n, by simp, fun a ha b hb e => no ?_⟩
    obtain ⟨p, hp, ep⟩ := List.mem_map.mp ha
    have hb' : b = x := List.mem_singleton.mp hb
    exact List.any_eq_true.mpr ⟨p, hp, decide_eq_true (by rw [ep, e, hb'])⟩
theorem look_nil (z : Str) : look [] z = none := rfl
theorem look_app (a b : List (Str × Str)) (z : Str) : look (a ++ b) z = (look a z).or (look b z) := by
  induction a with
  | nil => rfl
  | cons p r ih =>
    obtain ⟨x, n⟩ := p
    rw [List.cons_append, look_cons, look_cons]
    by_cases e : x = z
    · rw [if_pos e, if_pos e]; rfl
    · rw [if_neg e, if_neg e]; exact ih
theorem look_any {tb : List (Str × Str)} {x : Str} : (tb.any fun p => decide (p.1 = x)) = (look tb x).isSome := by
  induction tb with
  | nil => rfl
  | cons p r ih =>
    obtain ⟨u, n⟩ := p
    rw [List.any_cons, look_cons, ih]
    by_cases e : u = x
    · rw [if_pos e, decide_eq_true e]; rfl
    · rw [if_neg e, decide_eq_false e]; rfl
theorem look_map (tb : List (Str × Str)) (x y z : Str) : look (tb.map fun p => if p.1 = x then (x, y) else p) z = if x = z then (if (look tb x).isSome then some y else none) else look tb z := by
  induction tb with
  | nil => by_cases e : x = z <;> simp [look, e]
  | cons p r ih =>
    obtain ⟨u, n⟩ := p
    rw [List.map_cons]
    by_cases e : u = x
    · subst e
      rw [if_pos (show (u, n).1 = u from rfl), look_cons u y, look_cons u n r u, look_cons u n r z, if_pos (rfl : u = u)]
      by_cases e2 : u = z
      · rw [if_pos e2, if_pos e2]; rfl
      · rw [if_neg e2, if_neg e2, if_neg e2, ih, if_neg e2]
    · rw [if_neg (show ¬ (u, n).1 = x from e), look_cons u n _ z, look_cons u n r x, look_cons u n r z, if_neg e, ih]
      by_cases e2 : u = z
      · rw [if_pos e2, if_pos e2, if_neg (fun t => e (e2.trans t.symm))]
      · rw [if_neg e2, if_neg e2]
theorem look_putT (tb : List (Str × Str)) (x y z : Str) : look (putT tb x y) z = if x = z then some y else look tb z := by
  unfold putT
  split
  · rename_i h
    rw [look_any] at h
    rw [look_map, h]; rfl
  · rename_i h
    have hn : look tb x = none := by
      rw [look_any] at h
      cases e : look tb x with
      | none => rfl
      | some y => rw [e] at h; exact (h rfl).elim
    rw [look_app, look_cons, look_nil]
    by_cases e : x = z
    · subst e
      rw [hn, if_pos rfl]; rfl
    · rw [if_neg e, if_neg e, Option.or_none]
def mergeT (a b : List (Str × Str)) : List (Str × Str) := b.foldl (fun acc p => putT acc p.1 p.2) a
theorem fkv_mergeT : ∀ (b a : List (Str × Str)), KnG.mergeFold (fkv a) (fkv b) = fkv (mergeT a b)
  | [], _ => rfl
  | p :: r, a => by
    show KnG.mergeFold (putK (fkv a) (.inr p.1) (.str p.2)) (fkv r) = _
    rw [fkv_putT, fkv_mergeT r]; rfl
theorem mergeT_len : ∀ (b a : List (Str × Str)), (mergeT a b).length ≤ a.length + b.length
  | [], a => Nat.le_refl _
  | p :: r, a => by
    have h1 := mergeT_len r (putT a p.1 p.2)
    have h2 := putT_len a p.1 p.2
    show (mergeT (putT a p.1 p.2) r).length ≤ _
    rw [List.length_cons]
    omega
theorem mergeT_mem : ∀ (b a : List (Str × Str)) {p : Str × Str}, p ∈ mergeT a b → p ∈ a ∨ p ∈ b
  | [], a, p, h => .inl h
  | q :: r, a, p, h => by
    rcases mergeT_mem r (putT a q.1 q.2) h with h | h
    · rcases putT_mem h with h | h
      · exact .inl h
      · exact .inr (h ▸ List.mem_cons_self)
    · exact .inr (List.mem_cons_of_mem _ h)
theorem mergeT_nd : ∀ (b a : List (Str × Str)), (a.map (·.1)).Nodup → ((mergeT a b).map (·.1)).Nodup
  | [], a, h => h
  | p :: r, a, h => mergeT_nd r _ (putT_nd h _ _)
theorem look_mergeT : ∀ (b a : List (Str × Str)) (z : Str), (b.map (·.1)).Nodup → look (mergeT a b) z = (look b z).or (look a z)
  | [], a, z, _ => rfl
  | p :: r, a, z, n => by
    obtain ⟨x, y⟩ := p
    obtain ⟨n1, n2⟩ := List.nodup_cons.mp n
    show look (mergeT (putT a x y) r) z = _
    rw [look_mergeT r _ z n2, look_putT, look_cons]
    by_cases e : x = z
    · subst e
      have hn : look r x = none := by
        cases e : look r x with
        | none => rfl
        | some q => exact (n1 (List.mem_map.mpr ⟨(x, q), (look_mem n2).mp e, rfl⟩)).elim
      rw [if_pos rfl, if_pos rfl, hn]; rfl
    · rw [if_neg e, if_neg e]
/-- each of the texts stands as itself, and no other one -/
structure SelfW (tb : List (Str × Str)) (xs : List Str) : Prop where
  nd : (tb.map (·.1)).Nodup
  at_ : ∀ z, look tb z = if z ∈ xs then some z else none
theorem SelfW.mem {tb : List (Str × Str)} {xs : List Str} (h : SelfW tb xs) {p : Str × Str} : p ∈ tb ↔ p.1 ∈ xs ∧ p.2 = p.1 := by
  obtain ⟨x, y⟩ := p
  rw [← look_mem h.nd, h.at_]
  by_cases e : x ∈ xs
  · rw [if_pos e]
    exact ⟨fun t => ⟨e, (Option.some.inj t).symm⟩, fun t => congrArg some t.2.symm⟩
  · rw [if_neg e]
    exact ⟨fun t => (by cases t), fun t => (e t.1).elim⟩
theorem SelfW.keys {tb : List (Str × Str)} {xs : List Str} (h : SelfW tb xs) {z : Str} : z ∈ tb.map (·.1) ↔ z ∈ xs := by
  rw [List.mem_map]
  exact ⟨fun ⟨p, hp, e⟩ => e ▸ (h.mem.mp hp).1, fun hz => ⟨(z, z), h.mem.mpr ⟨hz, rfl⟩, rfl⟩⟩
theorem SelfW.vals {tb : List (Str × Str)} {xs : List Str} (h : SelfW tb xs) {z : Str} : z ∈ tb.map (·.2) ↔ z ∈ xs := by
  rw [List.mem_map]
  exact ⟨fun ⟨p, hp, e⟩ => by rw [← e, (h.mem.mp hp).2]; exact (h.mem.mp hp).1, fun hz => ⟨(z, z), h.mem.mpr ⟨hz, rfl⟩, rfl⟩⟩
theorem SelfW.put {tb : List (Str × Str)} {xs : List Str} (h : SelfW tb xs) (x : Str) : SelfW (putT tb x x) (xs ++ [x]) := by
  refine ⟨putT_nd h.nd _ _, fun z => ?_⟩
  rw [look_putT, h.at_]
  by_cases e : x = z
  · subst e
    rw [if_pos rfl, if_pos (List.mem_append.mpr (.inr (List.mem_singleton.mpr rfl)))]
  · rw [if_neg e]
    by_cases k : z ∈ xs
    · rw [if_pos k, if_pos (List.mem_append.mpr (.inl k))]
    · rw [if_neg k, if_neg fun t => (List.mem_append.mp t).elim k fun t => e (List.mem_singleton.mp t).symm]
theorem SelfW.len {tb : List (Str × Str)} {xs : List Str} (h : SelfW tb xs) : tb.length ≤ xs.length := by
  have := sub_len h.nd fun x hx => h.keys.mp hx
  rwa [List.length_map] at this
def inside (t1 t2 : List (Str × Str)) : Bool := t1.all fun p => decide (look t2 p.1 = some p.2)
theorem inside_self {t1 t2 : List (Str × Str)} {xs ys : List Str} (h1 : SelfW t1 xs) (h2 : SelfW t2 ys) : inside t1 t2 = true ↔ ∀ x ∈ xs, x ∈ ys := by
  unfold inside
  rw [List.all_eq_true]
  constructor
  · intro h x hx
    have e := of_decide_eq_true (h (x, x) (h1.mem.mpr ⟨hx, rfl⟩))
    rw [h2.at_] at e
    by_cases k : x ∈ ys
    · exact k
    · rw [if_neg k] at e; cases e
  · intro h p hp
    obtain ⟨a, b⟩ := h1.mem.mp hp
    rw [h2.at_, if_pos (h _ a), b]
    exact decide_eq_true rfl
theorem SelfW.congr {tb : List (Str × Str)} {xs ys : List Str} (h : SelfW tb xs) (e : ∀ z, z ∈ xs ↔ z ∈ ys) : SelfW tb ys := by
  refine ⟨h.nd, fun z => ?_⟩
  rw [h.at_]
  by_cases k : z ∈ xs
  · rw [if_pos k, if_pos ((e z).mp k)]
  · rw [if_neg k, if_neg (fun t => k ((e z).mpr t))]


/-- a comprehension over the items of a dict -/
theorem lc_items {d : Addr} {o : Obj} {kvs : List (Key × V)} {g : TG} {tt : TT} {te : TE} {vs : List Nat} {σ : L2.St} {H1 : Hp} {D : Addr} {Qd : Hp → Prop} (Pv : Nat → Hp → Prop) (h0 : Pv 0 (upd H1 D (.lst []))) (hl : ∀ i H, i ≤ kvs.length → Pv i H → H d = some (.frz o (.dK kvs)))
    (hs : ∀ (i : Nat) (k : Key) (v : V) (T : Addr) (H : Hp), kvs[i]? = some (k, v) → H T = none → Pv i H → g (.ref T) (wipe σ vs) (upd H T (.tup [kV k, v])) fun σ2 H2 => wipe σ2 vs = wipe σ vs ∧ tt σ2 H2 fun b H3 =>
      if b = true then te σ2 H3 fun y H4 => ∃ acc, H4 D = some (.lst acc) ∧ acc.length < sizeLine ∧ Pv (i + 1) (upd H4 D (.lst (acc ++ [y]))) else Pv (i + 1) H3) (hd : ∀ H, Pv kvs.length H → Qd H) :
    ∃ W : Nat → Nat → Hp → Prop, (∃ m, W 0 m (upd H1 D (.lst []))) ∧ ∀ i m H, W i m H →
      ((Iti d o kvs).stop i H ∧ Qd H) ∨ ((Iti d o kvs).go i H ∧ ∃ Nx : Hp → Prop, (∀ H', Nx H' → ∃ m', m' < m ∧ W (i + 1) m' H') ∧ ∀ x H', (Iti d o kvs).yld i H x H' → g x (wipe σ vs) H' fun σ2 H2 => wipe σ2 vs = wipe σ vs ∧ tt σ2 H2 fun b H3 =>
        if b = true then te σ2 H3 fun y H4 => ∃ acc, H4 D = some (.lst acc) ∧ acc.length < sizeLine ∧ Nx (upd H4 D (.lst (acc ++ [y]))) else Nx H3) := by
  refine ⟨fun i m H => m = kvs.length - i ∧ i ≤ kvs.length ∧ Pv i H, ⟨kvs.length, by simp, Nat.zero_le _, h0⟩, ?_⟩
  rintro i m H ⟨rfl, hi, p⟩
  have q := hl i H hi p
  rcases Nat.lt_or_eq_of_le hi with lt | e
  · refine .inr ⟨⟨q, lt⟩, Pv (i + 1), fun H' p' => ⟨kvs.length - (i + 1), by omega, rfl, lt, p'⟩, fun v H' ⟨T, k, u, ek, ev, nT, eH⟩ => ?_⟩
    subst ev eH
    exact hs i k u T H ek nT p
  · subst e
    exact .inl ⟨⟨q, Nat.le_refl _⟩, hd H p⟩
def GoodW (tb : List (Str × Str)) : Prop := (∀ p ∈ tb, nameB (.str p.1) = true ∧ nameB (.str p.2) = true) ∧ tb.length ≤ 1000
/-- a watch stands at p -/
def WatchAt (D : Addr) (H : Hp) (p : Addr) (tb : List (Str × Str)) : Prop := ∃ dx d, H p = some (.ins D dx [("_sights", .ref d)]) ∧ H d = some (.dK (fkv tb))
theorem WatchAt.mono {D : Addr} {H H' : Hp} {p : Addr} {tb : List (Str × Str)} (h : WatchAt D H p tb) (s : Same H H') : WatchAt D H' p tb := by
  obtain ⟨dx, d, h1, h2⟩ := h
  exact ⟨dx, d, s _ _ h1, s _ _ h2⟩
def sp_is_sights (_ : PySem.W.Frag) : Sp := fun vs H Q _ => ∃ (d : Addr) (tb : List (Str × Str)), vs = [.ref d] ∧ H d = some (.dK (fkv tb)) ∧ GoodW tb ∧ ∀ H', Same H H' → Q (.bl true) H'
def optV : Option Str → V
  | some z => .str z
  | none => .non
def sp_Watch_getitem (_ : PySem.W.Frag) (D : Addr) : Sp := fun vs H Q _ => ∃ (p : Addr) (tb : List (Str × Str)) (z : Str), vs = [.ref p, .str z] ∧ WatchAt D H p tb ∧ nameB (.str z) = true ∧ ∀ H', Same H H' → Q (optV (look tb z)) H'
theorem ok_is_sights {f : Addr} {D : Addr} {fd : FuncData} (T : Txt K mg D) (F : Fun K "is_sights" "is_sights" s_is_sights f fd) (c_is_name : Cal P w K mg base 1 "is_name" (sp_is_name K) []) : FnOk P w K mg base CX0 2 f fd ["value"] (sp_is_sights K) := by
  have nd := sc_is_sights.nd
  refine F.ok sc_is_sights (fun vs H Q E h => ?_) (fun cdv A outer s H vs Q E hr h => ?_)
  · obtain ⟨d, tb, rfl, _⟩ := h
    rfl
  · obtain ⟨d, tb, rfl, hd, gw, q⟩ := h
    refine ⟨_, (pss_cons (ps_if (pt_not (pt_val (pe_callB call_isi (by rfl) T.m_isinstance (by decide +kernel) (pa_cons (pv 0) (pa_cons (pe_bltn (v := .ty "dict") (u := .type "dict") (by rfl) T.m_dict (by decide +kernel) rfl) pa_nil))))) (pss_one (ps_ret pe_bl)) pss_nil)
      (pss_one (ps_ret (pe_callB (cr_all rfl) (by rfl) T.m_all (by decide +kernel) (pa_cons (pe_lock (pe_lc (own := [("word", 1), ("sight", 2)]) (g := gTup K 2 (gCons (gName 1) (gCons (gName 2) gNil))) (tt := tYes) rfl nd (pi_items (pv 0)) (blkOk_by (N := ["value", "word", "sight"]) (sc := defScope s_is_sights) (by decide +kernel)) (fun _ _ _ _ _ => (pg_tup (by rfl) (pgs_cons (pg_name (i := 1) nd rfl (.inl rfl)) (pgs_cons (pg_name (i := 2) nd rfl (.inl rfl)) pgs_nil)))) (fun _ _ _ _ _ => pts_nil) (fun _ _ _ _ _ => (pe_and (pe_c c_is_name hr (by omega) (by rfl) (pa_cons (pv 1) pa_nil)) (pe_one (pe_c c_is_name hr (by omega) (by rfl) (pa_cons (pv 2) pa_nil))))))) pa_nil))))), ?_⟩
    refine ⟨.ref d, rfl, .ref d, .ty "dict", _, _, true, rfl, .ty _, .base (.dK hd), kit_ty (show kitB "dict" "dict" = some true by decide +kernel), _, rfl, iteF ?_⟩
    refine ⟨d, .dK (fkv tb), hd, trivial, fun od => ?_⟩
    have back : ∀ {H' : Hp}, (∀ b o, b ≠ d → H b = some o → H' b = some o) → Same H (upd H' d (.dK (fkv tb))) := fun k b o e => by
      by_cases z : b = d
      · rw [z] at e ⊢
        rw [hd] at e
        cases e
        exact upd_same
      · rw [upd_ne z]; exact k b o z e
    refine ⟨.ref d, rfl, d, od, fkv tb, rfl, upd_same, fun LD nD => ?_⟩
    have nDd : LD ≠ d := fun z => by rw [z, upd_same] at nD; cases nD
    refine lc_items (fun i H' => H' d = some (.frz od (.dK (fkv tb))) ∧ (∀ b o, b ≠ d → H b = some o → H' b = some o) ∧ H' LD = some (.lst ((List.replicate i true).map V.bl))) ⟨(upd_ne nDd.symm).trans upd_same, fun b o z e => (upd_ne (fun q => by rw [q] at e; rw [upd_ne nDd] at nD; rw [nD] at e; cases e)).trans ((upd_ne z).trans e), upd_same⟩ (fun i H' _ hP => hP.1) (fun i k v T H' hx nT hP => ?_) (fun H' hP => ?_)
    · obtain ⟨p1, p2, p3⟩ := hP
      obtain ⟨x, y, gx, rfl, rfl⟩ := fkv_get hx
      obtain ⟨g1, g2⟩ := gw.1 _ (List.mem_of_getElem? gx)
      have hi : i < tb.length := (List.getElem?_eq_some_iff.mp gx).1
      have lw := gw.2
      have sT := same_upd (o := .tup [.str x, .str y]) nT
      have p1' := sT _ _ p1
      have p3' := sT _ _ p3
      have p2' : ∀ b o, b ≠ d → H b = some o → (upd H' T (.tup [.str x, .str y])) b = some o := fun b o z e => sT _ _ (p2 b o z e)
      have eT : (upd H' T (.tup [.str x, .str y])) T = some (.tup [.str x, .str y]) := upd_same
      show gTup _ _ _ _ _ (upd H' T (.tup [.str x, .str y])) _
      generalize upd H' T (.tup [.str x, .str y]) = H2 at p1' p2' p3' eT ⊢
      refine ⟨T, _, rfl, .inl (.inl eT), rfl, .str x, _, rfl, .str y, _, rfl, rfl, rfl, ?_⟩
      unfold tYes
      refine iteT ?_
      have hx2 : x.cps.size ≤ 12 := (name_size g1).2
      have hy2 : y.cps.size ≤ 12 := (name_size g2).2
      refine ⟨.str x, rfl, .str x, rfl, .str x (by omega), fun H3 s3 => ⟨nameB (.str x), rfl, ?_⟩⟩
      rw [g1]
      refine iteT ⟨.str y, rfl, .str y, rfl, .str y (by omega), fun H4 s4 => ?_⟩
      rw [g2]
      have k34 := s3.trans s4
      have nDd2 := nDd
      have nD0 : H LD = none := by rwa [upd_ne nDd] at nD
      refine ⟨_, k34 _ _ p3', small (by rw [List.length_map, List.length_replicate]; omega), (upd_ne nDd.symm).trans (k34 _ _ p1'), fun b o z e => (upd_ne (ne_of_none e nD0)).trans (k34 _ _ (p2' b o z e)), ?_⟩
      rw [upd_same, List.replicate_succ', List.map_append]
      rfl
    · obtain ⟨p1, p2, p3⟩ := hP
      refine ⟨p1, LD, List.replicate tb.length true, rfl, .inl (.inl ((upd_ne nDd).trans (by rw [p3]; unfold fkv; rw [List.length_map]))), ?_⟩
      have e : (List.replicate tb.length true).all id = true := by simp
      rw [e]
      exact q _ (back p2)
theorem ok_Watch_getitem {f : Addr} {D : Addr} {fd : FuncData} (T : Txt K mg D) (F : Fun K "__getitem__" "Watch.__getitem__" s_Watch_getitem f fd) (c_is_name : Cal P w K mg base 1 "is_name" (sp_is_name K) []) : FnOk P w K mg base CX0 2 f fd ["self", "at"] (sp_Watch_getitem K D) := by
  have nd := sc_Watch_getitem.nd
  refine F.ok sc_Watch_getitem (fun vs H Q E h => ?_) (fun cdv A outer s H vs Q E hr h => ?_)
  · obtain ⟨p, tb, z, rfl, _⟩ := h
    rfl
  · obtain ⟨p, tb, z, rfl, ⟨dx, d, hp, hd⟩, hz, q⟩ := h
    refine ⟨_, (pss_cons (ps_if (pt_not (pt_val (pe_c c_is_name hr (by omega) (by rfl) (pa_cons (pv 1) pa_nil)))) (pss_one ps_never) pss_nil)
      (pss_one (ps_ret (pe_dget1 (hu_of hr) (pe_fld (pv 0) rfl) (pv 1) ⟨rfl, rfl, rfl, rfl⟩)))), ?_⟩
    have lz := (name_size hz).2
    refine ⟨.str z, rfl, .str z, rfl, .str z (by omega), fun H1 s1 => ⟨_, rfl, ?_⟩⟩
    rw [hz]
    refine iteF ?_
    have S := s1
    refine ⟨.ref p, rfl, p, D, dx, _, .ref d, rfl, S _ _ hp, T.cl_Watch, T.n__sights, by simp [List.lookup], ?_⟩
    have eq : (look tb z).map V.str = none ∨ ∃ y, look tb z = some y := by cases look tb z; exact .inl rfl; exact .inr ⟨_, rfl⟩
    have dg : DGet H1 d (.str z) (valV (fkv tb) (.inr z)) := DGet.k (k := .inr z) (S _ _ hd)
    rw [look_val] at dg
    refine ⟨d, rfl, .inl ⟨_, .inl (S _ _ hd)⟩, .str z, rfl, _, dg, ?_⟩
    have q1 := q H1 S
    cases e : look tb z with
    | none => rw [e] at q1; exact q1
    | some y => rw [e] at q1; exact q1
def WatchO (D : Addr) (H : Hp) (p dx d : Addr) (tb : List (Str × Str)) : Prop := H p = some (.ins D dx [("_sights", .ref d)]) ∧ H d = some (.dK (fkv tb))
def sp_Watch_init (_ : PySem.W.Frag) (D : Addr) : Sp := fun vs H Q _ => ∃ (p dx : Addr) (x : V) (tb : List (Str × Str)), vs = [.ref p, x] ∧ H p = some (.ins D dx []) ∧ ((x = .non ∧ tb = []) ∨ ∃ d, x = .ref d ∧ H d = some (.dK (fkv tb)) ∧ GoodW tb) ∧
  ∀ H' d', (∀ b o, H b = some o → b ≠ p → H' b = some o) → H d' = none → WatchO D H' p dx d' tb → Q .non H'
def sp_Watch_words (_ : PySem.W.Frag) (D : Addr) : Sp := fun vs H Q _ => ∃ (p : Addr) (tb : List (Str × Str)), vs = [.ref p] ∧ WatchAt D H p tb ∧ tb.length < 64 ∧ ∀ H' l ws, Same H H' → H l = none → H' l = some (.lst (ws.map V.str)) → ws.Perm (tb.map (·.1)) → sortedS ws = true → Q (.ref l) H'
def sp_Watch_sights (_ : PySem.W.Frag) (D : Addr) : Sp := fun vs H Q _ => ∃ (p : Addr) (tb : List (Str × Str)), vs = [.ref p] ∧ WatchAt D H p tb ∧ tb.length < 64 ∧ ∀ H' l ws, Same H H' → H l = none → H' l = some (.lst (ws.map V.str)) → KnA.Words ws (tb.map (·.2)) → Q (.ref l) H'
def sp_Watch_copy (_ : PySem.W.Frag) (D : Addr) : Sp := fun vs H Q _ => ∃ (p : Addr) (tb : List (Str × Str)), vs = [.ref p] ∧ WatchAt D H p tb ∧ GoodW tb ∧ ∀ H' r dx d, Same H H' → H r = none → H d = none → WatchO D H' r dx d tb → Q (.ref r) H'
theorem ok_Watch_init {f : Addr} {D : Addr} {fd : FuncData} (T : Txt K mg D) (F : KnD.FunX K "__init__" "Watch.__init__" s_Watch_init f fd) (c_is_sights : Cal P w K mg base 2 "is_sights" (sp_is_sights K) []) : FnOk P w K mg base CX0 3 f fd ["self", "sights"] (sp_Watch_init K D) := by
  have nd := sc_Watch_init.nd
  refine F.ok sc_Watch_init (fun vs H Q E h => ?_) (fun cdv A outer s H vs Q E hr h => ?_)
  · obtain ⟨p, dx, x, tb, rfl, _⟩ := h
    rfl
  · obtain ⟨p, dx, x, tb, rfl, hp, hx, q⟩ := h
    refine ⟨_, (pss_one (ps_if (pt_cmpR op_isN (pv 1) pe_non (nomark _)) (pss_one (ps_fld (pv 0) pe_dnewK rfl)) (pss_one (ps_if (pt_val (pe_c c_is_sights hr (by omega) (by rfl) (pa_cons (pv 1) pa_nil))) (pss_one (ps_fld (pv 0) (pe_callTy call_dictD (by rfl) T.m_dict (by decide +kernel) (pa_cons (pv 1) pa_nil)) rfl)) (pss_one ps_never))))), ?_⟩
    rcases hx with ⟨rfl, rfl⟩ | ⟨d, rfl, hd, gw⟩
    · refine ⟨.non, rfl, rfl, _, rfl, iteT ?_⟩
      intro d2 n2
      have s2 := same_upd (o := .dK []) n2
      have npd : d2 ≠ p := fun z => by rw [z, hp] at n2; cases n2
      refine ⟨.ref p, rfl, p, D, dx, [], rfl, s2 _ _ hp, T.cl_Watch, T.n__sights, by decide, ?_⟩
      exact q _ d2 (fun b o e ne => (upd_ne ne).trans (s2 _ _ e)) n2 ⟨upd_same, (upd_ne npd).trans upd_same⟩
    · refine ⟨.ref d, rfl, rfl, _, rfl, iteF ?_⟩
      refine ⟨.ref d, rfl, d, tb, rfl, hd, gw, fun H1 s1 => ⟨_, rfl, iteT ?_⟩⟩
      refine ⟨.ref d, rfl, d, _, rfl, .inl (s1 _ _ hd), fun d2 n2 => ?_⟩
      have s2 := s1.trans (same_upd (o := .dK (fkv tb)) n2)
      have npd : d2 ≠ p := fun z => by rw [z, s1 _ _ hp] at n2; cases n2
      refine ⟨.ref p, rfl, p, D, dx, [], rfl, s2 _ _ hp, T.cl_Watch, T.n__sights, by decide, ?_⟩
      exact q _ d2 (fun b o e ne => (upd_ne ne).trans (s2 _ _ e)) (s1.free n2) ⟨upd_same, (upd_ne npd).trans upd_same⟩
theorem ok_Watch_words {f : Addr} {D : Addr} {fd : FuncData} (T : Txt K mg D) (F : Fun K "words" "Watch.words" s_Watch_words f fd)  : FnOk P w K mg base CX0 1 f fd ["self"] (sp_Watch_words K D) := by
  have nd := sc_Watch_words.nd
  refine F.ok sc_Watch_words (fun vs H Q E h => ?_) (fun cdv A outer s H vs Q E hr h => ?_)
  · obtain ⟨p, tb, rfl, _⟩ := h
    rfl
  · obtain ⟨p, tb, rfl, ⟨dx, d, hp, hd⟩, l64, q⟩ := h
    refine ⟨_, (pss_one (ps_ret (pe_callB cr_sortedS (by rfl) T.m_sorted (by decide +kernel) (pa_cons (pe_callTy (call_listD rfl) (by rfl) T.m_list (by decide +kernel) (pa_cons (pe_fld (pv 0) rfl) pa_nil)) pa_nil)))), ?_⟩
    refine ⟨.ref p, rfl, p, D, dx, _, .ref d, rfl, hp, T.cl_Watch, T.n__sights, by simp [List.lookup], d, fkv tb, rfl, .inl hd, fun l nl => ?_⟩
    have ek : (fkv tb).map (fun kv => kV kv.1) = (tb.map (·.1)).map V.str := by
      unfold fkv
      rw [List.map_map, List.map_map]; rfl
    have s1 := same_upd (o := .lst ((fkv tb).map fun kv => kV kv.1)) nl
    refine ⟨l, tb.map (·.1), rfl, .inl (.inl (by rw [upd_same, ek])), by rw [List.length_map]; exact l64, fun ys p2 pe so np => ?_⟩
    exact q _ p2 ys (s1.trans (same_upd np)) (s1.free np) upd_same pe so
theorem ok_Watch_sights {f : Addr} {D : Addr} {fd : FuncData} (T : Txt K mg D) (F : Fun K "sights" "Watch.sights" s_Watch_sights f fd)  : FnOk P w K mg base CX0 1 f fd ["self"] (sp_Watch_sights K D) := by
  have nd := sc_Watch_sights.nd
  refine F.ok sc_Watch_sights (fun vs H Q E h => ?_) (fun cdv A outer s H vs Q E hr h => ?_)
  · obtain ⟨p, tb, rfl, _⟩ := h
    rfl
  · obtain ⟨p, tb, rfl, ⟨dx, d, hp, hd⟩, l64, q⟩ := h
    refine ⟨_, (pss_one (ps_ret (pe_callB (show CallR _ (.builtin "sorted") (KnS.rSortedL P w) from KnS.cr_sortedL rfl) (by rfl) T.m_sorted (by decide +kernel) (pa_cons (pe_callTy (show CallR _ (.type "set") (KnS.rSetOf K P w) from KnS.cr_setOf rfl) (by rfl) T.m_set (by decide +kernel) (pa_cons (KnM.pe_listVals rfl (by rfl) T.m_list (pe_fld (pv 0) rfl)) pa_nil)) pa_nil)))), ?_⟩
    refine ⟨.ref p, rfl, p, D, dx, _, .ref d, rfl, hp, T.cl_Watch, T.n__sights, by simp [List.lookup], d, _, rfl, .inl hd, fun l1 n1 => ?_⟩
    have s1 := same_upd (o := .lst ((fkv tb).map (·.2))) n1
    have ev : (fkv tb).map (·.2) = ((tb.map (·.2)).map Sum.inr).map kV := by
      unfold fkv
      rw [List.map_map, List.map_map, List.map_map]
      rfl
    refine ⟨l1, (tb.map (·.2)).map Sum.inr, rfl, .inl (.inl (by rw [upd_same, ev])), ?_, fun D nD => ?_⟩
    · rw [List.length_map, List.length_map]
      unfold scanBound
      omega
    have s2 := same_upd (o := KnS.SetL P w D (KnS.allL ((tb.map (·.2)).map Sum.inr))) nD
    obtain ⟨ys, ey, ny, my⟩ := allL_strs (tb.map (·.2))
    refine ⟨D, ys, rfl, by rw [← ey]; exact upd_same, fun xs l px sx nl => ?_⟩
    exact q _ l xs (s1.trans (s2.trans (same_upd nl))) (Same.free s1 (s2.free nl)) upd_same ⟨KnA.sorted_pair sx, px.symm.nodup ny, fun x => px.mem_iff.trans (my x)⟩
theorem ok_Watch_copy {f : Addr} {D : Addr} {fd : FuncData} (T : Txt K mg D) (F : Fun K "copy" "Watch.copy" s_Watch_copy f fd) (c_Watch_init : Mak P w K mg base 3 "Watch" D (sp_Watch_init K D) []) : FnOk P w K mg base CX0 5 f fd ["self"] (sp_Watch_copy K D) := by
  have nd := sc_Watch_copy.nd
  refine F.ok sc_Watch_copy (fun vs H Q E h => ?_) (fun cdv A outer s H vs Q E hr h => ?_)
  · obtain ⟨p, tb, rfl, _⟩ := h
    rfl
  · obtain ⟨p, tb, rfl, hw, gw, q⟩ := h
    refine ⟨_, (pss_one (ps_ret (pe_mk c_Watch_init hr (by omega) (by rfl) (pa_cons (pe_fld (pv 0) rfl) pa_nil)))), ?_⟩
    obtain ⟨dx1, d1, hp, hd1⟩ := hw
    refine ⟨.ref p, rfl, p, D, dx1, _, .ref d1, rfl, hp, T.cl_Watch, T.n__sights, by simp [List.lookup], fun x dx nx ndx nex => ?_⟩
    have sx : Same H (upd (upd H dx (.own x)) x (.ins D dx [])) := fun b o e => (upd_ne (ne_of_none e nx)).trans ((upd_ne (ne_of_none e ndx)).trans e)
    refine ⟨x, dx, .ref d1, _, rfl, upd_same, .inr ⟨d1, rfl, sx _ _ hd1, gw⟩, fun H3 d' kp nd' wo => ⟨rfl, ?_⟩⟩
    exact q H3 x dx d' (fun b o e => kp b o (sx _ _ e) (ne_of_none e nx)) nx (sx.free nd') wo

theorem fkv_len (tb : List (Str × Str)) : (fkv tb).length = tb.length := by unfold fkv; rw [List.length_map]
def sp_Watch_len (_ : PySem.W.Frag) (D : Addr) : Sp := fun vs H Q _ => ∃ (p : Addr) (tb : List (Str × Str)), vs = [.ref p] ∧ WatchAt D H p tb ∧ Q (.int (tb.length : Nat)) H
/-- o[x] = y; o[x] = None -/
def delT (tb : List (Str × Str)) (x : Str) : List (Str × Str) := tb.filter fun u => decide (u.1 ≠ x)
theorem init_ok {D x dx d : Addr} {G : Hp} {tb : List (Str × Str)} {Q : VK} {E : XK} (nx : G x = none) (ndx : G dx = none) (e : G d = some (.dK (fkv tb))) (good : GoodW tb) (k : ∀ H3 d', Same G H3 → G d' = none → WatchO D H3 x dx d' tb → Q .non H3) : sp_Watch_init K D [.ref x, .ref d] (upd (upd G dx (.own x)) x (.ins D dx [])) Q E := by
  have sx : Same G (upd (upd G dx (.own x)) x (.ins D dx [])) := fun b o e => (upd_ne (ne_of_none e nx)).trans ((upd_ne (ne_of_none e ndx)).trans e)
  exact ⟨x, dx, .ref d, tb, rfl, upd_same, .inr ⟨d, rfl, sx _ _ e, good⟩, fun H3 d' kp nd' wo => k H3 d' (fun b o e => kp b o (sx _ _ e) (ne_of_none e nx)) (sx.free nd') wo⟩
theorem ok_Watch_len {f : Addr} {D : Addr} {fd : FuncData} (T : Txt K mg D) (F : Fun K "__len__" "Watch.__len__" s_Watch_len f fd)  : FnOk P w K mg base CX0 1 f fd ["self"] (sp_Watch_len K D) := by
  have nd := sc_Watch_len.nd
  refine F.ok sc_Watch_len (fun vs H Q E h => ?_) (fun cdv A outer s H vs Q E hr h => ?_)
  · obtain ⟨p, tb, rfl, _⟩ := h
    rfl
  · obtain ⟨p, tb, rfl, ⟨dx1, d1, hp, hd1⟩, k⟩ := h
    refine ⟨_, (pss_one (ps_ret (pe_callB call_lenD (by rfl) T.m_len (by decide +kernel) (pa_cons (pe_fld (pv 0) rfl) pa_nil)))), ?_⟩
    refine ⟨.ref p, rfl, p, D, dx1, _, .ref d1, rfl, hp, T.cl_Watch, T.n__sights, by simp [List.lookup], d1, _, rfl, hd1, ?_⟩
    rw [fkv_len]
    exact k
theorem fkv_del (tb : List (Str × Str)) (x : Str) : dropK (fkv tb) (.inr x) = fkv (delT tb x) := by
  unfold dropK delT fkv
  rw [List.filter_map]
  congr 1
  refine List.filter_congr fun u _ => ?_
  show decide (¬ (Sum.inr u.1 : Key) = Sum.inr x) = decide (u.1 ≠ x)
  exact decide_eq_decide.mpr (not_congr ⟨Sum.inr.inj, fun e => congrArg _ e⟩)
theorem delT_none {tb : List (Str × Str)} {x : Str} (h : look tb x = none) : delT tb x = tb := by
  unfold delT
  refine List.filter_eq_self.mpr fun u hu => decide_eq_true fun e => ?_
  have h2 : (tb.any fun p => decide (p.1 = x)) = true := List.any_eq_true.mpr ⟨u, hu, decide_eq_true e⟩
  rw [look_any, h] at h2
  cases h2
theorem fkv_str (fs : List (Str × Str)) : ∀ p ∈ fkv fs, KnV.strV p.2 = true := fun p hp => by
  obtain ⟨u, _, rfl⟩ := List.mem_map.mp hp
  rfl
theorem fkv_strV (fs : List (Str × Str)) : ∀ k v, valV (fkv fs) k = some v → KnV.strV v = true := fun k v e => by
  have h : (k, v) ∈ fkv fs := by
    unfold valV at e
    cases g : (fkv fs).find? (fun kv => decide (kv.1 = k)) with
    | none => rw [g] at e; cases e
    | some p =>
      rw [g] at e
      cases e
      have h1 := List.find?_some g
      have h2 := List.mem_of_find?_eq_some g
      rw [← of_decide_eq_true h1]
      exact h2
  exact fkv_str fs _ h
/-- two tables hold the same -/
theorem dict_same {t1 t2 : List (Str × Str)} (n1 : (t1.map (·.1)).Nodup) (n2 : (t2.map (·.1)).Nodup) : KnV.dictEq (fkv t1) (fkv t2) = true ↔ ∀ z, look t1 z = look t2 z := by
  have l1 : (fkv t1).length = t1.length := by unfold fkv; rw [List.length_map]
  have l2 : (fkv t2).length = t2.length := by unfold fkv; rw [List.length_map]
  have ndp : ∀ {l : List (Str × Str)}, (l.map (·.1)).Nodup → l.Nodup := fun {l} hl => (List.pairwise_map.mp hl).imp fun hne e => hne (congrArg (·.1) e)
  have each : (fkv t1).all (fun p => decide (valV (fkv t2) p.1 = some p.2)) = t1.all fun u => decide (look t2 u.1 = some u.2) := by
    unfold fkv
    rw [List.all_map]
    refine List.all_congr rfl fun u => ?_
    show decide (valV (fkv t2) (.inr u.1) = some (.str u.2)) = _
    rw [look_val]
    refine decide_eq_decide.mpr ?_
    cases look t2 u.1 with
    | none => exact ⟨fun e => (by cases e), fun e => (by cases e)⟩
    | some y => exact ⟨fun e => congrArg some (V.str.inj (Option.some.inj e)), fun e => by cases e; rfl⟩
  unfold KnV.dictEq
  rw [l1, l2, each, Bool.and_eq_true, List.all_eq_true, beq_iff_eq]
  constructor
  · rintro ⟨hl, h⟩
    have sub : ∀ u ∈ t1, u ∈ t2 := fun u hu => (look_mem n2).mp (of_decide_eq_true (h u hu))
    have back : ∀ u ∈ t2, u ∈ t1 := fun u hu => by
      refine Decidable.of_not_not fun no => ?_
      have := sub_len (l := u :: t1) (m := t2) (List.nodup_cons.mpr ⟨no, ndp n1⟩) fun x hx => by
        rcases List.mem_cons.mp hx with rfl | hx
        · exact hu
        · exact sub x hx
      rw [List.length_cons] at this
      omega
    intro z
    refine Option.ext fun v => ?_
    rw [look_mem n1, look_mem n2]
    exact ⟨sub _, back _⟩
  · intro h
    have pm : t1.Perm t2 := (List.perm_ext_iff_of_nodup (ndp n1) (ndp n2)).mpr fun p => by rw [← look_mem n1, ← look_mem n2, h]
    exact ⟨pm.length_eq, fun u hu => decide_eq_true ((look_mem n2).mpr (pm.mem_iff.mp hu))⟩
theorem tyOf_val {K : PySem.W.Frag} {H : Hp} {v : V} (h : Val K H v) : ∃ T, T ∈ KnW.plainTys ∧ TyOf K H v (.type T) := by
  cases h with
  | non => exact ⟨"NoneType", by decide, .non⟩
  | bl b => exact ⟨"bool", by decide, .bl b⟩
  | int i => exact ⟨"int", by decide, .int i⟩
  | str z h => exact ⟨"str", by decide, .str z⟩
  | lst e => exact ⟨"list", by decide, .lst e⟩
  | tup e => exact ⟨"tuple", by decide, .tup e⟩
  | dK e => exact ⟨"dict", by decide, .dK e⟩
theorem plainAt {K : PySem.W.Frag} {H : Hp} {v : V} (h : Val K H v) : KnW.PlainAt H v := by
  cases h with
  | non => exact .non
  | bl b => exact .bl b
  | int i => exact .int i
  | str z h => exact .str z
  | lst e => exact .lst e
  | tup e => exact .tup e
  | dK e => exact .dK e
def sp_Watch_bool (_ : PySem.W.Frag) (D : Addr) : Sp := fun vs H Q _ => ∃ (p : Addr) (tb : List (Str × Str)), vs = [.ref p] ∧ WatchAt D H p tb ∧ Q (.bl (!tb.isEmpty)) H
theorem ok_Watch_bool {f : Addr} {D : Addr} {fd : FuncData} (T : Txt K mg D) (F : Fun K "__bool__" "Watch.__bool__" s_Watch_bool f fd)  : FnOk P w K mg base CX0 1 f fd ["self"] (sp_Watch_bool K D) := by
  have nd := sc_Watch_bool.nd
  refine F.ok sc_Watch_bool (fun vs H Q E h => ?_) (fun cdv A outer s H vs Q E hr h => ?_)
  · obtain ⟨p, tb, rfl, _⟩ := h
    rfl
  · obtain ⟨p, tb, rfl, ⟨dx, d, hp, hd⟩, q⟩ := h
    refine ⟨_, (pss_one (ps_ret (pe_callTy KnW.cr_boolD (by rfl) T.m_bool (by decide +kernel) (pa_cons (pe_fld (pv 0) rfl) pa_nil)))), ?_⟩
    refine ⟨.ref p, rfl, p, D, dx, _, .ref d, rfl, hp, T.cl_Watch, T.n__sights, by simp [List.lookup], d, _, rfl, hd, ?_⟩
    have e : (fkv tb).isEmpty = tb.isEmpty := by unfold fkv; cases tb <;> rfl
    rw [e]
    exact q
/-- whether a value is a word of the table -/
def hasB (tb : List (Str × Str)) : V → Bool
  | .str z => nameB (.str z) && (look tb z).isSome
  | _ => false
def sp_Watch_contains (K : PySem.W.Frag) (D : Addr) : Sp := fun vs H Q _ => ∃ (p : Addr) (tb : List (Str × Str)) (x : V), vs = [.ref p, x] ∧ WatchAt D H p tb ∧ Val K H x ∧ ∀ H', Same H H' → Q (.bl (hasB tb x)) H'
theorem ok_Watch_contains {f : Addr} {D : Addr} {fd : FuncData} (T : Txt K mg D) (F : Fun K "__contains__" "Watch.__contains__" s_Watch_contains f fd) (c_is_name : Cal P w K mg base 1 "is_name" (sp_is_name K) []) : FnOk P w K mg base CX0 2 f fd ["self", "x"] (sp_Watch_contains K D) := by
  have nd := sc_Watch_contains.nd
  refine F.ok sc_Watch_contains (fun vs H Q E h => ?_) (fun cdv A outer s H vs Q E hr h => ?_)
  · obtain ⟨p, tb, x, rfl, _⟩ := h
    rfl
  · obtain ⟨p, tb, x, rfl, ⟨dx, d, hp, hd⟩, hx, q⟩ := h
    refine ⟨_, (pss_one (ps_ret (pe_and (pe_c c_is_name hr (by omega) (by rfl) (pa_cons (pv 1) pa_nil)) (pe_one (pe_cmp (pc_din (hu_of hr) (pv 1) (pe_fld (pv 0) rfl)) rfl))))), ?_⟩
    refine ⟨x, rfl, x, rfl, hx, fun H1 s1 => ⟨nameB x, rfl, ?_⟩⟩
    have q1 := q H1 s1
    cases e : nameB x with
    | false =>
      refine iteF ?_
      have e2 : hasB tb x = false := by
        cases x with
        | str z => show (nameB (.str z) && _) = false; rw [e]; rfl
        | _ => rfl
      rw [e2] at q1
      exact q1
    | true =>
      refine iteT ?_
      obtain ⟨z, rfl⟩ : ∃ z, x = .str z := by cases x <;> first | exact ⟨_, rfl⟩ | cases e
      have e2 : hasB tb (.str z) = (look tb z).isSome := by show (nameB (.str z) && _) = _; rw [e]; rfl
      rw [e2] at q1
      have dg : DGet H1 d (.str z) (valV (fkv tb) (.inr z)) := DGet.k (k := .inr z) (s1 _ _ hd)
      refine ⟨.str z, rfl, .ref p, rfl, p, D, dx, _, .ref d, rfl, s1 _ _ hp, T.cl_Watch, T.n__sights, by simp [List.lookup], d, _, rfl, dg, ?_⟩
      rw [look_val]
      rw [show ((look tb z).map V.str).isSome = (look tb z).isSome by cases look tb z <;> rfl]
      exact q1
def sp_Watch_eq (K : PySem.W.Frag) (D : Addr) : Sp := fun vs H Q _ => ∃ (p : Addr) (y : V) (tb : List (Str × Str)), vs = [.ref p, y] ∧ WatchAt D H p tb ∧ (tb.map (·.1)).Nodup ∧
  ((∃ q tb2, y = .ref q ∧ WatchAt D H q tb2 ∧ (tb2.map (·.1)).Nodup ∧ ∀ b : Bool, (b = true ↔ ∀ z, look tb z = look tb2 z) → Q (.bl b) H) ∨
   ∃ t, TyOf K H y t ∧ PySem.W.kitOne K t (.ref D) = some false ∧ Q (.bl false) H)
theorem ok_Watch_eq {f : Addr} {D : Addr} {fd : FuncData} (T : Txt K mg D) (F : Fun K "__eq__" "Watch.__eq__" s_Watch_eq f fd)  : FnOk P w K mg base CX0 1 f fd ["self", "other"] (sp_Watch_eq K D) := by
  have nd := sc_Watch_eq.nd
  refine F.ok sc_Watch_eq (fun vs H Q E h => ?_) (fun cdv A outer s H vs Q E hr h => ?_)
  · obtain ⟨p, y, tb, rfl, _⟩ := h
    rfl
  · obtain ⟨p, y, tb, rfl, ⟨dx, d, hp, hd⟩, n1, alt⟩ := h
    refine ⟨_, (pss_one (ps_ret (pe_and (pe_callB call_isi (by rfl) T.m_isinstance (by decide +kernel) (pa_cons (pv 1) (pa_cons (pe_glob (v := .ref D) (by rfl) T.g_Watch rfl) pa_nil))) (pe_one (pe_cmpR (KnV.op_eqDictB hr.units0) (pe_fld (pv 0) rfl) (pe_fld (pv 1) rfl) (nomark _)))))), ?_⟩
    rcases alt with ⟨q, tb2, rfl, ⟨dx2, d2, hp2, hd2⟩, n2, k⟩ | ⟨t, ty, kit, k⟩
    · refine ⟨.ref q, rfl, .ref q, .ref D, .ref D, _, true, rfl, .own D, .base (.ins hp2 T.cl_Watch T.ins_Watch.ha T.ins_Watch.hn T.ins_Watch.htk T.ins_Watch.hm), T.ins_Watch.me, _, rfl, iteT ?_⟩
      exact ⟨.ref p, rfl, p, D, dx, _, _, rfl, hp, T.cl_Watch, T.n__sights, by simp [List.lookup], .ref q, rfl, q, D, dx2, _, _, rfl, hp2, T.cl_Watch, T.n__sights, by simp [List.lookup], d, d2, _, _, rfl, rfl, hd, hd2, fkv_str _, fkv_strV _, k _ (dict_same n1 n2)⟩
    · exact ⟨y, rfl, y, .ref D, t, _, false, rfl, .own D, .base ty, kit, _, rfl, iteF k⟩

end
end Kn

set_option Elab.async false
set_option linter.all false
set_option maxRecDepth 100000
set_option maxHeartbeats 4000000
namespace Kn
open PySem PySem.Spec PyProof.Rows L2
open C8 (Cal pe_c pe_gc Mak pe_mk)
section
variable {P : Program} {w : World} {K : PySem.W.Frag} {mg : Str → Option Value} {base : Heap}
/-! ### things that are no names -/
structure Thing (K : PySem.W.Frag) (H : Hp) (v : V) : Prop where
  hv : Val K H v
  nn : nameB v = false
theorem Thing.mono {K : PySem.W.Frag} {H G : Hp} {v : V} (h : Thing K H v) (s : Same H G) : Thing K G v := ⟨h.hv.mono s, h.nn⟩
/-- the deep list -/
def DeepAt (H : Hp) (p : Addr) (xs : List V) : Prop := H p = some (.lst xs)
def sp__law_deep (_ : PySem.W.Frag) : Sp := fun vs H Q _ => ∃ m : Int, vs = [.int m] ∧ 0 ≤ m ∧ m < 100000 ∧ ∀ H' p xs, Same H H' → H p = none → H' p = some (.lst xs) → Q (.ref p) H'
def sp__law_thing (K : PySem.W.Frag) : Sp := fun vs H Q _ => ∃ d : Int, vs = [.int d] ∧ ∀ v H', Same H H' → Thing K H' v → (v = .non → d % 18 = 0) → Q v H'
theorem ok__law_deep {f : Addr} {D : Addr} {fd : FuncData} (T : Txt K mg D) (F : Fun K "_law_deep" "_law_deep" s__law_deep f fd)  : FnOk P w K mg base CX0 1 f fd ["_law_many"] (sp__law_deep K) := by
  have nd := sc__law_deep.nd
  refine F.ok sc__law_deep (fun vs H Q E h => ?_) (fun cdv A outer s H vs Q E hr h => ?_)
  · obtain ⟨m, rfl, _⟩ := h
    rfl
  · obtain ⟨m, rfl, m0, m1, q⟩ := h
    refine ⟨_, (pss_cons (ps_set (i := 1) nd rfl (.inl rfl) (pe_lst pa_nil))
      (pss_cons (ps_for PassesOwn.never rfl (pi_range1 (by rfl) T.m_range (pa_cons (pv 0) pa_nil)) (pg_name (i := 2) nd rfl (.inl rfl)) (pss_one (ps_set (i := 1) nd rfl (.inl rfl) (pe_lst (pa_cons (pv 1) pa_nil)))))
      (pss_one (ps_ret (pv 1))))), ?_⟩
    refine ⟨Nat.zero_le _, fun R nR => ⟨.int m, rfl, m, rfl, by omega, by omega, ?_⟩⟩
    refine for_range (lo := 0) (fun i σ H' => ∃ (p : Addr) (y : Option V) (xs : List V), σ = [some (.int m), some (.ref p), y] ∧ Same H H' ∧ H p = none ∧ H' p = some (.lst xs))
      ⟨R, none, [], rfl, same_upd nR, nR, upd_same⟩ (fun i σ H' hi hP => ?_) (fun σ H' hP => ?_)
    · obtain ⟨p, y, xs, rfl, sm, np, ep⟩ := hP
      exact ⟨.ref p, rfl, szl rfl, fun p2 n2 => ⟨p2, _, _, rfl, sm.trans (same_upd n2), sm.free n2, upd_same⟩⟩
    · obtain ⟨p, y, xs, rfl, sm, np, ep⟩ := hP
      exact ⟨.ref p, rfl, q H' p xs sm np ep⟩
theorem thing_at {K : PySem.W.Frag} {H : Hp} {xs : List V} (h : ∀ v ∈ xs, Thing K H v) (h1 : ∀ (j : Nat), xs[j]? = some .non → j = 0) {m : Int} {n : Nat} (hn : n = xs.length) (h0 : 0 < n) : ∃ v, atI xs (m % (n : Int)) = some v ∧ Thing K H v ∧ (v = .non → m % (n : Int) = 0) := by
  have l : 0 ≤ m % (n : Int) := Int.emod_nonneg _ (by omega)
  have u : m % (n : Int) < (n : Int) := Int.emod_lt_of_pos _ (by omega)
  obtain ⟨j, hj⟩ : ∃ j : Nat, m % (n : Int) = (j : Int) := ⟨(m % (n : Int)).toNat, by omega⟩
  have hj2 : j < xs.length := by omega
  exact ⟨xs[j], by rw [hj]; exact atI_nat (List.getElem?_eq_getElem hj2), h _ (List.getElem_mem hj2), fun e => by
    have := h1 j (by rw [List.getElem?_eq_getElem hj2, e])
    rw [hj, this]; rfl⟩
def things0 (p1 p2 p3 p4 p5 : Addr) : List V := [.non, .bl true, .bl false, .int (-1), .int 100, .int (10 ^ (40 : Int).toNat), .str "", .str "a b", .str "Abc", .str "abcdefghijklm", .ref p1, .ref p2, .ref p3, .ref p4, .ref p5, .str "a\n"]
theorem things_all {H5 : Hp} {p1 p2 p3 p4 p5 : Addr} (v1 : Thing K H5 (.ref p1)) (v2 : Thing K H5 (.ref p2)) (v3 : Thing K H5 (.ref p3)) (v4 : Thing K H5 (.ref p4)) (v5 : Thing K H5 (.ref p5)) : ∀ v ∈ things0 p1 p2 p3 p4 p5, Thing K H5 v := by
  have st : ∀ z : Str, z.cps.size ≤ 13 → nameB (.str z) = false → Thing K H5 (.str z) := fun z hz h => ⟨.str z (by omega), h⟩
  intro v hv
  simp only [things0, List.mem_cons, List.not_mem_nil, or_false] at hv
  rcases hv with rfl | rfl | rfl | rfl | rfl | rfl | rfl | rfl | rfl | rfl | rfl | rfl | rfl | rfl | rfl | rfl
  · exact ⟨.non, rfl⟩
  · exact ⟨.bl _, rfl⟩
  · exact ⟨.bl _, rfl⟩
  · exact ⟨.int _, rfl⟩
  · exact ⟨.int _, rfl⟩
  · exact ⟨.int _, rfl⟩
  · exact st _ (by decide) (by decide +kernel)
  · exact st _ (by decide) (by decide +kernel)
  · exact st _ (by decide) (by decide +kernel)
  · exact st _ (by decide) (by decide +kernel)
  · exact v1
  · exact v2
  · exact v3
  · exact v4
  · exact v5
  · exact st _ (by decide) (by decide +kernel)
theorem thing_row {H : Hp} {p : Addr} {xs : List V} {b : Bool} (e : H p = some (rowO b xs)) : Thing K H (.ref p) := by
  refine ⟨?_, rfl⟩
  cases b with
  | true => exact .lst e
  | false => exact .tup e
theorem ok__law_thing {f : Addr} {D : Addr} {fd : FuncData} (T : Txt K mg D) (F : Fun K "_law_thing" "_law_thing" s__law_thing f fd) (c__law_deep : Cal P w K mg base 1 "_law_deep" (sp__law_deep K) []) : FnOk P w K mg base CX0 2 f fd ["_law_digit"] (sp__law_thing K) := by
  have nd := sc__law_thing.nd
  refine F.ok sc__law_thing (fun vs H Q E h => ?_) (fun cdv A outer s H vs Q E hr h => ?_)
  · obtain ⟨m, rfl, _⟩ := h
    rfl
  · obtain ⟨m, rfl, q⟩ := h
    refine ⟨_, (pss_cons (ps_set (i := 1) nd rfl (.inl rfl) (pe_lst (pa_cons pe_non (pa_cons pe_bl (pa_cons pe_bl (pa_cons (pe_un un_neg pe_int) (pa_cons pe_int (pa_cons (pe_op op_pow pe_int pe_int) (pa_cons pe_str (pa_cons pe_str (pa_cons pe_str pa_nil)))))))))))
      (pss_cons (ps_set (i := 1) nd rfl (.inl rfl) (pe_op op_cat (pv 1) (pe_lst (pa_cons pe_str (pa_cons (pe_lst pa_nil) (pa_cons pe_dnewK (pa_cons (pe_tup pa_nil) (pa_cons (pe_lst (pa_cons pe_str pa_nil)) (pa_cons (pe_tup (pa_cons pe_str pa_nil)) (pa_cons pe_str pa_nil))))))))))
      (pss_cons (ps_expr (pe_bm PySem.F.plainAttrs_list PySem.F.slot_list_append PySem.F.type_list_append mt_append (pv 1) (pa_cons (pe_c c__law_deep hr (by omega) (by rfl) (pa_cons pe_int pa_nil)) pa_nil)))
      (pss_cons (ps_expr (pe_bm PySem.F.plainAttrs_list PySem.F.slot_list_append PySem.F.type_list_append mt_append (pv 1) (pa_cons (pe_disp (pps_cons pe_str pe_int pps_nil) (by rfl) (by rfl) (fun z => by cases z) (by decide)) pa_nil)))
      (pss_one (ps_ret (pe_ix (r := rIxL K) ix_list (pv 1) (pe_op op_mod (pe_callTy call_int1 (by rfl) T.m_int (by decide +kernel) (pa_cons (pv 0) pa_nil)) (pe_callB call_len (by rfl) T.m_len (by decide +kernel) (pa_cons (pv 1) pa_nil))) (fun _ _ => rfl)))))))), ?_⟩
    refine ⟨1, rfl, 10, 40, rfl, rfl, ⟨by decide, by decide, by decide⟩, szl rfl, ?_⟩
    intro p0 n0
    show gName 1 (.ref p0) _ (upd H p0 (.lst [.non, .bl true, .bl false, .int (-1), .int 100, .int (10 ^ (40 : Int).toNat), .str "", .str "a b", .str "Abc"])) _
    have s0 := same_upd (o := .lst [.non, .bl true, .bl false, .int (-1), .int 100, .int (10 ^ (40 : Int).toNat), .str "", .str "a b", .str "Abc"]) n0
    have g0 : (upd H p0 (.lst [.non, .bl true, .bl false, .int (-1), .int 100, .int (10 ^ (40 : Int).toNat), .str "", .str "a b", .str "Abc"])) p0 = some (.lst [.non, .bl true, .bl false, .int (-1), .int 100, .int (10 ^ (40 : Int).toNat), .str "", .str "a b", .str "Abc"]) := upd_same
    generalize upd H p0 (.lst [.non, .bl true, .bl false, .int (-1), .int 100, .int (10 ^ (40 : Int).toNat), .str "", .str "a b", .str "Abc"]) = H0 at s0 g0 ⊢
    refine ⟨.ref p0, rfl, szl rfl, fun p1 n1 => fun p2 n2 => ⟨szl rfl, fun p3 n3 => ⟨szl rfl, fun p4 n4 => ⟨szl rfl, fun p5 n5 => ⟨szl rfl, fun p6 n6 => ?_⟩⟩⟩⟩⟩
    have s1 := same_upd (o := .lst []) n1
    have s2 := same_upd (o := .dK []) n2
    have s3 := same_upd (o := .tup []) n3
    have s4 := same_upd (o := .lst [.str "a"]) n4
    have s5 := same_upd (o := .tup [.str "a"]) n5
    have v1 : Thing K _ (.ref p1) := (((((thing_row (b := true) (xs := []) (H := upd H0 p1 (.lst [])) upd_same).mono s2).mono s3).mono s4).mono s5)
    have v2 : Thing K _ (.ref p2) := ((((⟨.dK upd_same, rfl⟩ : Thing K (upd (upd H0 p1 (.lst [])) p2 (.dK [])) (.ref p2)).mono s3).mono s4).mono s5)
    have v3 : Thing K _ (.ref p3) := (((thing_row (b := false) (xs := []) (H := upd (upd (upd H0 p1 (.lst [])) p2 (.dK [])) p3 (.tup [])) upd_same).mono s4).mono s5)
    have v4 : Thing K _ (.ref p4) := ((thing_row (b := true) (xs := [.str "a"]) (H := upd (upd (upd (upd H0 p1 (.lst [])) p2 (.dK [])) p3 (.tup [])) p4 (.lst [.str "a"])) upd_same).mono s5)
    have v5 : Thing K _ (.ref p5) := thing_row (b := false) (xs := [.str "a"]) (H := upd (upd (upd (upd (upd H0 p1 (.lst [])) p2 (.dK [])) p3 (.tup [])) p4 (.lst [.str "a"])) p5 (.tup [.str "a"])) upd_same
    have s05 : Same H0 _ := s1.trans (s2.trans (s3.trans (s4.trans s5)))
    have s15 : Same H _ := s0.trans s05
    have g5 := s05 _ _ g0
    generalize upd (upd (upd (upd (upd H0 p1 (.lst [])) p2 (.dK [])) p3 (.tup [])) p4 (.lst [.str "a"])) p5 (.tup [.str "a"]) = H5 at n6 s05 s15 g5 v1 v2 v3 v4 v5 ⊢
    have all0 := things_all v1 v2 v3 v4 v5
    have s6 := same_upd (o := .lst [.str "abcdefghijklm", .ref p1, .ref p2, .ref p3, .ref p4, .ref p5, .str "a\n"]) n6
    refine ⟨p0, p6, _, _, rfl, rfl, s6 _ _ g5, upd_same, smallE (by show 9 + 7 ≤ 100000; decide), ?_⟩
    intro L nL
    have nLH := (s15.trans s6).free nL
    have nL5 := s6.free nL
    have sL : Same H5 (upd (upd H5 p6 (.lst [.str "abcdefghijklm", .ref p1, .ref p2, .ref p3, .ref p4, .ref p5, .str "a\n"])) L (.lst (things0 p1 p2 p3 p4 p5))) := s6.trans (same_upd nL)
    have gL : (upd (upd H5 p6 (.lst [.str "abcdefghijklm", .ref p1, .ref p2, .ref p3, .ref p4, .ref p5, .str "a\n"])) L (.lst (things0 p1 p2 p3 p4 p5))) L = some (.lst (things0 p1 p2 p3 p4 p5)) := upd_same
    refine ⟨.ref L, rfl, .inl ⟨rfl, things0 p1 p2 p3 p4 p5, .inl (.inl upd_same)⟩, 1980, rfl, (by decide), (by decide), fun H6 pd xd sd nd6 ed => ?_⟩
    have eL := sd _ _ gL
    have npd : pd ≠ L := fun z => by subst z; exact absurd (nd6.symm.trans gL) (by intro h; cases h)
    have sm6 := sL.trans sd
    have l0 : (things0 p1 p2 p3 p4 p5).length = 16 := rfl
    clear gL
    have non0 : ∀ (j : Nat), (things0 p1 p2 p3 p4 p5)[j]? = some .non → j = 0 := fun j e => by
      match j with
      | 0 => rfl
      | 1 | 2 | 3 | 4 | 5 | 6 | 7 | 8 | 9 | 10 | 11 | 12 | 13 | 14 | 15 => cases e
      | _ + 16 => cases e
    generalize things0 p1 p2 p3 p4 p5 = xs0 at eL all0 l0 non0
    refine ⟨L, xs0, .ref pd, rfl, rfl, eL, small (by omega), ?_⟩
    have ed7 := (upd_ne (H := H6) (o := .lst (xs0 ++ [V.ref pd])) npd).trans ed
    have sm7 : Same H5 (upd H6 L (.lst (xs0 ++ [V.ref pd]))) := same_set nL5 sm6
    have eL7 : (upd H6 L (.lst (xs0 ++ [V.ref pd]))) L = some (.lst (xs0 ++ [V.ref pd])) := upd_same
    generalize upd H6 L (.lst (xs0 ++ [V.ref pd])) = H7 at ed7 sm7 eL7 ⊢
    -- things.append({'a': 1})
    refine ⟨.ref L, rfl, .inl ⟨rfl, _, .inl (.inl eL7)⟩, fun p8 n8 => ⟨upd_same, [(Sum.inr "a", .int 1)], rfl, (by decide), ?_⟩⟩
    have e8 : upd (upd H7 p8 (.dK [])) p8 (.dK (mergeK [] [(Sum.inr "a", .int 1)])) = upd H7 p8 (.dK (mergeK [] [(Sum.inr "a", .int 1)])) := upd_upd
    rw [e8]
    have s8 := same_upd (o := .dK (mergeK [] [(Sum.inr "a", .int 1)])) n8
    have np8 : p8 ≠ L := fun z => by rw [z, eL7] at n8; cases n8
    refine ⟨L, xs0 ++ [V.ref pd], .ref p8, rfl, rfl, s8 _ _ eL7, small (by rw [List.length_append, l0]; show 16 + 1 ≤ 100000; decide), ?_⟩
    have ed9 := (upd_ne (o := .lst (xs0 ++ [V.ref pd] ++ [V.ref p8])) npd).trans (s8 _ _ ed7)
    have sm9 : Same H5 (upd (upd H7 p8 (.dK (mergeK [] [(Sum.inr "a", .int 1)]))) L (.lst (xs0 ++ [V.ref pd] ++ [V.ref p8]))) := same_set nL5 (sm7.trans s8)
    have eL9 : (upd (upd H7 p8 (.dK (mergeK [] [(Sum.inr "a", .int 1)]))) L (.lst (xs0 ++ [V.ref pd] ++ [V.ref p8]))) L = some (.lst (xs0 ++ [V.ref pd] ++ [V.ref p8])) := upd_same
    have e89 : (upd (upd H7 p8 (.dK (mergeK [] [(Sum.inr "a", .int 1)]))) L (.lst (xs0 ++ [V.ref pd] ++ [V.ref p8]))) p8 = some (.dK (mergeK [] [(Sum.inr "a", .int 1)])) := (upd_ne np8).trans upd_same
    generalize upd (upd H7 p8 (.dK (mergeK [] [(Sum.inr "a", .int 1)]))) L (.lst (xs0 ++ [V.ref pd] ++ [V.ref p8])) = H9 at ed9 sm9 eL9 e89 ⊢
    have all3 : ∀ v ∈ xs0 ++ [V.ref pd] ++ [V.ref p8], Thing K H9 v := fun v hv => by
      rcases List.mem_append.mp hv with hv | hv
      · rcases List.mem_append.mp hv with hv | hv
        · exact (all0 v hv).mono sm9
        · rw [List.mem_singleton.mp hv]; exact ⟨.lst ed9, rfl⟩
      · rw [List.mem_singleton.mp hv]
        exact ⟨.dK e89, rfl⟩
    have l2 : (xs0 ++ [V.ref pd] ++ [V.ref p8]).length = 18 := by rw [List.length_append, List.length_append, l0]; rfl
    have non2 : ∀ (j : Nat), (xs0 ++ [V.ref pd] ++ [V.ref p8])[j]? = some .non → j = 0 := fun j e => by
      by_cases c : j < 16
      · rw [List.append_assoc, List.getElem?_append_left (by omega)] at e
        exact non0 j e
      · rw [List.append_assoc, List.getElem?_append_right (by omega), l0] at e
        obtain ⟨i, rfl⟩ : ∃ i, j = 16 + i := ⟨j - 16, by omega⟩
        rw [Nat.add_sub_cancel_left] at e
        match i with
        | 0 | 1 => cases e
        | _ + 2 => cases e
    generalize xs0 ++ [V.ref pd] ++ [V.ref p8] = xs2 at all3 l2 eL9 non2
    obtain ⟨v, hv, hV, h0v⟩ := thing_at all3 non2 (m := m) rfl (by omega)
    exact ⟨.ref L, rfl, .int m, rfl, .inl ⟨m, rfl, .ref L, rfl, .ref L, xs2.length, rfl, .inl ⟨_, .inl (.inl eL9), rfl⟩, m, (xs2.length : Int), rfl, rfl, (show (0 : Int) < (xs2.length : Int) by omega), L, xs2, m % (xs2.length : Int), v, rfl, rfl, .inl (.inl eL9), hv, q v H9 (s15.trans sm9) hV (fun e => by have := h0v e; rwa [l2] at this)⟩⟩

end
end Kn

set_option Elab.async false
set_option linter.all false
set_option maxRecDepth 100000
set_option maxHeartbeats 4000000
namespace Kn
open PySem PySem.Spec PyProof.Rows L2
open C8 (Cal pe_c pe_gc Mak pe_mk)
section
variable {P : Program} {w : World} {K : PySem.W.Frag} {mg : Str → Option Value} {base : Heap}
/-! ### an item is set -/
/-- what a refused item is refused for -/
def Refd (x y v : V) : Prop := (nameB x = false ∧ v = x) ∨ (nameB x = true ∧ y ≠ .non ∧ nameB y = false ∧ v = y)
def setT (tb : List (Str × Str)) (x : Str) : Option Str → List (Str × Str)
  | some z => putT tb x z
  | none => delT tb x
def sx_Watch_setitem (K : PySem.W.Frag) (D : Addr) (ce : Es) : Sp := fun vs H Q E => ∃ (p dx d : Addr) (tb : List (Str × Str)) (x y : V), vs = [.ref p, x, y] ∧ WatchO D H p dx d tb ∧ Val K H x ∧ Val K H y ∧ tb.length ≤ 1000 ∧
  (∀ z u, x = .str z → nameB x = true → y = optV u → (∀ t, u = some t → nameB (.str t) = true) → ∀ H', (∀ b o, H b = some o → b ≠ d → H' b = some o) → WatchO D H' p dx d (setT tb z u) → Q .non H') ∧
  (∀ v, Refd x y v → ∀ H' e, Same H H' → H' e = none → E (.ref ce.BadWord) (some e) (upd H' e (.xd [("value", v)])))
theorem name_str {v : V} (h : nameB v = true) : ∃ z, v = .str z := by
  cases v <;> first | exact ⟨_, rfl⟩ | cases h
theorem ok_Watch_setitem {f : Addr} {D : Addr} {ce : Es} {fd : FuncData} (T : Txt K mg D) (F : Fun K "__setitem__" "Watch.__setitem__" s_Watch_setitem f fd) (c_BadWord : KnX.Err P w K mg base 1 "BadWord" ce.BadWord "value") (c_is_name : Cal P w K mg base 1 "is_name" (sp_is_name K) []) : FnOk P w K mg base (L2.CX P w) 3 f fd ["self", "at", "worth"] (sx_Watch_setitem K D ce) := by
  have nd := sc_Watch_setitem.nd
  refine F.okX sc_Watch_setitem (fun vs H Q E h => ?_) (fun cdv A outer s H vs Q E hr h => ?_)
  · obtain ⟨p, dx, d, tb, x, y, rfl, _⟩ := h
    rfl
  · obtain ⟨p, dx, d, tb, x, y, rfl, hw, hx, hy, lt, q, qe⟩ := h
    refine ⟨_, (pss_cons (ps_if (pt_not (pt_val (pe_c c_is_name hr (by omega) (by rfl) (pa_cons (pv 1) pa_nil)))) (pss_one (KnX.ps_err rfl (takes_of rfl rfl rfl rfl) c_BadWord hr (by omega) (by rfl) (pa_cons (pv 1) pa_nil))) pss_nil)
      (pss_cons (ps_if (PW.pt (pw_and (pt_cmpR op_notN (pv 2) pe_non (nomark _)) (pw_and1 (pt_not (pt_val (pe_c c_is_name hr (by omega) (by rfl) (pa_cons (pv 2) pa_nil))))))) (pss_one (KnX.ps_err rfl (takes_of rfl rfl rfl rfl) c_BadWord hr (by omega) (by rfl) (pa_cons (pv 2) pa_nil))) pss_nil)
      (pss_one (ps_if (pt_cmpR op_notN (pv 2) pe_non (nomark _)) (pss_one (ps_dput (hu_of hr) (pe_fld (pv 0) rfl) (pv 1) (pv 2) rfl)) (pss_one (ps_if (pt_cmp (pc_din (hu_of hr) (pv 1) (pe_fld (pv 0) rfl))) (pss_one (ps_ddel (pe_fld (pv 0) rfl) (pv 1))) pss_nil)))))), ?_⟩
    obtain ⟨hp, hd⟩ := hw
    have ne : p ≠ d := fun z => by rw [z, hd] at hp; cases hp
    refine ⟨x, rfl, x, rfl, hx, fun H1 s1 => ⟨nameB x, rfl, ?_⟩⟩
    cases ex : nameB x with
    | false => exact iteT ⟨x, rfl, KnX.mk_err fun e ne' => qe x (.inl ⟨ex, rfl⟩) H1 e s1 ne'⟩
    | true =>
      refine iteF ?_
      obtain ⟨z, rfl⟩ := name_str ex
      by_cases ey : y = .non
      · subst ey
        have q := q z none rfl ex rfl (fun t e => nomatch e)
        refine ⟨.non, rfl, rfl, _, rfl, iteF ?_⟩
        refine ⟨.non, rfl, rfl, _, rfl, iteF ?_⟩
        refine ⟨.str z, rfl, .ref p, rfl, p, D, dx, _, .ref d, rfl, s1 _ _ hp, T.cl_Watch, T.n__sights, by simp [List.lookup], d, _, rfl, DGet.k (k := .inr z) (s1 _ _ hd), _, rfl, ?_⟩
        rw [look_val]
        cases g : look tb z with
        | none =>
          refine iteF ?_
          refine q _ (fun b o e nb => s1 _ _ e) ⟨s1 _ _ hp, ?_⟩
          show H1 d = some (.dK (fkv (delT tb z)))
          rw [delT_none g]
          exact s1 _ _ hd
        | some u =>
          refine iteT ⟨.ref p, rfl, p, D, dx, _, .ref d, rfl, s1 _ _ hp, T.cl_Watch, T.n__sights, by simp [List.lookup], .str z, rfl, d, fkv tb, .inr z, rfl, s1 _ _ hd, rfl, by rw [look_val, g]; rfl, ?_⟩
          rw [fkv_del]
          exact q _ (fun b o e nb => (upd_ne nb).trans (s1 _ _ e)) ⟨(upd_ne ne).trans (s1 _ _ hp), upd_same⟩
      · have dn : decide (y = V.non) = false := decide_eq_false ey
        refine ⟨y, rfl, rfl, _, rfl, ?_⟩
        rw [dn]
        refine iteT ⟨y, rfl, y, rfl, hy.mono s1, fun H2 s2 => ⟨nameB y, rfl, ?_⟩⟩
        have S := s1.trans s2
        cases e2 : nameB y with
        | false => exact iteT ⟨y, rfl, KnX.mk_err fun e ne' => qe y (.inr ⟨ex, ey, e2, rfl⟩) H2 e S ne'⟩
        | true =>
          refine iteF ?_
          obtain ⟨u, rfl⟩ := name_str e2
          have q := q z (some u) rfl ex rfl (fun t e => by cases e; exact e2)
          refine ⟨.str u, rfl, rfl, _, rfl, ?_⟩
          rw [dn]
          refine iteT ⟨.str u, rfl, .ref p, rfl, p, D, dx, _, .ref d, rfl, S _ _ hp, T.cl_Watch, T.n__sights, by simp [List.lookup], .str z, rfl, d, _, rfl, DPut.k (k := .inr z) (S _ _ hd) (small (by rw [fkv_len]; omega)), ?_⟩
          rw [fkv_putT]
          exact q _ (fun b o e nb => (upd_ne nb).trans (S _ _ e)) ⟨(upd_ne ne).trans (S _ _ hp), upd_same⟩
theorem look1 {g : Str} {v : V} : ([(g, v)] : List (Str × V)).lookup g = some v := by simp [List.lookup]
def sp__law_set (K : PySem.W.Frag) (D : Addr) : Sp := fun vs H Q _ => ∃ (p dx d : Addr) (tb : List (Str × Str)) (x y : V), vs = [.ref p, x, y] ∧ WatchO D H p dx d tb ∧ Val K H x ∧ Val K H y ∧ tb.length ≤ 1000 ∧
  (∀ z u, x = .str z → nameB x = true → y = optV u → (∀ t, u = some t → nameB (.str t) = true) → ∀ H' l, (∀ b o, H b = some o → b ≠ d → H' b = some o) → WatchO D H' p dx d (setT tb z u) → H' l = some (.lst [.str "set", .non]) → Q (.ref l) H') ∧
  (∀ v, Refd x y v → ∀ H' l, Same H H' → H' l = some (.lst [.str "refused", v]) → Q (.ref l) H')
theorem ok__law_set {f : Addr} {D : Addr} {ce : Es} {fd : FuncData} (T : Txt K mg D) (F : Fun K "_law_set" "_law_set" s__law_set f fd) (TE : TxE K mg ce) (c_Watch_setitem : KnW.OwnX P w K mg base 3 D "__setitem__" (sx_Watch_setitem K D ce)) : FnOk P w K mg base CX0 5 f fd ["_law_watch", "_law_word", "_law_sight"] (sp__law_set K D) := by
  have nd := sc__law_set.nd
  refine F.ok sc__law_set (fun vs H Q E h => ?_) (fun cdv A outer s H vs Q E hr h => ?_)
  · obtain ⟨p, dx, d, tb, x, y, rfl, _⟩ := h
    rfl
  · obtain ⟨p, dx, d, tb, x, y, rfl, hw, hx, hy, lt, q, qe⟩ := h
    refine ⟨_, (pss_cons (KnX.ps_try_all rfl rfl nd takes0 (fun W pn xe tk po => (pss_one (ps_asg (pv 2) (KnW.pg_subX c_Watch_setitem T.nq_Watch hr (by omega) tk (pv 0) (pv 1))))) (.cons ⟨rfl, by decide, .inl TE.g_BadWord⟩ (i := 3) rfl rfl (fun a oe cls d pn hz hf => (pss_one (ps_ret (pe_lst (pa_cons pe_str (pa_cons (pe_xf TE.f_BadWord TE.o_BadWord hz hf (pv 3)) pa_nil)))))) .nil))
      (pss_one (ps_ret (pe_lst (pa_cons pe_str (pa_cons pe_non pa_nil)))))), ?_⟩
    refine ⟨y, rfl, .ref p, rfl, x, rfl, p, dx, _, rfl, hw.1, p, dx, d, tb, x, y, rfl, hw, hx, hy, lt, ?_, ?_⟩
    · intro z u e1 ex e2 hu H' kp wo
      exact ⟨szl rfl, fun l nl => q z u e1 ex e2 hu _ l (fun b o e nb => (upd_ne (ne_of_none (kp b o e nb) nl)).trans (kp b o e nb)) ⟨(upd_ne (ne_of_none wo.1 nl)).trans wo.1, (upd_ne (ne_of_none wo.2 nl)).trans wo.2⟩ upd_same⟩
    · intro v rf H' e s' ne'
      refine ⟨true, TE.x_BadWord_BadWord, (fun _ a na => ?_), fun z => by cases z⟩
      exact ⟨.ref a, rfl, rfl, rfl, e, _, v, rfl, upd_same, look1, szl rfl, fun l nl => qe v rf _ l ((s'.trans (same_upd ne')).trans (same_upd nl)) upd_same⟩

end
end Kn

set_option Elab.async false
set_option linter.all false
set_option maxRecDepth 100000
set_option maxHeartbeats 4000000
namespace Kn
open PySem PySem.Spec PyProof.Rows L2
open C8 (Cal pe_c pe_gc Mak pe_mk)
section
variable {P : Program} {w : World} {K : PySem.W.Frag} {mg : Str → Option Value} {base : Heap}
/-! ### all that a watch tells -/
theorem keys_eq (tb : List (Str × Str)) : (fkv tb).map (fun kv => kV kv.1) = (tb.map (·.1)).map V.str := by
  unfold fkv
  rw [List.map_map, List.map_map]; rfl
def valOf (tb : List (Str × Str)) (y : Str) : Str := (look tb y).getD y
theorem look_val_key {tb : List (Str × Str)} (nd : (tb.map (·.1)).Nodup) {y : Str} (h : y ∈ tb.map (·.1)) : look tb y = some (valOf tb y) := by
  obtain ⟨u, hu, rfl⟩ := List.mem_map.mp h
  have e : look tb u.1 = some u.2 := (look_mem nd).mpr hu
  unfold valOf
  rw [e]; rfl
theorem vals_of {tb : List (Str × Str)} (nd : (tb.map (·.1)).Nodup) {ys : List Str} (pe : ys.Perm (tb.map (·.1))) (x : Str) : x ∈ ys.map (valOf tb) ↔ x ∈ tb.map (·.2) := by
  rw [List.mem_map, List.mem_map]
  constructor
  · rintro ⟨y, hy, rfl⟩
    have e := look_val_key nd (pe.mem_iff.mp hy)
    exact ⟨_, (look_mem nd).mp e, rfl⟩
  · rintro ⟨u, hu, rfl⟩
    refine ⟨u.1, pe.mem_iff.mpr (List.mem_map.mpr ⟨u, hu, rfl⟩), ?_⟩
    unfold valOf
    rw [(look_mem nd).mpr (show (u.1, u.2) ∈ tb from hu)]; rfl
def sp__law_right (K : PySem.W.Frag) (D : Addr) : Sp := fun vs H Q _ => ∃ (p d N : Addr) (tb : List (Str × Str)) (zs : List Str) (v : V), vs = [.ref p, .ref d, .ref N, v] ∧ WatchAt D H p tb ∧ H d = some (.dK (fkv tb)) ∧ (tb.map (·.1)).Nodup ∧ GoodW tb ∧ tb.length < 64 ∧ H N = some (.lst (zs.map V.str)) ∧ (∀ z ∈ zs, nameB (.str z) = true) ∧ zs.length ≤ 1000 ∧ Thing K H v ∧ ∀ H', Same H H' → Q (.bl true) H'
theorem ok__law_right {f : Addr} {D : Addr} {fd : FuncData} (T : Txt K mg D) (F : Fun K "_law_right" "_law_right" s__law_right f fd) (c_Watch_words : KnP.Prp P w K mg base 1 D "words" (sp_Watch_words K D)) (c_Watch_sights : KnP.Prp P w K mg base 1 D "sights" (sp_Watch_sights K D)) (c__law_exact : Cal P w K mg base 5 "_law_exact" (sp__law_exact K) []) (c__law_flag : Cal P w K mg base 1 "_law_flag" (sp__law_flag K) []) (c_Watch_len : KnW.Own P w K mg base 1 D "__len__" (sp_Watch_len K D)) (c_Watch_bool : KnW.Own P w K mg base 1 D "__bool__" (sp_Watch_bool K D)) (c_Watch_getitem : KnW.Own P w K mg base 2 D "__getitem__" (sp_Watch_getitem K D)) (c_Watch_contains : KnW.Own P w K mg base 2 D "__contains__" (sp_Watch_contains K D)) : FnOk P w K mg base CX0 6 f fd ["_law_watch", "_law_table", "_law_names_here", "_law_thing_here"] (sp__law_right K D) := by
  have nd := sc__law_right.nd
  refine F.ok sc__law_right (fun vs H Q E h => ?_) (fun cdv A outer s H vs Q E hr h => ?_)
  · obtain ⟨p, d, N, tb, zs, v, rfl, _⟩ := h
    rfl
  · obtain ⟨p, d, N, tb, zs, v, rfl, wa, hd, n1, gw, l64, hN, hn, lz, hv, q⟩ := h
    refine ⟨_, (pss_cons (ps_set (i := 4) nd rfl (.inl rfl) (pe_callB cr_sortedS (by rfl) T.m_sorted (by decide +kernel) (pa_cons (pe_callTy (call_listD rfl) (by rfl) T.m_list (by decide +kernel) (pa_cons (pv 1) pa_nil)) pa_nil)))
      (pss_cons (ps_set (i := 5) nd rfl (.inl rfl) (pe_callB (show CallR _ (.builtin "sorted") (KnS.rSortedL P w) from KnS.cr_sortedL rfl) (by rfl) T.m_sorted (by decide +kernel) (pa_cons (pe_callTy (show CallR _ (.type "set") (KnS.rSetOf K P w) from KnS.cr_setOf rfl) (by rfl) T.m_set (by decide +kernel) (pa_cons (pe_lc (own := [("_law_word", 10)]) (g := gName 10) (tt := tYes) rfl nd (pi_list (pv 4)) (blkOk_by (N := ["_law_watch", "_law_table", "_law_names_here", "_law_thing_here", "_law_words", "_law_sights", "_law_turn", "_law_told", "_law_seen", "_law_name", "_law_word"]) (sc := defScope s__law_right) (by decide +kernel)) (fun _ _ _ _ _ => (pg_name (i := 10) nd rfl (.inl rfl))) (fun _ _ _ _ _ => pts_nil) (fun _ _ _ _ _ => (pe_dget (hu_of hr) (pv 1) (pv 10) (fun _ _ => rfl)))) pa_nil)) pa_nil)))
      (pss_cons (ps_for PassesOwn.never rfl (pi_range1 (by rfl) T.m_range (pa_cons pe_int pa_nil)) (pg_name (i := 6) nd rfl (.inl rfl)) (pss_cons (ps_set (i := 7) nd rfl (.inl rfl) (KnP.pe_prp T.cl_Watch c_Watch_words hr (by decide) (pv 0) (by rfl)))
      (pss_cons (ps_set (i := 8) nd rfl (.inl rfl) (KnP.pe_prp T.cl_Watch c_Watch_sights hr (by decide) (pv 0) (by rfl)))
      (pss_cons (ps_if (PW.pt (pw_or (pt_not (pt_val (pe_c c__law_exact hr (by omega) (by rfl) (pa_cons (pv 7) (pa_cons (pv 4) pa_nil))))) (pw_or1 (pt_not (pt_val (pe_c c__law_exact hr (by omega) (by rfl) (pa_cons (pv 8) (pa_cons (pv 5) pa_nil)))))))) (pss_one (ps_ret pe_bl)) pss_nil)
      (pss_cons (ps_expr (pe_bm PySem.F.plainAttrs_list PySem.F.slot_list_append PySem.F.type_list_append mt_append (pv 7) (pa_cons pe_str pa_nil)))
      (pss_one (ps_expr (pe_bm PySem.F.plainAttrs_list PySem.F.slot_list_append PySem.F.type_list_append mt_append (pv 8) (pa_cons pe_str pa_nil)))))))))
      (pss_cons (ps_if (PW.pt (pw_or (pt_not (pt_val (pe_c c__law_exact hr (by omega) (by rfl) (pa_cons (pe_callB (KnW.cr_ownLen c_Watch_len hr (by omega)) (by rfl) T.m_len (by decide +kernel) (pa_cons (pv 0) pa_nil)) (pa_cons (pe_callB call_len (by rfl) T.m_len (by decide +kernel) (pa_cons (pv 4) pa_nil)) pa_nil))))) (pw_or1 (pt_not (pt_val (pe_c c__law_flag hr (by omega) (by rfl) (pa_cons (pe_callTy (KnW.cr_ownBool c_Watch_bool hr (by omega)) (by rfl) T.m_bool (by decide +kernel) (pa_cons (pv 0) pa_nil)) (pa_cons (pe_cmpR op_gt (pe_callB call_len (by rfl) T.m_len (by decide +kernel) (pa_cons (pv 4) pa_nil)) pe_int (nomark _)) pa_nil)))))))) (pss_one (ps_ret pe_bl)) pss_nil)
      (pss_cons (ps_for PassesOwn.never rfl (pi_list (pv 2)) (pg_name (i := 9) nd rfl (.inl rfl)) (pss_cons (ps_if (pt_not (pt_val (pe_c c__law_exact hr (by omega) (by rfl) (pa_cons (KnW.pe_get c_Watch_getitem hr (by omega) (pv 0) (pv 9)) (pa_cons (pe_dget1 (hu_of hr) (pv 1) (pv 9) ⟨rfl, rfl, rfl, rfl⟩) pa_nil))))) (pss_one (ps_ret pe_bl)) pss_nil)
      (pss_one (ps_if (pt_not (pt_val (pe_c c__law_flag hr (by omega) (by rfl) (pa_cons (pe_cmpR (KnW.op_ownHas c_Watch_contains hr (by omega)) (pv 9) (pv 0) (by with_unfolding_all rfl)) (pa_cons (pe_cmpR op_in_seq (pv 9) (pv 4) (by with_unfolding_all rfl)) pa_nil))))) (pss_one (ps_ret pe_bl)) pss_nil))))
      (pss_one (ps_ret (pe_c c__law_flag hr (by omega) (by rfl) (pa_cons (pe_cmpR (KnW.op_ownHas c_Watch_contains hr (by omega)) (pv 3) (pv 0) (by with_unfolding_all rfl)) (pa_cons pe_bl pa_nil)))))))))), ?_⟩
    have nB := hv.nn
    have hV := hv.hv
    obtain ⟨dx, dd, hp, hdd⟩ := id wa
    -- the words
    refine ⟨.ref d, rfl, d, _, rfl, .inl hd, fun l nl => ?_⟩
    have sl := same_upd (o := .lst ((fkv tb).map fun kv => kV kv.1)) nl
    have el : (upd H l (.lst ((fkv tb).map fun kv => kV kv.1))) l = some (.lst ((tb.map (·.1)).map V.str)) := by rw [upd_same, keys_eq]
    generalize upd H l (.lst ((fkv tb).map fun kv => kV kv.1)) = H1 at sl el ⊢
    refine ⟨l, tb.map (·.1), rfl, .inl (.inl el), by rw [List.length_map]; omega, fun ys lw pe so nlw => ?_⟩
    have s1 := sl.trans (same_upd (o := .lst (ys.map V.str)) nlw)
    have elw : (upd H1 lw (.lst (ys.map V.str))) lw = some (.lst (ys.map V.str)) := upd_same
    generalize upd H1 lw (.lst (ys.map V.str)) = H2 at s1 elw ⊢
    have lys : ys.length = tb.length := by rw [pe.length_eq, List.length_map]
    have wW : KnA.Words ys (tb.map (·.1)) := ⟨KnA.sorted_pair so, pe.symm.nodup n1, fun x => pe.mem_iff⟩
    -- the sights
    refine ⟨.ref lw, rfl, lw, rfl, ⟨_, .inl (.inl elw)⟩, fun VD nVD => ?_⟩
    refine lc_list (K := K) (xs := ys.map V.str) (fun i H' => Same H2 H' ∧ H' VD = some (.lst (((ys.take i).map (valOf tb)).map V.str))) ⟨same_upd nVD, upd_same⟩ (fun i H' _ hP => .inl (.inl (hP.1 _ _ elw))) (fun i x H' hx hP => ?_) (fun H' hP => ?_)
    · obtain ⟨S2, eV⟩ := hP
      rw [List.getElem?_map] at hx
      cases gx : ys[i]? with
      | none => rw [gx] at hx; cases hx
      | some u =>
      rw [gx] at hx
      cases hx
      have la := look_val_key n1 (pe.mem_iff.mp (List.mem_of_getElem? gx))
      have hi : i < ys.length := (List.getElem?_eq_some_iff.mp gx).1
      have dg1 : DGet H' d (.str u) (valV (fkv tb) (.inr u)) := DGet.k (k := .inr u) (S2 _ _ (s1 _ _ hd))
      rw [look_val, la] at dg1
      refine ⟨rfl, ?_⟩
      unfold tYes
      refine iteT ⟨.ref d, rfl, .str u, rfl, d, _, rfl, dg1, _, eV, small (by rw [List.length_map, List.length_map, List.length_take]; omega), same_set nVD S2, ?_⟩
      rw [upd_same, take_more gx, List.map_append, List.map_append]; rfl
    · obtain ⟨S2, eV⟩ := hP
      rw [List.length_map, List.take_length] at eV
      obtain ⟨ss, ey, ny, my⟩ := allL_strs (ys.map (valOf tb))
      have lss : ss.length ≤ (ys.map (valOf tb)).length := sub_len ny fun x hx => (my x).mp hx
      have ek : (ys.map (valOf tb)).map V.str = ((ys.map (valOf tb)).map Sum.inr).map kV := by rw [List.map_map (f := Sum.inr)]; rfl
      refine ⟨VD, (ys.map (valOf tb)).map Sum.inr, rfl, .inl (.inl (by rw [eV, ek])), by rw [List.length_map, List.length_map]; unfold scanBound; omega, fun D2 nD2 => ?_⟩
      have s2 := same_upd (o := KnS.SetL P w D2 (KnS.allL ((ys.map (valOf tb)).map Sum.inr))) nD2
      refine ⟨D2, ss, rfl, by rw [← ey]; exact upd_same, fun us lu px sx nlu => ?_⟩
      have s3 := S2.trans (s2.trans (same_upd (o := .lst (us.map V.str)) nlu))
      have eu : (upd (upd H' D2 (KnS.SetL P w D2 (KnS.allL ((ys.map (valOf tb)).map Sum.inr)))) lu (.lst (us.map V.str))) lu = some (.lst (us.map V.str)) := upd_same
      generalize upd (upd H' D2 (KnS.SetL P w D2 (KnS.allL ((ys.map (valOf tb)).map Sum.inr)))) lu (.lst (us.map V.str)) = H3 at s3 eu ⊢
      rw [List.length_map] at lss
      have lus : us.length ≤ 1000 := by rw [px.length_eq]; omega
      have wU : KnA.Words us (tb.map (·.2)) := ⟨KnA.sorted_pair sx, px.symm.nodup ny, fun x => px.mem_iff.trans ((my x).trans (vals_of n1 pe x))⟩
      have S3 := s1.trans s3
      have elw3 := s3 _ _ elw
      clear s2 S2 eV ek ey
      -- twice
      refine ⟨2, rfl, by decide, by decide, ?_⟩
      refine for_range (lo := 0) (n := 2) (fun i σ G => ∃ y6 y7 y8, σ = [some (.ref p), some (.ref d), some (.ref N), some v, some (.ref lw), some (.ref lu), y6, y7, y8, none, none] ∧ Same H3 G) ⟨none, none, none, rfl, Same.refl _⟩ (fun i σ G hi hP => ?_) (fun σ G hP => ?_)
      · obtain ⟨y6, y7, y8, rfl, S4⟩ := hP
        have S5 := S3.trans S4
        refine ⟨.ref p, rfl, p, dx, _, rfl, S5 _ _ hp, p, tb, rfl, wa.mono S5, l64, fun H7 l7 w7 s7 n7 e7 pe7 so7 => ?_⟩
        have S7 := S5.trans s7
        refine ⟨.ref p, rfl, p, dx, _, rfl, S7 _ _ hp, p, tb, rfl, wa.mono S7, l64, fun H8 l8 w8 s8 n8 e8 hw8 => ?_⟩
        have eW : w7 = ys := KnA.Words.uniq (xs := tb.map (·.1)) ⟨KnA.sorted_pair so7, pe7.symm.nodup n1, fun x => pe7.mem_iff⟩ wW
        have eU : w8 = us := KnA.Words.uniq (xs := tb.map (·.2)) hw8 wU
        subst eW eU
        have S8 := S4.trans (s7.trans s8)
        have e78 := s8 _ _ e7
        refine ⟨.ref l7, rfl, .ref lw, rfl, .ref l7, .ref lw, rfl, ex_strs e78 (S8 _ _ elw3) (by omega), fun H9 s9 => ⟨_, rfl, iteF ⟨.ref l8, rfl, .ref lu, rfl, .ref l8, .ref lu, rfl, ex_strs (s9 _ _ e8) (s9 _ _ (S8 _ _ eu)) (by omega), fun H10 s10 => ⟨_, rfl, iteF ?_⟩⟩⟩⟩
        have s90 := s9.trans s10
        have n73 : H3 l7 = none := S4.free n7
        have n83 : H3 l8 = none := (S4.trans s7).free n8
        have e70 := s90 _ _ e78
        have e80 := s90 _ _ e8
        have ne78 : l8 ≠ l7 := fun z => by rw [z, e7] at n8; cases n8
        refine ⟨.ref l7, rfl, .inl ⟨rfl, _, .inl (.inl e70)⟩, l7, _, .str "zz", rfl, rfl, e70, small (by rw [List.length_map]; omega), ?_⟩
        refine ⟨.ref l8, rfl, .inl ⟨rfl, _, .inl (.inl ((upd_ne ne78).trans e80))⟩, l8, _, .str "zz", rfl, rfl, (upd_ne ne78).trans e80, small (by rw [List.length_map]; omega), ?_⟩
        exact ⟨_, _, _, rfl, same_set n83 (same_set n73 (S8.trans s90))⟩
      · obtain ⟨y6, y7, y8, rfl, S4⟩ := hP
        have S5 := S3.trans S4
        have wa5 := wa.mono S5
        have hp5 := S5 _ _ hp
        have elw5 := S4 _ _ elw3
        refine ⟨.ref p, rfl, p, dx, _, rfl, hp5, p, tb, rfl, wa5, tb.length, rfl, by omega, .ref lw, rfl, .ref lw, ys.length, rfl, .inl ⟨_, .inl (.inl elw5), (List.length_map _).symm⟩, ?_⟩
        refine ⟨_, _, rfl, .inl (by rw [lys]; exact .int _), fun H6 s6 => ⟨_, rfl, iteF ?_⟩⟩
        have S6 := S5.trans s6
        have wa6 := wa.mono S6
        have hp6 := S6 _ _ hp
        have elw6 := s6 _ _ elw5
        refine ⟨.ref p, rfl, p, dx, _, rfl, hp6, p, tb, rfl, wa6, !tb.isEmpty, rfl, .ref lw, rfl, .ref lw, ys.length, rfl, .inl ⟨_, .inl (.inl elw6), (List.length_map _).symm⟩, ?_⟩
        have eb : decide ((!tb.isEmpty) = decide ((0 : Int) < ((ys.length : Nat) : Int))) = true := by
          rw [lys]
          cases tb with
          | nil => rfl
          | cons a r => exact decide_eq_true (by rw [decide_eq_true (show (0 : Int) < (((a :: r).length : Nat) : Int) by rw [List.length_cons]; omega)]; rfl)
        refine ⟨_, _, rfl, rfl, _, _, rfl, _, rfl, ?_⟩
        rw [eb]
        refine iteF ?_
        -- item by item
        have hN6 := S6 _ _ hN
        refine ⟨.ref N, rfl, N, rfl, ⟨_, .inl (.inl hN6)⟩, ?_⟩
        refine for_list (K := K) (xs := zs.map V.str) (fun i σ G => ∃ y9, σ = [some (.ref p), some (.ref d), some (.ref N), some v, some (.ref lw), some (.ref lu), y6, y7, y8, y9, none] ∧ Same H6 G) ⟨none, rfl, Same.refl _⟩ (fun i σ G _ hP => .inl (.inl (hP.choose_spec.2 _ _ hN6))) (fun i x σ G hx hP => ?_) (fun σ G hP => ?_)
        · obtain ⟨y9, rfl, S⟩ := hP
          rw [List.getElem?_map] at hx
          cases gx : zs[i]? with
          | none => rw [gx] at hx; cases hx
          | some z =>
          rw [gx] at hx
          cases hx
          have hz := hn z (List.mem_of_getElem? gx)
          have S7 := S6.trans S
          have dg : ∀ G', Same G G' → DGet G' d (.str z) (valV (fkv tb) (.inr z)) := fun G' s' => DGet.k (k := .inr z) (s' _ _ (S7 _ _ hd))
          rw [look_val] at dg
          refine ⟨.ref p, rfl, .str z, rfl, p, dx, _, rfl, S7 _ _ hp, p, tb, z, rfl, wa.mono S7, hz, fun G1 t1 => ?_⟩
          refine ⟨.ref d, rfl, d, rfl, .inl ⟨_, .inl (t1 _ _ (S7 _ _ hd))⟩, .str z, rfl, _, dg G1 t1, ?_⟩
          refine ⟨_, _, rfl, .inl (by cases look tb z with | none => exact .non | some y => exact .str y), fun G2 t2 => ⟨_, rfl, iteF ?_⟩⟩
          have S8 := S7.trans (t1.trans t2)
          have lz2 := (name_size hz).2
          refine ⟨.str z, rfl, .ref p, rfl, p, dx, _, rfl, S8 _ _ hp, p, tb, .str z, rfl, wa.mono S8, .str z (by omega), fun G3 t3 => ⟨_, rfl, ?_⟩⟩
          have elw8 := (S.trans (t1.trans (t2.trans t3))) _ _ elw6
          refine ⟨.str z, rfl, .ref lw, rfl, lw, ys.map V.str, rfl, .inl (.inl (.inl elw8)), rfl, flat_ws _, ?_⟩
          refine ⟨_, _, rfl, _, rfl, ?_⟩
          have eh : decide (hasB tb (.str z) = inV (.str z) (ys.map V.str)) = true := by
            rw [inV_strs]
            refine decide_eq_true ?_
            show (nameB (.str z) && (look tb z).isSome) = _
            rw [hz, Bool.true_and]
            by_cases c : z ∈ ys
            · rw [decide_eq_true c, look_val_key n1 (pe.mem_iff.mp c)]; rfl
            · rw [decide_eq_false c]
              cases g : look tb z with
              | none => rfl
              | some u => exact (c (pe.mem_iff.mpr (List.mem_map.mpr ⟨_, (look_mem n1).mp g, rfl⟩))).elim
          show ite ((!decide (hasB tb (.str z) = inV (.str z) (ys.map V.str))) = true) _ _
          rw [eh]
          exact iteF ⟨_, rfl, S.trans (t1.trans (t2.trans t3))⟩
        · obtain ⟨y9, rfl, S⟩ := hP
          have S7 := S6.trans S
          have eb2 : hasB tb v = false := by
            cases v with
            | str z => show (nameB (.str z) && _) = false; rw [nB]; rfl
            | _ => rfl
          refine ⟨v, rfl, .ref p, rfl, p, dx, _, rfl, S7 _ _ hp, p, tb, v, rfl, wa.mono S7, hV.mono S7, fun G3 t3 => ⟨_, rfl, ?_⟩⟩
          refine ⟨_, _, rfl, ?_⟩
          show Q (.bl (decide (hasB tb v = false))) G3
          rw [eb2]
          exact q _ (S7.trans t3)

end
end Kn

set_option Elab.async false
set_option linter.all false
set_option maxRecDepth 100000
set_option maxHeartbeats 4000000
namespace Kn
open PySem PySem.Spec PyProof.Rows L2
open C8 (Cal pe_c pe_gc Mak pe_mk)
section
variable {P : Program} {w : World} {K : PySem.W.Frag} {mg : Str → Option Value} {base : Heap}
/-! ### the law -/
structure TabN (zs : List Str) (tb : List (Str × Str)) : Prop where
  nd : (tb.map (·.1)).Nodup
  mem : ∀ p ∈ tb, p.1 ∈ zs ∧ nameB (.str p.2) = true
theorem TabN.len {zs : List Str} {tb : List (Str × Str)} (h : TabN zs tb) : tb.length ≤ zs.length := by
  have := sub_len (l := tb.map (·.1)) (m := zs) h.nd fun x hx => by
    obtain ⟨p, hp, rfl⟩ := List.mem_map.mp hx
    exact (h.mem p hp).1
  rwa [List.length_map] at this
theorem TabN.good {zs : List Str} {tb : List (Str × Str)} (h : TabN zs tb) (lz : zs.length ≤ 1000) (hz : ∀ z ∈ zs, nameB (.str z) = true) : GoodW tb :=
  ⟨fun p hp => ⟨hz _ (h.mem p hp).1, (h.mem p hp).2⟩, Nat.le_trans h.len lz⟩
theorem TabN.set {zs : List Str} {tb : List (Str × Str)} (h : TabN zs tb) {x : Str} (hx : x ∈ zs) {u : Option Str} (hu : ∀ t, u = some t → nameB (.str t) = true) : TabN zs (setT tb x u) := by
  cases u with
  | some y =>
    refine ⟨putT_nd h.nd _ _, fun p hp => ?_⟩
    rcases putT_mem hp with hp | hp
    · exact h.mem p hp
    · subst hp; exact ⟨hx, hu y rfl⟩
  | none => exact ⟨(List.filter_sublist.map _).nodup h.nd, fun p hp => h.mem p (List.mem_filter.mp hp).1⟩
/-- None is put in, and taken out again -/
theorem put_pop (tb : List (Str × Str)) (x : Str) (v : V) : dropK (putK (fkv tb) (.inr x) v) (.inr x) = fkv (delT tb x) := by
  rw [← fkv_del]
  generalize fkv tb = l
  unfold putK
  split
  · rename_i h
    clear h
    unfold dropK
    induction l with
    | nil => rfl
    | cons a r ih =>
      rw [List.map_cons]
      by_cases e : a.1 = (Sum.inr x : Key)
      · rw [if_pos e, List.filter_cons_of_neg (by simp [e]), List.filter_cons_of_neg (by simp [e]), ih]
      · rw [if_neg e, List.filter_cons_of_pos (by simp [e]), List.filter_cons_of_pos (by simp [e]), ih]
  · unfold dropK
    rw [List.filter_append, List.filter_cons_of_neg (by simp), List.filter_nil, List.append_nil]
/-- all stands as it stood, but for dicts, that stay dicts -/
theorem Thing.keep {K : PySem.W.Frag} {G G' : Hp} {v : V} (k : ∀ b o, G b = some o → G' b = some o ∨ ((∃ x, o = .dK x) ∧ ∃ y, G' b = some (.dK y))) (h : Thing K G v) : Thing K G' v := by
  refine ⟨?_, h.nn⟩
  cases h.hv with
  | non => exact .non
  | bl b => exact .bl b
  | int i => exact .int i
  | str z hz => exact .str z hz
  | lst e =>
    rcases k _ _ e with g | ⟨⟨x, q⟩, _⟩
    · exact .lst g
    · cases q
  | tup e =>
    rcases k _ _ e with g | ⟨⟨x, q⟩, _⟩
    · exact .tup g
    · cases q
  | dK e =>
    rcases k _ _ e with g | ⟨_, y, g⟩
    · exact .dK g
    · exact .dK g
theorem Val.own {K : PySem.W.Frag} {H : Hp} {v : V} (h : Val K H v) : KnQ.Own v := by cases h <;> trivial
theorem optV_inj {a b : Option Str} (h : optV a = optV b) : a = b := by
  cases a <;> cases b <;> first | rfl | cases h
  rfl
theorem set_fkv {tb : List (Str × Str)} {x : Str} : ∀ {u : Option Str}, setT tb x u = match u with | some y => putT tb x y | none => delT tb x
  | some _ => rfl
  | none => rfl
theorem not_refd {x : Str} {u : Option Str} {v : V} (hx : nameB (.str x) = true) (hu : ∀ t, u = some t → nameB (.str t) = true) (h : Refd (.str x) (optV u) v) : False := by
  rcases h with ⟨h, _⟩ | ⟨_, h1, h2, _⟩
  · rw [hx] at h; cases h
  · cases u with
    | none => exact h1 rfl
    | some y =>
      have h2 : nameB (.str y) = false := h2
      rw [hu y rfl] at h2; cases h2
theorem ok_law {f : Addr} {D : Addr} {ce : Es} {fd : FuncData} (T : Txt K mg D) (F : Fun K "law" "law" s_law f fd) (c__law_names : Cal P w K mg base 3 "_law_names" (sp__law_names K) []) (c__law_cell : Cal P w K mg base 2 "_law_cell" (sp__law_cell K) []) (c_Watch_init : Mak P w K mg base 3 "Watch" D (sp_Watch_init K D) []) (c__law_row : Cal P w K mg base 2 "_law_row" (sp__law_row K) []) (c__law_thing : Cal P w K mg base 2 "_law_thing" (sp__law_thing K) []) (c__law_set : Cal P w K mg base 5 "_law_set" (sp__law_set K D) []) (c__law_flag : Cal P w K mg base 1 "_law_flag" (sp__law_flag K) []) (c__law_right : Cal P w K mg base 6 "_law_right" (sp__law_right K D) []) (c_Watch_eq : KnW.Own P w K mg base 1 D "__eq__" (sp_Watch_eq K D)) (c_Watch_copy : C8.Met P w K mg base 5 D "copy" (sp_Watch_copy K D) []) (c_Watch_setitem : KnW.OwnX P w K mg base 3 D "__setitem__" (sx_Watch_setitem K D ce)) (c_Watch_init0 : Mak P w K mg base 3 "Watch" D (sp_Watch_init K D) [.non]) : FnOk P w K mg base CX0 7 f fd ["_law_script"] (sp_law K) := by
  have nd := sc_law.nd
  refine F.ok sc_law (fun vs H Q E h => ?_) (fun cdv A outer s H vs Q E hr h => ?_)
  · obtain ⟨a, ns, rfl, _⟩ := h
    rfl
  · obtain ⟨a, ns, rfl, hS, hlen, q⟩ := h
    refine ⟨_, (pss_cons (ps_set (i := 1) nd rfl (.inl rfl) (pe_c c__law_names hr (by omega) (by rfl) (pa_cons (pe_c c__law_cell hr (by omega) (by rfl) (pa_cons (pv 0) (pa_cons pe_int pa_nil))) (pa_cons pe_int pa_nil))))
      (pss_cons (ps_set (i := 2) nd rfl (.inl rfl) (KnW.pe_mk0 c_Watch_init0 hr (by omega) (by rfl)))
      (pss_cons (ps_set (i := 3) nd rfl (.inl rfl) pe_dnewK)
      (pss_cons (ps_for PassesOwn.never rfl (pi_range1 (by rfl) T.m_range (pa_cons (pe_callB (call_max2 rfl) (by rfl) T.m_max (by decide +kernel) (pa_cons pe_int (pa_cons (pe_callB (call_min2 rfl) (by rfl) T.m_min (by decide +kernel) (pa_cons pe_int (pa_cons (pe_callB call_len (by rfl) T.m_len (by decide +kernel) (pa_cons (pv 0) pa_nil)) pa_nil))) pa_nil))) pa_nil)) (pg_name (i := 4) nd rfl (.inl rfl)) (pss_cons (ps_set (i := 5) nd rfl (.inl rfl) (pe_c c__law_row hr (by omega) (by rfl) (pa_cons (pe_c c__law_cell hr (by omega) (by rfl) (pa_cons (pv 0) (pa_cons (pv 4) pa_nil))) (pa_cons (pe_lst (pa_cons pe_int (pa_cons pe_int (pa_cons pe_int (pa_cons pe_int (pa_cons pe_int pa_nil)))))) pa_nil))))
      (pss_cons (ps_set (i := 6) nd rfl (.inl rfl) (pe_ix (r := rIxL K) ix_list (pv 1) (pe_ix (r := rIxL K) ix_list (pv 5) pe_int (fun _ _ => rfl)) (fun _ _ => rfl)))
      (pss_cons (ps_set (i := 7) nd rfl (.inl rfl) (pe_ix (r := rIxL K) ix_list (pe_op op_cat (pv 1) (pe_lst (pa_cons pe_non (pa_cons pe_non (pa_cons pe_non pa_nil))))) (pe_ix (r := rIxL K) ix_list (pv 5) pe_int (fun _ _ => rfl)) (fun _ _ => rfl)))
      (pss_cons (ps_set (i := 8) nd rfl (.inl rfl) (pe_c c__law_thing hr (by omega) (by rfl) (pa_cons (pe_ix (r := rIxL K) ix_list (pv 5) pe_int (fun _ _ => rfl)) pa_nil)))
      (pss_cons (ps_if (pt_cmpR op_lt (pe_ix (r := rIxL K) ix_list (pv 5) pe_int (fun _ _ => rfl)) pe_int (nomark _)) (pss_cons (ps_if (pt_cmpR (KnQ.op_neOwn hr.units0) (pe_c c__law_set hr (by omega) (by rfl) (pa_cons (pv 2) (pa_cons (pv 6) (pa_cons (pv 7) pa_nil)))) (pe_lst (pa_cons pe_str (pa_cons pe_non pa_nil))) (nomark _)) (pss_one (ps_ret pe_bl)) pss_nil)
      (pss_cons (ps_dput (hu_of hr) (pv 3) (pv 6) (pv 7) rfl)
      (pss_one (ps_if (pt_cmpR op_isN (pv 7) pe_non (nomark _)) (pss_one (ps_expr (pe_dpop1 (pv 3) (pv 6) ⟨rfl, rfl, rfl, rfl⟩))) pss_nil)))) (pss_one (ps_if (pt_cmpR op_eq (pe_ix (r := rIxL K) ix_list (pv 5) pe_int (fun _ _ => rfl)) pe_int (nomark _)) (pss_one (ps_if (pt_cmpR (KnQ.op_neOwn hr.units0) (pe_c c__law_set hr (by omega) (by rfl) (pa_cons (pv 2) (pa_cons (pv 8) (pa_cons (pe_c c__law_thing hr (by omega) (by rfl) (pa_cons (pe_ix (r := rIxL K) ix_list (pv 5) pe_int (fun _ _ => rfl)) pa_nil)) pa_nil)))) (pe_lst (pa_cons pe_str (pa_cons (pv 8) pa_nil))) (nomark _)) (pss_one (ps_ret pe_bl)) pss_nil)) (pss_one (ps_if (pt_cmpR op_eq (pe_ix (r := rIxL K) ix_list (pv 5) pe_int (fun _ _ => rfl)) pe_int (nomark _)) (pss_cons (ps_set (i := 9) nd rfl (.inl rfl) (pe_c c__law_thing hr (by omega) (by rfl) (pa_cons (pe_op op_add pe_int (pe_ix (r := rIxL K) ix_list (pv 5) pe_int (fun _ _ => rfl))) pa_nil)))
      (pss_one (ps_if (pt_cmpR (KnQ.op_neOwn hr.units0) (pe_c c__law_set hr (by omega) (by rfl) (pa_cons (pv 2) (pa_cons (pv 6) (pa_cons (pv 9) pa_nil)))) (pe_lst (pa_cons pe_str (pa_cons (pv 9) pa_nil))) (nomark _)) (pss_one (ps_ret pe_bl)) pss_nil))) (pss_cons (ps_set (i := 10) nd rfl (.inl rfl) (C8.pe_mt0 c_Watch_copy hr (by omega) (pv 2)))
      (pss_cons (ps_if (PW.pt (pw_or (pt_cmpR (KnW.op_ownNe c_Watch_eq T.ne_Watch T.sob_Watch hr (by omega)) (pv 10) (pv 2) (nomark _)) (pw_or1 (pt_not (pt_val (pe_c c__law_flag hr (by omega) (by rfl) (pa_cons (pe_cmpR (KnW.op_ownEqA c_Watch_eq hr (by omega)) (pv 10) (pv 2) (nomark _)) (pa_cons pe_bl pa_nil)))))))) (pss_one (ps_ret pe_bl)) pss_nil)
      (pss_one (ps_asg (pv 7) (KnW.pg_subX c_Watch_setitem T.nq_Watch hr (by omega) takes0 (pv 10) (pv 6)))))))))))
      (pss_one (ps_if (pt_not (pt_val (pe_c c__law_right hr (by omega) (by rfl) (pa_cons (pv 2) (pa_cons (pv 3) (pa_cons (pv 1) (pa_cons (pv 8) pa_nil))))))) (pss_one (ps_ret pe_bl)) pss_nil))))))))
      (pss_cons (ps_for PassesOwn.never rfl (pi_list (pe_lst (pa_cons (pe_callTy call_dictD (by rfl) T.m_dict (by decide +kernel) (pa_cons (pv 3) pa_nil)) (pa_cons (pe_callB cr_sortedS (by rfl) T.m_sorted (by decide +kernel) (pa_cons (pe_callTy (call_listD rfl) (by rfl) T.m_list (by decide +kernel) (pa_cons (pv 3) pa_nil)) pa_nil)) (pa_cons pe_non (pa_cons pe_int (pa_cons pe_str (pa_cons (pe_c c__law_thing hr (by omega) (by rfl) (pa_cons (pe_callB call_len (by rfl) T.m_len (by decide +kernel) (pa_cons (pv 0) pa_nil)) pa_nil)) pa_nil)))))))) (pg_name (i := 8) nd rfl (.inl rfl)) (pss_one (ps_if (PW.pt (pw_or (pt_not (pt_val (pe_c c__law_flag hr (by omega) (by rfl) (pa_cons (pe_cmpR (KnW.op_ownEqA c_Watch_eq hr (by omega)) (pv 2) (pv 8) (nomark _)) (pa_cons pe_bl pa_nil))))) (pw_or1 (pt_not (pt_val (pe_c c__law_flag hr (by omega) (by rfl) (pa_cons (pe_cmpR (KnW.op_neR c_Watch_eq T.ne_Watch T.sob_Watch ⟨T.sN_Watch, T.sB_Watch, T.sI_Watch, T.sS_Watch, T.sL_Watch, T.sT_Watch, T.sD_Watch⟩ hr (by omega)) (pv 8) (pv 2) (nomark _)) (pa_cons pe_bl pa_nil)))))))) (pss_one (ps_ret pe_bl)) pss_nil)))
      (pss_one (ps_ret (pe_cmpR (KnW.op_ownEqA c_Watch_eq hr (by omega)) (pe_mk c_Watch_init hr (by omega) (by rfl) (pa_cons (pe_callTy call_dictD (by rfl) T.m_dict (by decide +kernel) (pa_cons (pv 3) pa_nil)) pa_nil)) (pv 2) (nomark _))))))))), ?_⟩
    refine ⟨.ref a, rfl, a, ns, 0, rfl, hS, fun c0 => ⟨c0, 8, rfl, by decide, fun H1 N zs s1 nN eN lz hz => ?_⟩⟩
    have hS1 := s1.seq hS
    -- the watch, the table
    intro p dx np ndx nep
    have sx : Same H1 (upd (upd H1 dx (.own p)) p (.ins D dx [])) := fun b o e => (upd_ne (ne_of_none e np)).trans ((upd_ne (ne_of_none e ndx)).trans e)
    refine ⟨p, dx, .non, [], rfl, upd_same, .inl ⟨rfl, rfl⟩, fun H2 d kp nd' wo => ⟨rfl, ?_⟩⟩
    have s2 : Same H1 H2 := fun b o e => kp b o (sx _ _ e) (ne_of_none e np)
    have nd1 : H1 d = none := sx.free nd'
    clear kp sx
    intro dt ndt
    have ndt1 : H1 dt = none := s2.free ndt
    have s3 : Same H1 (upd H2 dt (.dK [])) := s2.trans (same_upd ndt)
    have ndd : dt ≠ d := fun z => by rw [z, wo.2] at ndt; cases ndt
    have wo3 : WatchO D (upd H2 dt (.dK [])) p dx d [] := ⟨(upd_ne (ne_of_none wo.1 ndt)).trans wo.1, (upd_ne (ne_of_none wo.2 ndt)).trans wo.2⟩
    have ed3 : (upd H2 dt (.dK [])) dt = some (.dK (fkv [])) := upd_same
    generalize upd H2 dt (.dK []) = H3 at s3 wo3 ed3 ⊢
    -- the deeds
    have hS3 := s3.seq hS1
    obtain ⟨m, hm, m8, m63⟩ : ∃ m : Nat, (if (if (ns.length : Int) < 63 then (ns.length : Int) else 63) > 8 then (if (ns.length : Int) < 63 then (ns.length : Int) else 63) else 8) = ((m : Nat) : Int) ∧ 8 ≤ m ∧ m ≤ 63 := by
      by_cases c1 : (ns.length : Int) < 63
      · rw [if_pos c1]
        by_cases c2 : (ns.length : Int) > 8
        · rw [if_pos c2]; exact ⟨_, rfl, by omega, by omega⟩
        · rw [if_neg c2]; exact ⟨8, rfl, by omega, by omega⟩
      · rw [if_neg c1, if_pos (by decide)]; exact ⟨63, rfl, by omega, by omega⟩
    refine ⟨.ref a, rfl, .ref a, ns.length, rfl, .inl ⟨_, hS3, (List.length_map _).symm⟩, 63, (ns.length : Int), rfl, 8, _, rfl, _, rfl, ?_, ?_, ?_⟩
    · rw [hm]; exact Int.le_trans (by decide) (Int.natCast_nonneg m)
    · rw [hm]; exact Int.lt_of_le_of_lt (show ((m : Nat) : Int) ≤ 63 by omega) (by decide)
    rw [hm]
    refine for_range (lo := 0) (n := m) (fun i σ G => ∃ (y4 y5 y6 y7 y8 y9 y10 : Option V) (tb : List (Str × Str)), σ = [some (.ref a), some (.ref N), some (.ref p), some (.ref dt), y4, y5, y6, y7, y8, y9, y10] ∧ Same H1 G ∧ WatchO D G p dx d tb ∧ G dt = some (.dK (fkv tb)) ∧ TabN zs tb) ⟨none, none, none, none, none, none, none, [], rfl, s3, wo3, ed3, List.nodup_nil, fun p hp => nomatch hp⟩ (fun i σ G hi hP => ?_) (fun σ G hP => ?_)
    · obtain ⟨y4, y5, y6, y7, y8, y9, y10, tb, rfl, S, wG, eD, tn⟩ := hP
      rw [show (0 : Int) + (i : Nat) = (i : Nat) by omega]
      have hSG := S.seq hS1
      refine ⟨.ref a, rfl, .int (i : Nat), rfl, a, ns, i, rfl, hSG, fun c => ⟨szl rfl, fun q1 k1 => ?_⟩⟩
      have v1 := same_upd (o := .lst [.int 7, .int 8, .int 11, .int 18, .int 17]) k1
      refine ⟨c, q1, [7, 8, 11, 18, 17], rfl, .inl (.inl upd_same), by decide, by decide, fun G5 R rs s5 nR eR hrl hb => ?_⟩
      have s05 := v1.trans s5
      have S5 := S.trans s05
      obtain ⟨r0, _, g0, l0, u0⟩ := row_at hrl hb (j := 0) (t := 7) rfl
      obtain ⟨r1, _, g1, l1, u1⟩ := row_at hrl hb (j := 1) (t := 8) rfl
      obtain ⟨r2, _, g2, l2, u2⟩ := row_at hrl hb (j := 2) (t := 11) rfl
      obtain ⟨r3, _, g3, l3, u3⟩ := row_at hrl hb (j := 3) (t := 18) rfl
      obtain ⟨r4, _, g4, l4, u4⟩ := row_at hrl hb (j := 4) (t := 17) rfl
      clear hb v1
      have eN5 := S5 _ _ eN
      obtain ⟨j1, rfl⟩ : ∃ j : Nat, r1 = (j : Int) := ⟨r1.toNat, by omega⟩
      have hj1 : j1 < zs.length := by omega
      have gz : (zs.map V.str)[j1]? = some (.str zs[j1]) := by rw [List.getElem?_map, List.getElem?_eq_getElem hj1]; rfl
      refine ⟨.ref N, rfl, .ref R, rfl, R, rs.map V.int, 1, .int (j1 : Int), rfl, rfl, .inl (.inl eR), atI_nat (j := 1) g1, N, zs.map V.str, (j1 : Int), .str zs[j1], rfl, rfl, .inl (.inl eN5), atI_nat gz, ?_⟩
      obtain ⟨j2, rfl⟩ : ∃ j : Nat, r2 = (j : Int) := ⟨r2.toNat, by omega⟩
      obtain ⟨u, gu, hu⟩ : ∃ u : Option Str, (zs.map V.str ++ [V.non, .non, .non])[j2]? = some (optV u) ∧ ∀ t, u = some t → nameB (.str t) = true := by
        by_cases c : j2 < zs.length
        · refine ⟨some zs[j2], ?_, fun t e => by cases e; exact hz _ (List.getElem_mem c)⟩
          rw [List.getElem?_append_left (by rw [List.length_map]; exact c), List.getElem?_map, List.getElem?_eq_getElem c]; rfl
        · refine ⟨none, ?_, fun t e => nomatch e⟩
          rw [List.getElem?_append_right (by rw [List.length_map]; omega), List.length_map, lz]
          obtain ⟨k, hk⟩ : ∃ k, j2 = 8 + k := ⟨j2 - 8, by omega⟩
          subst hk
          rw [Nat.add_sub_cancel_left]
          match k with
          | 0 | 1 | 2 => rfl
          | _ + 3 => omega
      refine ⟨.ref N, rfl, szl rfl, fun t3 n3 => ?_⟩
      have w3 := same_upd (o := .lst [V.non, .non, .non]) n3
      refine ⟨N, t3, zs.map V.str, [V.non, .non, .non], rfl, rfl, w3 _ _ eN5, upd_same, smallE (by rw [List.length_map, lz]; decide), fun t4 n4 => ?_⟩
      have w4 := w3.trans (same_upd (o := .lst (zs.map V.str ++ [V.non, .non, .non])) n4)
      have e4 : (upd (upd G5 t3 (.lst [V.non, .non, .non])) t4 (.lst (zs.map V.str ++ [V.non, .non, .non]))) t4 = some (.lst (zs.map V.str ++ [V.non, .non, .non])) := upd_same
      generalize upd (upd G5 t3 (.lst [V.non, .non, .non])) t4 (.lst (zs.map V.str ++ [V.non, .non, .non])) = G6 at w4 e4 ⊢
      have eR6 := w4 _ _ eR
      refine ⟨.ref R, rfl, R, rs.map V.int, 2, .int (j2 : Int), rfl, rfl, .inl (.inl eR6), atI_nat (j := 2) g2, t4, _, (j2 : Int), optV u, rfl, rfl, .inl (.inl e4), atI_nat gu, ?_⟩
      refine ⟨.ref R, rfl, R, rs.map V.int, 3, .int r3, rfl, rfl, .inl (.inl eR6), atI_nat (j := 3) g3, r3, rfl, fun tv G7 s7 th _ => ?_⟩
      have S7 := S5.trans (w4.trans s7)
      have s07 := s05.trans (w4.trans s7)
      have eR7 := s7 _ _ eR6
      have wG7 : WatchO D G7 p dx d tb := ⟨s07 _ _ wG.1, s07 _ _ wG.2⟩
      have eD7 := s07 _ _ eD
      have mz : zs[j1] ∈ zs := List.getElem_mem hj1
      have nz := hz _ mz
      have lz1 := (name_size nz).2
      have ltb := tn.len
      refine KnC.asg_if (fun σ2 G8 => ∃ (y9 y10 : Option V) (tb : List (Str × Str)), σ2 = [some (.ref a), some (.ref N), some (.ref p), some (.ref dt), some (.int (i : Nat)), some (.ref R), some (.str zs[j1]), some (optV u), some tv, y9, y10] ∧ Same H1 G8 ∧ WatchO D G8 p dx d tb ∧ G8 dt = some (.dK (fkv tb)) ∧ TabN zs tb ∧ Thing K G8 tv) (fun go => ?_) (fun σ2 G8 hT => ?_)
      · have valU : ∀ G, Val K G (optV u) := fun G => by
          cases u with
          | none => exact .non
          | some y => exact .str y (by have := (name_size (hu y rfl)).2; omega)
        have valZ : ∀ G, Val K G (.str zs[j1]) := fun G => .str _ (by omega)
        have ndd7 : G7 dt = some (.dK (fkv tb)) := eD7
        refine ⟨.ref R, rfl, R, rs.map V.int, 0, .int r0, rfl, rfl, .inl (.inl eR7), atI_nat (j := 0) g0, r0, 4, rfl, rfl, _, rfl, ite2 (fun c0 => ?_) (fun c0 => ?_)⟩
        · -- a word is given a sight
          refine ⟨.ref p, rfl, .str zs[j1], rfl, optV u, rfl, p, dx, d, tb, .str zs[j1], optV u, rfl, wG7, valZ _, valU _, by omega, fun z' u' e1 ex e2 hu' H8 l k8 wo8 e8 => ?_, fun v rf => (not_refd nz hu rf).elim⟩
          cases e1
          have eu := optV_inj e2
          subst eu
          have S8 : Same H1 H8 := fun b o e => k8 b o (S7 _ _ e) (ne_of_none e nd1)
          have eD8 := k8 _ _ eD7 ndd
          refine ⟨szl rfl, fun l2 n2 => ⟨l, l2, _, rfl, rfl, (upd_ne (ne_of_none e8 n2)).trans e8, upd_same, (fun v hv => by
            rcases List.mem_cons.mp hv with rfl | hv
            · trivial
            · rw [List.mem_singleton.mp hv]; trivial), _, rfl, iteF ?_⟩⟩
          have t9 := same_upd (o := .lst [V.str "set", .non]) n2
          have eD9 := t9 _ _ eD8
          have wo9 : WatchO D _ p dx d (setT tb zs[j1] u) := ⟨t9 _ _ wo8.1, t9 _ _ wo8.2⟩
          have S9 := S8.trans t9
          have k9 : ∀ b o, G7 b = some o → b ≠ d → (upd H8 l2 (.lst [V.str "set", .non])) b = some o := fun b o e nb => t9 _ _ (k8 b o e nb)
          generalize upd H8 l2 (.lst [V.str "set", .non]) = H9 at eD9 wo9 S9 k9 ⊢
          have pd : p ≠ dt := fun z => by have := wo9.1; rw [z, eD9] at this; cases this
          have keepT : ∀ ks, Thing K (upd H9 dt (.dK ks)) tv := fun ks => th.keep fun b o e => by
            by_cases c1 : b = dt
            · subst c1
              rw [eD7] at e
              exact .inr ⟨⟨_, (Option.some.inj e).symm⟩, ks, upd_same⟩
            · by_cases c2 : b = d
              · subst c2
                rw [wG7.2] at e
                exact .inr ⟨⟨_, (Option.some.inj e).symm⟩, _, (upd_ne c1).trans wo9.2⟩
              · exact .inl ((upd_ne c1).trans (k9 b o e c2))
          refine ⟨optV u, rfl, .ref dt, rfl, .str zs[j1], rfl, dt, _, rfl, DPut.k (k := .inr zs[j1]) eD9 (small (by rw [fkv_len]; omega)), ?_⟩
          refine ⟨optV u, rfl, rfl, _, rfl, ?_⟩
          cases u with
          | some y =>
            refine iteF (go _ _ ⟨_, _, setT tb zs[j1] (some y), rfl, same_set ndt1 S9, ⟨(upd_ne pd).trans wo9.1, (upd_ne ndd.symm).trans wo9.2⟩, ?_, tn.set mz hu, keepT _⟩)
            rw [upd_same]
            exact congrArg (fun t => some (HO.dK t)) (fkv_putT tb zs[j1] y)
          | none =>
            refine iteT ⟨.ref dt, rfl, dt, rfl, .inl ⟨_, .inl upd_same⟩, .str zs[j1], rfl, _, .inr zs[j1], .non, upd_same, rfl, by rw [valV_put, if_pos rfl]; rfl, ?_⟩
            rw [upd_upd]
            refine go _ _ ⟨_, _, setT tb zs[j1] none, rfl, same_set ndt1 S9, ⟨(upd_ne pd).trans wo9.1, (upd_ne ndd.symm).trans wo9.2⟩, ?_, tn.set mz hu, keepT _⟩
            rw [upd_same]
            exact congrArg (fun t => some (HO.dK t)) (put_pop tb zs[j1] _)
        · refine ⟨.ref R, rfl, R, rs.map V.int, 0, .int r0, rfl, rfl, .inl (.inl eR7), atI_nat (j := 0) g0, rfl, _, rfl, ite2 (fun c4 => ?_) (fun c4 => ?_)⟩
          · -- a word that is no name
            refine ⟨.ref p, rfl, tv, rfl, .ref R, rfl, R, rs.map V.int, 4, .int r4, rfl, rfl, .inl (.inl eR7), atI_nat (j := 4) g4, r4, rfl, fun tw H8 s8 th2 _ => ?_⟩
            have th8 := th.mono s8
            refine ⟨p, dx, d, tb, tv, tw, rfl, ⟨s8 _ _ wG7.1, s8 _ _ wG7.2⟩, th8.hv, th2.hv, by omega, fun z' u' e1 ex => ?_, fun v rf H9 l s9 e9 => ?_⟩
            · rw [th8.nn] at ex; cases ex
            · have ev : v = tv := by
                rcases rf with ⟨_, e⟩ | ⟨h, _⟩
                · exact e
                · rw [th8.nn] at h; cases h
              subst ev
              refine ⟨v, rfl, szl rfl, fun l2 n2 => ⟨l, l2, _, rfl, rfl, (upd_ne (ne_of_none e9 n2)).trans e9, upd_same, (fun x hx => by
                rcases List.mem_cons.mp hx with rfl | hx
                · trivial
                · rw [List.mem_singleton.mp hx]; exact th8.hv.own), _, rfl, iteF ?_⟩⟩
              have t9 := s8.trans (s9.trans (same_upd (o := .lst [V.str "refused", v]) n2))
              exact go _ _ ⟨_, _, tb, rfl, S7.trans t9, ⟨t9 _ _ wG7.1, t9 _ _ wG7.2⟩, t9 _ _ eD7, tn, th.mono t9⟩
          · refine ⟨.ref R, rfl, R, rs.map V.int, 0, .int r0, rfl, rfl, .inl (.inl eR7), atI_nat (j := 0) g0, rfl, _, rfl, ite2 (fun c5 => ?_) (fun c5 => ?_)⟩
            · -- a sight that is no name
              refine ⟨.ref R, rfl, R, rs.map V.int, 4, .int r4, rfl, rfl, .inl (.inl eR7), atI_nat (j := 4) g4, 1, r4, rfl, rfl, 1 + r4, rfl, fun tw H8 s8 th2 h02 => ?_⟩
              have tn0 : tw ≠ .non := fun e => by have := h02 e; omega
              refine ⟨.ref p, rfl, .str zs[j1], rfl, tw, rfl, p, dx, d, tb, .str zs[j1], tw, rfl, ⟨s8 _ _ wG7.1, s8 _ _ wG7.2⟩, valZ _, th2.hv, by omega, fun z' u' e1 ex e2 hu' => ?_, fun v rf H9 l s9 e9 => ?_⟩
              · cases u' with
                | none => exact (tn0 e2).elim
                | some y =>
                  have nn := th2.nn
                  rw [show tw = .str y from e2, hu' y rfl] at nn
                  cases nn
              · have ev : v = tw := by
                  rcases rf with ⟨h, _⟩ | ⟨_, _, _, e⟩
                  · rw [nz] at h; cases h
                  · exact e
                subst ev
                refine ⟨v, rfl, szl rfl, fun l2 n2 => ⟨l, l2, _, rfl, rfl, (upd_ne (ne_of_none e9 n2)).trans e9, upd_same, (fun x hx => by
                  rcases List.mem_cons.mp hx with rfl | hx
                  · trivial
                  · rw [List.mem_singleton.mp hx]; exact th2.hv.own), _, rfl, iteF ?_⟩⟩
                have t9 := s8.trans (s9.trans (same_upd (o := .lst [V.str "refused", v]) n2))
                exact go _ _ ⟨_, _, tb, rfl, S7.trans t9, ⟨t9 _ _ wG7.1, t9 _ _ wG7.2⟩, t9 _ _ eD7, tn, th.mono t9⟩
            · -- a copy is changed
              refine ⟨.ref p, rfl, p, dx, _, rfl, wG7.1, rfl, p, tb, rfl, ⟨dx, d, wG7⟩, tn.good (by omega) hz, fun H8 r dr er s8 nr ne8 wo8 => ?_⟩
              have wp8 : WatchO D H8 p dx d tb := ⟨s8 _ _ wG7.1, s8 _ _ wG7.2⟩
              have ty : TyOf K H8 (.ref p) (.ref D) := .ins wp8.1 T.cl_Watch T.ins_Watch.ha T.ins_Watch.hn T.ins_Watch.htk T.ins_Watch.hm
              have nf : PySem.W.notFirst K D (.ref D) = true := by simp [PySem.W.notFirst]
              refine ⟨.ref r, rfl, .ref p, rfl, r, dr, _, .ref D, rfl, wo8.1, ty, nf, r, .ref p, tb, rfl, ⟨dr, er, wo8⟩, tn.nd, .inl ⟨p, tb, rfl, ⟨dx, d, wp8⟩, tn.nd, fun b hb => ⟨b, rfl, ?_⟩⟩⟩
              obtain rfl : b = true := hb.mpr fun z => rfl
              refine ⟨_, rfl, iteF ⟨.ref r, rfl, .ref p, rfl, r, dr, _, .ref D, rfl, wo8.1, ty, nf, r, .ref p, tb, rfl, ⟨dr, er, wo8⟩, tn.nd, .inl ⟨p, tb, rfl, ⟨dx, d, wp8⟩, tn.nd, fun b hb => ⟨b, rfl, ?_⟩⟩⟩⟩
              obtain rfl : b = true := hb.mpr fun z => rfl
              refine ⟨_, _, rfl, _, rfl, iteF ?_⟩
              refine ⟨optV u, rfl, .ref r, rfl, .str zs[j1], rfl, r, dr, _, rfl, wo8.1, r, dr, er, tb, .str zs[j1], optV u, rfl, wo8, valZ _, valU _, by omega, fun z' u' e1 ex e2 hu' H9 k9 wo9 => ?_, fun v rf => (not_refd nz hu rf).elim⟩
              have t9 : Same G7 H9 := fun b o e => k9 b o (s8 _ _ e) (ne_of_none e ne8)
              exact go _ _ ⟨_, _, tb, rfl, S7.trans t9, ⟨t9 _ _ wG7.1, t9 _ _ wG7.2⟩, t9 _ _ eD7, tn, th.mono t9⟩
      · obtain ⟨y9, y10, tb2, rfl, S8, wG8, eD8, tn2, th8⟩ := hT
        have l2 := tn2.len
        refine ⟨.ref p, rfl, .ref dt, rfl, .ref N, rfl, tv, rfl, p, dt, N, tb2, zs, tv, rfl, ⟨dx, d, wG8⟩, eD8, tn2.nd, tn2.good (by omega) hz, by omega, S8 _ _ eN, hz, by omega, th8, fun G9 s9 => ⟨_, rfl, iteF ?_⟩⟩
        exact ⟨_, _, _, _, _, _, _, tb2, rfl, S8.trans s9, ⟨s9 _ _ wG8.1, s9 _ _ wG8.2⟩, s9 _ _ eD8, tn2⟩
    · obtain ⟨y4, y5, y6, y7, y8, y9, y10, tb, rfl, S, wG, eD, tn⟩ := hP
      have hSG := S.seq hS1
      have ltb := tn.len
      refine ⟨.ref dt, rfl, dt, _, rfl, .inl eD, fun d2 n2 => ?_⟩
      have v2 := same_upd (o := .dK (fkv tb)) n2
      have e2 : (upd G d2 (.dK (fkv tb))) d2 = some (.dK (fkv tb)) := upd_same
      generalize upd G d2 (.dK (fkv tb)) = G2 at v2 e2 ⊢
      refine ⟨.ref dt, rfl, dt, _, rfl, .inl (v2 _ _ eD), fun l nl => ?_⟩
      have sl := same_upd (o := .lst ((fkv tb).map fun kv => kV kv.1)) nl
      have el : (upd G2 l (.lst ((fkv tb).map fun kv => kV kv.1))) l = some (.lst ((tb.map (·.1)).map V.str)) := by rw [upd_same, keys_eq]
      generalize upd G2 l (.lst ((fkv tb).map fun kv => kV kv.1)) = G3 at sl el ⊢
      refine ⟨l, tb.map (·.1), rfl, .inl (.inl el), by rw [List.length_map]; omega, fun ys lw pe so nlw => ?_⟩
      have v3 := sl.trans (same_upd (o := .lst (ys.map V.str)) nlw)
      have e3 : (upd G3 lw (.lst (ys.map V.str))) lw = some (.lst (ys.map V.str)) := upd_same
      generalize upd G3 lw (.lst (ys.map V.str)) = G4 at v3 e3 ⊢
      have v23 := v2.trans v3
      refine ⟨.ref a, rfl, .ref a, ns.length, rfl, .inl ⟨_, v23.seq hSG, (List.length_map _).symm⟩, (ns.length : Int), rfl, fun tv G5 s5 th _ => ⟨szl rfl, fun L nL => ?_⟩⟩
      have v5 := v23.trans s5
      have sL := same_upd (o := .lst [.ref d2, .ref lw, .non, .int 0, .str "", tv]) nL
      have all : ∀ v ∈ [V.ref d2, .ref lw, .non, .int 0, .str "", tv], Val K (upd G5 L (.lst [.ref d2, .ref lw, .non, .int 0, .str "", tv])) v := fun v hv => by
        simp only [List.mem_cons, List.not_mem_nil, or_false] at hv
        rcases hv with rfl | rfl | rfl | rfl | rfl | rfl
        · exact .dK (sL _ _ (s5 _ _ (v3 _ _ e2)))
        · exact .lst (sL _ _ (s5 _ _ e3))
        · exact .non
        · exact .int 0
        · exact .str _ (by decide)
        · exact (th.mono sL).hv
      have eL : (upd G5 L (.lst [.ref d2, .ref lw, .non, .int 0, .str "", tv])) L = some (.lst [.ref d2, .ref lw, .non, .int 0, .str "", tv]) := upd_same
      have v6 := v5.trans sL
      generalize upd G5 L (.lst [.ref d2, .ref lw, .non, .int 0, .str "", tv]) = G6 at v6 all eL ⊢
      generalize [V.ref d2, .ref lw, .non, .int 0, .str "", tv] = xs at all eL
      refine ⟨L, rfl, ⟨_, .inl (.inl eL)⟩, ?_⟩
      refine for_list (K := K) (xs := xs) (fun i σ G' => ∃ y8, σ = [some (.ref a), some (.ref N), some (.ref p), some (.ref dt), y4, y5, y6, y7, y8, y9, y10] ∧ Same G6 G') ⟨_, rfl, Same.refl _⟩ (fun i σ G' _ hP => .inl (.inl (hP.choose_spec.2 _ _ eL))) (fun i x σ G' hx hP => ?_) (fun σ G' hP => ?_)
      · obtain ⟨y8, rfl, S6⟩ := hP
        have hv := (all x (List.mem_of_getElem? hx)).mono S6
        obtain ⟨T', hT, ty⟩ := tyOf_val hv
        have nf : PySem.W.notFirst K D (.type T') = true := KnW.not_first hT
        have kit : PySem.W.kitOne K (.type T') (.ref D) = some false := KnW.kit_own T.ic_W T.it_W (fun e => by cases e) (KnW.plain_sub hT)
        have v7 := v6.trans S6
        have wG7 : WatchO D G' p dx d tb := ⟨v7 _ _ wG.1, v7 _ _ wG.2⟩
        refine ⟨.ref p, rfl, x, rfl, p, dx, _, .type T', rfl, wG7.1, ty, nf, p, x, tb, rfl, ⟨dx, d, wG7⟩, tn.nd, .inr ⟨_, ty, kit, false, rfl, _, _, rfl, _, rfl, iteF ?_⟩⟩
        exact ⟨x, rfl, .ref p, rfl, p, dx, _, rfl, wG7.1, plainAt hv, p, x, tb, rfl, ⟨dx, d, wG7⟩, tn.nd, .inr ⟨_, ty, kit, false, rfl, _, _, rfl, _, rfl, iteF ⟨_, rfl, S6⟩⟩⟩
      · obtain ⟨y8, rfl, S6⟩ := hP
        have v7 := v6.trans S6
        have wG7 : WatchO D G' p dx d tb := ⟨v7 _ _ wG.1, v7 _ _ wG.2⟩
        refine ⟨.ref dt, rfl, dt, _, rfl, .inl (v7 _ _ eD), fun e nE => ?_⟩
        have v8 := same_upd (o := .dK (fkv tb)) nE
        have eE : (upd G' e (.dK (fkv tb))) e = some (.dK (fkv tb)) := upd_same
        generalize upd G' e (.dK (fkv tb)) = G8 at v8 eE ⊢
        intro x dx' nx ndx nex
        refine init_ok nx ndx eE (tn.good (by omega) hz) fun G9 d' s9 nd' wo9 => ⟨rfl, ?_⟩
        have v9 := v8.trans s9
        have wp9 : WatchO D G9 p dx d tb := ⟨v9 _ _ wG7.1, v9 _ _ wG7.2⟩
        have ty : TyOf K G9 (.ref p) (.ref D) := .ins wp9.1 T.cl_Watch T.ins_Watch.ha T.ins_Watch.hn T.ins_Watch.htk T.ins_Watch.hm
        have nf : PySem.W.notFirst K D (.ref D) = true := by simp [PySem.W.notFirst]
        refine ⟨.ref p, rfl, x, dx', _, .ref D, rfl, wo9.1, ty, nf, x, .ref p, tb, rfl, ⟨dx', d', wo9⟩, tn.nd, .inl ⟨p, tb, rfl, ⟨dx, d, wp9⟩, tn.nd, fun b hb => ⟨b, rfl, ?_⟩⟩⟩
        obtain rfl : b = true := hb.mpr fun z => rfl
        exact q _

end
end Kn

set_option Elab.async false
set_option linter.all false
set_option maxRecDepth 100000
set_option maxHeartbeats 4000000
namespace Kn
open PySem PySem.Spec PyProof.Rows L2
open C8 (Cal pe_c pe_gc Mak pe_mk)
abbrev s_BadWord_init : Stmt := inClass (topS 3) 0
theorem sc_BadWord_init : FnScope ["self", "value"] ["self", "value"] (defScope s_BadWord_init) := ⟨rfl, rfl, rfl, by decide +kernel, rfl, by decide +kernel, by decide +kernel⟩
section
variable {P : Program} {w : World} {K : PySem.W.Frag} {mg : Str → Option Value} {base : Heap}
theorem ok_BadWord_init {f C C0 : Addr} {mc : Value} {fd : FuncData} (g0 : mg "KnowError" = some (.ref C0)) (B : KnX.BaseC K C0 mc) (ox : OexC K C) (no : PySem.W.findIn K (.ref C) "value" = some none) (F : Fun K "__init__" "BadWord.__init__" s_BadWord_init f fd) : FnOk P w K mg base CX0 1 f fd ["self", "value"] (KnX.spErr C "value" K) := by
  have nd := sc_BadWord_init.nd
  refine F.ok sc_BadWord_init (fun vs H Q E h => ?_) (fun cdv A outer s H vs Q E hr h => ?_)
  · obtain ⟨a, y, rfl, _⟩ := h
    rfl
  · obtain ⟨a, y, rfl, ha, q⟩ := h
    refine ⟨_, (pss_cons (ps_expr (KnX.pe_baseinit (by rfl) g0 B (pa_cons (pv 0) (pa_cons pe_str pa_nil)))) (pss_one (ps_ost (pv 0) (pv 1)))), ?_⟩
    exact ⟨.ref a, rfl, a, C, [.str _], rfl, Nat.le_of_ble_eq_true rfl, ox, ha, y, rfl, .ref a, rfl, a, C, rfl, ox, no, .inl ⟨ha, fun dx nd ne => q dx nd ne⟩⟩
end
theorem exm_mk {K : PySem.W.Frag} {A B : Addr} {b : Bool} (eB : PySem.W.subIn K (.ref B) (.type "BaseException") = some true) (iB : PySem.W.isClsIn K B = true) (tB : PySem.W.typeIn K (.ref B) = some (.type "type")) (s : PySem.W.subIn K (.ref A) (.ref B) = some b) : PySem.W.exmOne K (.ref A) (.ref B) = some b := by
  have i2 : (PySem.W.clsIn K B).isSome = true := iB
  unfold PySem.W.exmOne
  rw [if_pos (by rw [eB]; rfl)]
  show (if ((PySem.W.clsIn K B).isSome && PySem.W.typeIn K (.ref B) == some (.type "type")) = true then PySem.W.subIn K (.ref A) (.ref B) else none) = some b
  rw [if_pos (by rw [i2, tB]; rfl), s]
theorem all_mk {l : PySem.W.OpenLaw} {w : World} {K : PySem.W.Frag} {h : Heap} {mg : Str → Option Value} {fa : Addr} (X : K.In h) (G : h.Ns mainGlobals mg) (hfa : mg "law" = some (.ref fa))
    {t6 : Addr} {tc6 : Value} {td6 : Option Addr} {tn6 : Nat} {ts6 : Array (Option Value)}
    {od0 an0 : Option Addr} {sl0 : Array (Option Value)} {oc0 kV0 dc0 pm0 cd0 ct0 : Value} {f0 : Addr}
    {od1 an1 : Option Addr} {sl1 : Array (Option Value)} {oc1 kV1 dc1 pm1 cd1 ct1 : Value} {f1 : Addr}
    {od2 an2 : Option Addr} {sl2 : Array (Option Value)} {oc2 kV2 dc2 pm2 cd2 ct2 : Value} {f2 : Addr}
    {od3 an3 : Option Addr} {sl3 : Array (Option Value)} {oc3 kV3 dc3 pm3 cd3 ct3 : Value} {f3 : Addr}
    {od4 an4 : Option Addr} {sl4 : Array (Option Value)} {oc4 kV4 dc4 pm4 cd4 ct4 : Value} {f4 : Addr}
    {od5 an5 : Option Addr} {sl5 : Array (Option Value)} {oc5 kV5 dc5 pm5 cd5 ct5 : Value} {f5 : Addr}
    {od6 an6 : Option Addr} {sl6 : Array (Option Value)} {oc6 kV6 dc6 pm6 cd6 ct6 : Value} {f6 : Addr}
    {od7 an7 : Option Addr} {sl7 : Array (Option Value)} {oc7 kV7 dc7 pm7 cd7 ct7 : Value} {f7 : Addr}
    {od8 an8 : Option Addr} {sl8 : Array (Option Value)} {oc8 kV8 dc8 pm8 cd8 ct8 : Value} {f8 : Addr}
    {od9 an9 : Option Addr} {sl9 : Array (Option Value)} {oc9 kV9 dc9 pm9 cd9 ct9 : Value} {f9 : Addr}
    {od10 an10 : Option Addr} {sl10 : Array (Option Value)} {oc10 kV10 dc10 pm10 cd10 ct10 : Value} {f10 : Addr}
    {od11 an11 : Option Addr} {sl11 : Array (Option Value)} {oc11 kV11 dc11 pm11 cd11 ct11 : Value} {f11 : Addr}
    {od12 an12 : Option Addr} {sl12 : Array (Option Value)} {oc12 kV12 dc12 pm12 cd12 ct12 : Value} {f12 : Addr}
    {od13 an13 : Option Addr} {sl13 : Array (Option Value)} {oc13 kV13 dc13 pm13 cd13 ct13 : Value} {f13 : Addr}
    {od14 an14 : Option Addr} {sl14 : Array (Option Value)} {oc14 kV14 dc14 pm14 cd14 ct14 : Value} {f14 : Addr}
    {od15 an15 : Option Addr} {sl15 : Array (Option Value)} {oc15 kV15 dc15 pm15 cd15 ct15 : Value} {f15 : Addr}
    {od16 an16 : Option Addr} {sl16 : Array (Option Value)} {oc16 kV16 dc16 pm16 cd16 ct16 : Value} {f16 : Addr}
    {od17 an17 : Option Addr} {sl17 : Array (Option Value)} {oc17 kV17 dc17 pm17 cd17 ct17 : Value} {f17 : Addr}
    {od18 an18 : Option Addr} {sl18 : Array (Option Value)} {oc18 kV18 dc18 pm18 cd18 ct18 : Value} {f18 : Addr}
    {od19 an19 : Option Addr} {sl19 : Array (Option Value)} {oc19 kV19 dc19 pm19 cd19 ct19 : Value} {f19 : Addr}
    {od20 an20 : Option Addr} {sl20 : Array (Option Value)} {oc20 kV20 dc20 pm20 cd20 ct20 : Value} {f20 : Addr}
    {od21 an21 : Option Addr} {sl21 : Array (Option Value)} {oc21 kV21 dc21 pm21 cd21 ct21 : Value} {f21 : Addr}
    {od22 an22 : Option Addr} {sl22 : Array (Option Value)} {oc22 kV22 dc22 pm22 cd22 ct22 : Value} {f22 : Addr}
    {od23 an23 : Option Addr} {sl23 : Array (Option Value)} {oc23 kV23 dc23 pm23 cd23 ct23 : Value} {f23 : Addr}
    {D : Addr} (aD : PySem.W.nsIn K mainGlobals "Watch" = some (some (.ref D)))
    (ihn : PySem.W.specialIn K (.builtin "object.__class__") "__get__" = some (some (.builtin "getset_descriptor.__get__"))) (ihtk : PySem.W.takesIn K (.builtin "object.__class__") = some true)
    {C0 : Addr} (aK : PySem.W.nsIn K mainGlobals "KnowError" = some (some (.ref C0))) (rdK : PySem.W.readsIn K C0 (.type "type") = true) (gaK : PySem.W.specialIn K (.ref C0) "__getattribute__" = some (some (.builtin "type.__getattribute__"))) (atK : PySem.W.findCls K (.ref C0) (.type "type") "__init__" = some (.val (.builtin "ValueError.__init__")))
    {cBadWord iBadWord : Addr} {nmBadWord qBadWord : Str} {NBadWord : Addr} {bsBadWord : List Value} {snBadWord : List Str} {subBadWord : List Value} {abBadWord : Bool} {colBadWord : Option Bool} {ddBadWord : Option Addr} {k0BadWord k1BadWord k2BadWord k3BadWord k5BadWord : Option Value} {odBadWord anBadWord : Option Addr} {slBadWord : Array (Option Value)} {ocBadWord kVBadWord dcBadWord pmBadWord cdBadWord ctBadWord : Value}
    (aBadWord : PySem.W.nsIn K mainGlobals "BadWord" = some (some (.ref cBadWord)))
    (xBadWord : K.lookup cBadWord = some (excClassObj nmBadWord qBadWord cBadWord NBadWord bsBadWord [.ref C0, .type "ValueError", .type "Exception", .type "BaseException", .type "object"] true snBadWord subBadWord abBadWord colBadWord ddBadWord k0BadWord k1BadWord k2BadWord k3BadWord k5BadWord "ValueError.__new__"))
    (saBadWord : PySem.W.findIn K (.ref cBadWord) "__setattr__" = some (some (.builtin "object.__setattr__"))) (gaBadWord : PySem.W.findIn K (.ref cBadWord) "__getattribute__" = some (some (.builtin "BaseException.__getattribute__"))) (ggBadWord : PySem.W.findIn K (.ref cBadWord) "__getattr__" = some none) (nbBadWord : PySem.W.findIn K (.ref cBadWord) "value" = some none)
    (aiBadWord : PySem.W.findIn K (.ref cBadWord) "__init__" = some (some (.ref iBadWord))) (tiBadWord : PySem.W.typeIn K (.ref iBadWord) = some (.type "function"))
    (liBadWord : K.lookup iBadWord = some ⟨ocBadWord, odBadWord, .func (PySem.W.fnOf "__init__" "BadWord.__init__" (defArgs s_BadWord_init) (defBody s_BadWord_init) (defScope s_BadWord_init) .none kVBadWord dcBadWord pmBadWord anBadWord cdBadWord ctBadWord), slBadWord⟩) (diBadWord : PySem.W.codeIn K cdBadWord "BadWord.__init__" = true) (kiBadWord : PySem.W.keepIn K (.ref iBadWord) = true)
    (kCBadWord : PySem.W.keepIn K (.ref cBadWord) = true) (eCBadWord : PySem.W.subIn K (.ref cBadWord) (.type "BaseException") = some true) (tCBadWord : PySem.W.typeIn K (.ref cBadWord) = some (.type "type")) (hCBadWord : PySem.W.hasDictIn K cBadWord = true) (iCBadWord : PySem.W.isClsIn K cBadWord = true)
    (sBadWordBadWord : PySem.W.subIn K (.ref cBadWord) (.ref cBadWord) = some true)
    (a0 : PySem.W.nsIn K mainGlobals "_law_mix" = some (some (.ref f0)))
    (l0 : K.lookup f0 = some ⟨oc0, od0, .func (PySem.W.fnOf "_law_mix" "_law_mix" (defArgs s__law_mix) (defBody s__law_mix) (defScope s__law_mix) .none kV0 dc0 pm0 an0 cd0 ct0), sl0⟩) (d0 : PySem.W.codeIn K cd0 "_law_mix" = true) (k0 : PySem.W.keepIn K (.ref f0) = true)
    (a1 : PySem.W.nsIn K mainGlobals "_law_row" = some (some (.ref f1)))
    (l1 : K.lookup f1 = some ⟨oc1, od1, .func (PySem.W.fnOf "_law_row" "_law_row" (defArgs s__law_row) (defBody s__law_row) (defScope s__law_row) .none kV1 dc1 pm1 an1 cd1 ct1), sl1⟩) (d1 : PySem.W.codeIn K cd1 "_law_row" = true) (k1 : PySem.W.keepIn K (.ref f1) = true)
    (a2 : PySem.W.nsIn K mainGlobals "_law_names" = some (some (.ref f2)))
    (l2 : K.lookup f2 = some ⟨oc2, od2, .func (PySem.W.fnOf "_law_names" "_law_names" (defArgs s__law_names) (defBody s__law_names) (defScope s__law_names) .none kV2 dc2 pm2 an2 cd2 ct2), sl2⟩) (d2 : PySem.W.codeIn K cd2 "_law_names" = true) (k2 : PySem.W.keepIn K (.ref f2) = true)
    (a3 : PySem.W.nsIn K mainGlobals "_law_cell" = some (some (.ref f3)))
    (l3 : K.lookup f3 = some ⟨oc3, od3, .func (PySem.W.fnOf "_law_cell" "_law_cell" (defArgs s__law_cell) (defBody s__law_cell) (defScope s__law_cell) .none kV3 dc3 pm3 an3 cd3 ct3), sl3⟩) (d3 : PySem.W.codeIn K cd3 "_law_cell" = true) (k3 : PySem.W.keepIn K (.ref f3) = true)
    (a4 : PySem.W.nsIn K mainGlobals "is_name" = some (some (.ref f4)))
    (l4 : K.lookup f4 = some ⟨oc4, od4, .func (PySem.W.fnOf "is_name" "is_name" (defArgs s_is_name) (defBody s_is_name) (defScope s_is_name) .none kV4 dc4 pm4 an4 cd4 ct4), sl4⟩) (d4 : PySem.W.codeIn K cd4 "is_name" = true) (k4 : PySem.W.keepIn K (.ref f4) = true)
    (a5 : PySem.W.nsIn K mainGlobals "is_sights" = some (some (.ref f5)))
    (l5 : K.lookup f5 = some ⟨oc5, od5, .func (PySem.W.fnOf "is_sights" "is_sights" (defArgs s_is_sights) (defBody s_is_sights) (defScope s_is_sights) .none kV5 dc5 pm5 an5 cd5 ct5), sl5⟩) (d5 : PySem.W.codeIn K cd5 "is_sights" = true) (k5 : PySem.W.keepIn K (.ref f5) = true)
    (a6 : PySem.W.findIn K (.ref D) "__init__" = some (some (.ref f6))) (i6 : PySem.W.isFn K (.ref f6) = true)
    (l6 : K.lookup f6 = some ⟨oc6, od6, .func (PySem.W.fnOf "__init__" "Watch.__init__" (defArgs s_Watch_init) (defBody s_Watch_init) (defScope s_Watch_init) (.ref t6) kV6 dc6 pm6 an6 cd6 ct6), sl6⟩) (d6 : PySem.W.codeIn K cd6 "Watch.__init__" = true) (k6 : PySem.W.keepIn K (.ref f6) = true)
    (tl6 : K.lookup t6 = some ⟨tc6, td6, .seq #[.none] tn6, ts6⟩)
    (a7 : PySem.W.nsIn K mainGlobals "_law_deep" = some (some (.ref f7)))
    (l7 : K.lookup f7 = some ⟨oc7, od7, .func (PySem.W.fnOf "_law_deep" "_law_deep" (defArgs s__law_deep) (defBody s__law_deep) (defScope s__law_deep) .none kV7 dc7 pm7 an7 cd7 ct7), sl7⟩) (d7 : PySem.W.codeIn K cd7 "_law_deep" = true) (k7 : PySem.W.keepIn K (.ref f7) = true)
    (a8 : PySem.W.nsIn K mainGlobals "_law_thing" = some (some (.ref f8)))
    (l8 : K.lookup f8 = some ⟨oc8, od8, .func (PySem.W.fnOf "_law_thing" "_law_thing" (defArgs s__law_thing) (defBody s__law_thing) (defScope s__law_thing) .none kV8 dc8 pm8 an8 cd8 ct8), sl8⟩) (d8 : PySem.W.codeIn K cd8 "_law_thing" = true) (k8 : PySem.W.keepIn K (.ref f8) = true)
    (a9 : PySem.W.findIn K (.ref D) "__setitem__" = some (some (.ref f9))) (i9 : PySem.W.isFn K (.ref f9) = true)
    (y9 : PySem.W.fnIn K f9 = true)
    (l9 : K.lookup f9 = some ⟨oc9, od9, .func (PySem.W.fnOf "__setitem__" "Watch.__setitem__" (defArgs s_Watch_setitem) (defBody s_Watch_setitem) (defScope s_Watch_setitem) .none kV9 dc9 pm9 an9 cd9 ct9), sl9⟩) (d9 : PySem.W.codeIn K cd9 "Watch.__setitem__" = true) (k9 : PySem.W.keepIn K (.ref f9) = true)
    (a10 : PySem.W.nsIn K mainGlobals "_law_set" = some (some (.ref f10)))
    (l10 : K.lookup f10 = some ⟨oc10, od10, .func (PySem.W.fnOf "_law_set" "_law_set" (defArgs s__law_set) (defBody s__law_set) (defScope s__law_set) .none kV10 dc10 pm10 an10 cd10 ct10), sl10⟩) (d10 : PySem.W.codeIn K cd10 "_law_set" = true) (k10 : PySem.W.keepIn K (.ref f10) = true)
    (a11 : PySem.W.nsIn K mainGlobals "_law_flag" = some (some (.ref f11)))
    (l11 : K.lookup f11 = some ⟨oc11, od11, .func (PySem.W.fnOf "_law_flag" "_law_flag" (defArgs s__law_flag) (defBody s__law_flag) (defScope s__law_flag) .none kV11 dc11 pm11 an11 cd11 ct11), sl11⟩) (d11 : PySem.W.codeIn K cd11 "_law_flag" = true) (k11 : PySem.W.keepIn K (.ref f11) = true)
    {p12 : Addr} {rs12 : List Value} (a12 : PySem.W.findIn K (.ref D) "words" = some (some (.ref p12))) (g12 : PySem.W.specialIn K (.ref p12) "__get__" = some (some (.builtin "property.__get__"))) (w12 : PySem.W.takesIn K (.ref p12) = some true) (r12 : PySem.W.recIn K p12 "property" = some (.ref f12 :: rs12))
    (l12 : K.lookup f12 = some ⟨oc12, od12, .func (PySem.W.fnOf "words" "Watch.words" (defArgs s_Watch_words) (defBody s_Watch_words) (defScope s_Watch_words) .none kV12 dc12 pm12 an12 cd12 ct12), sl12⟩) (d12 : PySem.W.codeIn K cd12 "Watch.words" = true) (k12 : PySem.W.keepIn K (.ref f12) = true)
    {p13 : Addr} {rs13 : List Value} (a13 : PySem.W.findIn K (.ref D) "sights" = some (some (.ref p13))) (g13 : PySem.W.specialIn K (.ref p13) "__get__" = some (some (.builtin "property.__get__"))) (w13 : PySem.W.takesIn K (.ref p13) = some true) (r13 : PySem.W.recIn K p13 "property" = some (.ref f13 :: rs13))
    (l13 : K.lookup f13 = some ⟨oc13, od13, .func (PySem.W.fnOf "sights" "Watch.sights" (defArgs s_Watch_sights) (defBody s_Watch_sights) (defScope s_Watch_sights) .none kV13 dc13 pm13 an13 cd13 ct13), sl13⟩) (d13 : PySem.W.codeIn K cd13 "Watch.sights" = true) (k13 : PySem.W.keepIn K (.ref f13) = true)
    (a14 : PySem.W.nsIn K mainGlobals "_law_is_integer" = some (some (.ref f14)))
    (l14 : K.lookup f14 = some ⟨oc14, od14, .func (PySem.W.fnOf "_law_is_integer" "_law_is_integer" (defArgs s__law_is_integer) (defBody s__law_is_integer) (defScope s__law_is_integer) .none kV14 dc14 pm14 an14 cd14 ct14), sl14⟩) (d14 : PySem.W.codeIn K cd14 "_law_is_integer" = true) (k14 : PySem.W.keepIn K (.ref f14) = true)
    (a15 : PySem.W.nsIn K mainGlobals "_law_exact" = some (some (.ref f15)))
    (l15 : K.lookup f15 = some ⟨oc15, od15, .func (PySem.W.fnOf "_law_exact" "_law_exact" (defArgs s__law_exact) (defBody s__law_exact) (defScope s__law_exact) .none kV15 dc15 pm15 an15 cd15 ct15), sl15⟩) (d15 : PySem.W.codeIn K cd15 "_law_exact" = true) (k15 : PySem.W.keepIn K (.ref f15) = true)
    (a16 : PySem.W.findIn K (.ref D) "__len__" = some (some (.ref f16))) (i16 : PySem.W.isFn K (.ref f16) = true)
    (y16 : PySem.W.fnIn K f16 = true)
    (l16 : K.lookup f16 = some ⟨oc16, od16, .func (PySem.W.fnOf "__len__" "Watch.__len__" (defArgs s_Watch_len) (defBody s_Watch_len) (defScope s_Watch_len) .none kV16 dc16 pm16 an16 cd16 ct16), sl16⟩) (d16 : PySem.W.codeIn K cd16 "Watch.__len__" = true) (k16 : PySem.W.keepIn K (.ref f16) = true)
    (a17 : PySem.W.findIn K (.ref D) "__bool__" = some (some (.ref f17))) (i17 : PySem.W.isFn K (.ref f17) = true)
    (y17 : PySem.W.fnIn K f17 = true)
    (l17 : K.lookup f17 = some ⟨oc17, od17, .func (PySem.W.fnOf "__bool__" "Watch.__bool__" (defArgs s_Watch_bool) (defBody s_Watch_bool) (defScope s_Watch_bool) .none kV17 dc17 pm17 an17 cd17 ct17), sl17⟩) (d17 : PySem.W.codeIn K cd17 "Watch.__bool__" = true) (k17 : PySem.W.keepIn K (.ref f17) = true)
    (a18 : PySem.W.findIn K (.ref D) "__getitem__" = some (some (.ref f18))) (i18 : PySem.W.isFn K (.ref f18) = true)
    (y18 : PySem.W.fnIn K f18 = true)
    (l18 : K.lookup f18 = some ⟨oc18, od18, .func (PySem.W.fnOf "__getitem__" "Watch.__getitem__" (defArgs s_Watch_getitem) (defBody s_Watch_getitem) (defScope s_Watch_getitem) .none kV18 dc18 pm18 an18 cd18 ct18), sl18⟩) (d18 : PySem.W.codeIn K cd18 "Watch.__getitem__" = true) (k18 : PySem.W.keepIn K (.ref f18) = true)
    (a19 : PySem.W.findIn K (.ref D) "__contains__" = some (some (.ref f19))) (i19 : PySem.W.isFn K (.ref f19) = true)
    (y19 : PySem.W.fnIn K f19 = true)
    (l19 : K.lookup f19 = some ⟨oc19, od19, .func (PySem.W.fnOf "__contains__" "Watch.__contains__" (defArgs s_Watch_contains) (defBody s_Watch_contains) (defScope s_Watch_contains) .none kV19 dc19 pm19 an19 cd19 ct19), sl19⟩) (d19 : PySem.W.codeIn K cd19 "Watch.__contains__" = true) (k19 : PySem.W.keepIn K (.ref f19) = true)
    (a20 : PySem.W.nsIn K mainGlobals "_law_right" = some (some (.ref f20)))
    (l20 : K.lookup f20 = some ⟨oc20, od20, .func (PySem.W.fnOf "_law_right" "_law_right" (defArgs s__law_right) (defBody s__law_right) (defScope s__law_right) .none kV20 dc20 pm20 an20 cd20 ct20), sl20⟩) (d20 : PySem.W.codeIn K cd20 "_law_right" = true) (k20 : PySem.W.keepIn K (.ref f20) = true)
    (a21 : PySem.W.findIn K (.ref D) "__eq__" = some (some (.ref f21))) (i21 : PySem.W.isFn K (.ref f21) = true)
    (y21 : PySem.W.fnIn K f21 = true)
    (l21 : K.lookup f21 = some ⟨oc21, od21, .func (PySem.W.fnOf "__eq__" "Watch.__eq__" (defArgs s_Watch_eq) (defBody s_Watch_eq) (defScope s_Watch_eq) .none kV21 dc21 pm21 an21 cd21 ct21), sl21⟩) (d21 : PySem.W.codeIn K cd21 "Watch.__eq__" = true) (k21 : PySem.W.keepIn K (.ref f21) = true)
    (a22 : PySem.W.findIn K (.ref D) "copy" = some (some (.ref f22))) (i22 : PySem.W.isFn K (.ref f22) = true)
    (l22 : K.lookup f22 = some ⟨oc22, od22, .func (PySem.W.fnOf "copy" "Watch.copy" (defArgs s_Watch_copy) (defBody s_Watch_copy) (defScope s_Watch_copy) .none kV22 dc22 pm22 an22 cd22 ct22), sl22⟩) (d22 : PySem.W.codeIn K cd22 "Watch.copy" = true) (k22 : PySem.W.keepIn K (.ref f22) = true)
    (a23 : PySem.W.nsIn K mainGlobals "law" = some (some (.ref f23)))
    (l23 : K.lookup f23 = some ⟨oc23, od23, .func (PySem.W.fnOf "law" "law" (defArgs s_law) (defBody s_law) (defScope s_law) .none kV23 dc23 pm23 an23 cd23 ct23), sl23⟩) (d23 : PySem.W.codeIn K cd23 "law" = true) (k23 : PySem.W.keepIn K (.ref f23) = true)
    (pgD : PySem.W.plainGet K D Str.empty = true) (hdD : PySem.W.hasDictIn K D = true) (poD : PySem.W.plainOver K D = true) (saD : PySem.W.findIn K (.ref D) "__setattr__" = some (some (.builtin "object.__setattr__"))) (mkD : PySem.W.makesIn K D = true) (kcD : PySem.W.keepIn K (.ref D) = true)
    (ihaD : PySem.W.findIn K (.ref D) "__class__" = some (some (.builtin "object.__class__"))) (ihmD : PySem.W.mroIn K D (.type "object") = some true)
    (n__sights : PySem.W.findIn K (.ref D) "_sights" = some none)
    (nqD : PySem.W.noSeq K D = true)
    (neD : PySem.W.findIn K (.ref D) "__ne__" = some (some (.builtin "object.__ne__")))
    (sobD : PySem.W.subIn K (.ref D) (.type "object") = some true)
    (sND : PySem.W.subIn K (.ref D) (.type "NoneType") = some false)
    (sBD : PySem.W.subIn K (.ref D) (.type "bool") = some false)
    (sID : PySem.W.subIn K (.ref D) (.type "int") = some false)
    (sSD : PySem.W.subIn K (.ref D) (.type "str") = some false)
    (sLD : PySem.W.subIn K (.ref D) (.type "list") = some false)
    (sTD : PySem.W.subIn K (.ref D) (.type "tuple") = some false)
    (sDD : PySem.W.subIn K (.ref D) (.type "dict") = some false)
    (ic_W : PySem.W.isClsIn K D = true)
    (it_W : PySem.W.typeIn K (.ref D) = some (.type "type"))
    (z_all : PySem.W.nsIn K mainGlobals "all" = some none)
    (z_bool : PySem.W.nsIn K mainGlobals "bool" = some none)
    (z_dict : PySem.W.nsIn K mainGlobals "dict" = some none)
    (z_int : PySem.W.nsIn K mainGlobals "int" = some none)
    (z_isinstance : PySem.W.nsIn K mainGlobals "isinstance" = some none)
    (z_len : PySem.W.nsIn K mainGlobals "len" = some none)
    (z_list : PySem.W.nsIn K mainGlobals "list" = some none)
    (z_max : PySem.W.nsIn K mainGlobals "max" = some none)
    (z_min : PySem.W.nsIn K mainGlobals "min" = some none)
    (z_range : PySem.W.nsIn K mainGlobals "range" = some none)
    (z_set : PySem.W.nsIn K mainGlobals "set" = some none)
    (z_sorted : PySem.W.nsIn K mainGlobals "sorted" = some none)
    (z_str : PySem.W.nsIn K mainGlobals "str" = some none)
    (z_tuple : PySem.W.nsIn K mainGlobals "tuple" = some none)
    {u_LONGEST_NAME : Value} (g_LONGEST_NAME : PySem.W.nsIn K mainGlobals "LONGEST_NAME" = some (some u_LONGEST_NAME)) (r_LONGEST_NAME : RelV (.int 12) u_LONGEST_NAME)
    {u_LETTERS : Value} (g_LETTERS : PySem.W.nsIn K mainGlobals "LETTERS" = some (some u_LETTERS)) (r_LETTERS : RelV (.str "abcdefghijklmnopqrstuvwxyz") u_LETTERS) :
    ∃ fd : FuncData, (∀ (s : Shared) (v : Value), BindsTo s fd ⟨[v], []⟩ [("_law_script", v)]) ∧ ∀ base : Heap, K.In base → base.Ns mainGlobals mg → FnOk l.prog w K mg base CX0 7 fa fd ["_law_script"] (sp_law K) := by
  have e := hfa.symm.trans (PySem.W.mg_of X G a23)
  cases e
  have T : Txt K mg D := ⟨PySem.W.mg_none_of X G z_all, PySem.W.mg_none_of X G z_bool, PySem.W.mg_none_of X G z_dict, PySem.W.mg_none_of X G z_int, PySem.W.mg_none_of X G z_isinstance, PySem.W.mg_none_of X G z_len, PySem.W.mg_none_of X G z_list, PySem.W.mg_none_of X G z_max, PySem.W.mg_none_of X G z_min, PySem.W.mg_none_of X G z_range, PySem.W.mg_none_of X G z_set, PySem.W.mg_none_of X G z_sorted, PySem.W.mg_none_of X G z_str, PySem.W.mg_none_of X G z_tuple, ⟨_, PySem.W.mg_of X G g_LONGEST_NAME, r_LONGEST_NAME⟩, ⟨_, PySem.W.mg_of X G g_LETTERS, r_LETTERS⟩, ⟨pgD, hdD, poD, saD⟩, PySem.W.mg_of X G aD, ⟨⟨pgD, hdD, poD, saD⟩, ihaD, ihn, ihtk, ihmD, by unfold PySem.W.kitOne; rw [if_pos (by simp)]⟩, n__sights, nqD, neD, sobD, sND, sBD, sID, sSD, sLD, sTD, sDD, ic_W, it_W⟩
  have oxBadWord : OexC K cBadWord := ⟨⟨nmBadWord, qBadWord, NBadWord, bsBadWord, _, snBadWord, subBadWord, abBadWord, colBadWord, ddBadWord, k0BadWord, k1BadWord, k2BadWord, k3BadWord, k5BadWord, xBadWord, rfl⟩, saBadWord, eCBadWord, tCBadWord, kCBadWord⟩
  have BC : KnX.BaseC K C0 (.type "type") := ⟨⟨rdK, gaK⟩, atK⟩
  let ce : Es := ⟨cBadWord⟩
  have TE : TxE K mg ce := ⟨PySem.W.mg_of X G aBadWord, ⟨gaBadWord, ggBadWord, eCBadWord, hCBadWord⟩, nbBadWord, exm_mk eCBadWord iCBadWord tCBadWord sBadWordBadWord⟩
  have F0 := fun_mk (st := s__law_mix) l0 d0 k0
  have b0 := L2.Fun.binds F0 (ps := ["_law_cell_here", "_law_k"]) fun _ _ _ _ _ _ us hl => match us, hl with | [_, _], _ => rfl
  have F1 := fun_mk (st := s__law_row) l1 d1 k1
  have b1 := L2.Fun.binds F1 (ps := ["_law_cell_here", "_law_sizes"]) fun _ _ _ _ _ _ us hl => match us, hl with | [_, _], _ => rfl
  have F2 := fun_mk (st := s__law_names) l2 d2 k2
  have b2 := L2.Fun.binds F2 (ps := ["_law_cell_here", "_law_many"]) fun _ _ _ _ _ _ us hl => match us, hl with | [_, _], _ => rfl
  have F3 := fun_mk (st := s__law_cell) l3 d3 k3
  have b3 := L2.Fun.binds F3 (ps := ["_law_script", "_law_k"]) fun _ _ _ _ _ _ us hl => match us, hl with | [_, _], _ => rfl
  have F4 := fun_mk (st := s_is_name) l4 d4 k4
  have b4 := L2.Fun.binds F4 (ps := ["value"]) fun _ _ _ _ _ _ us hl => match us, hl with | [_], _ => rfl
  have F5 := fun_mk (st := s_is_sights) l5 d5 k5
  have b5 := L2.Fun.binds F5 (ps := ["value"]) fun _ _ _ _ _ _ us hl => match us, hl with | [_], _ => rfl
  have F6 : KnD.FunX K "__init__" "Watch.__init__" s_Watch_init f6 _ := ⟨⟨_, _, _, _, _, _, _, _, _, _, rfl, l6, d6⟩⟩
  have b6 := KnD.binds_full (st := s_Watch_init) (ps := ["self", "sights"]) (dvs := [.non]) (its := [.none]) l6 d6 k6 tl6 rfl (.cons rfl .nil) (by simp) fun _ _ _ _ _ _ _ us its h1 h2 => match us, its, h1, h2 with | [_, _], [_], _, _ => ⟨_, rfl, rfl⟩
  have F7 := fun_mk (st := s__law_deep) l7 d7 k7
  have b7 := L2.Fun.binds F7 (ps := ["_law_many"]) fun _ _ _ _ _ _ us hl => match us, hl with | [_], _ => rfl
  have F8 := fun_mk (st := s__law_thing) l8 d8 k8
  have b8 := L2.Fun.binds F8 (ps := ["_law_digit"]) fun _ _ _ _ _ _ us hl => match us, hl with | [_], _ => rfl
  have F9 := fun_mk (st := s_Watch_setitem) l9 d9 k9
  have b9 := L2.Fun.binds F9 (ps := ["self", "at", "worth"]) fun _ _ _ _ _ _ us hl => match us, hl with | [_, _, _], _ => rfl
  have F10 := fun_mk (st := s__law_set) l10 d10 k10
  have b10 := L2.Fun.binds F10 (ps := ["_law_watch", "_law_word", "_law_sight"]) fun _ _ _ _ _ _ us hl => match us, hl with | [_, _, _], _ => rfl
  have F11 := fun_mk (st := s__law_flag) l11 d11 k11
  have b11 := L2.Fun.binds F11 (ps := ["_law_told", "_law_due"]) fun _ _ _ _ _ _ us hl => match us, hl with | [_, _], _ => rfl
  have F12 := fun_mk (st := s_Watch_words) l12 d12 k12
  have b12 := L2.Fun.binds F12 (ps := ["self"]) fun _ _ _ _ _ _ us hl => match us, hl with | [_], _ => rfl
  have F13 := fun_mk (st := s_Watch_sights) l13 d13 k13
  have b13 := L2.Fun.binds F13 (ps := ["self"]) fun _ _ _ _ _ _ us hl => match us, hl with | [_], _ => rfl
  have F14 := fun_mk (st := s__law_is_integer) l14 d14 k14
  have b14 := L2.Fun.binds F14 (ps := ["_law_thing_here"]) fun _ _ _ _ _ _ us hl => match us, hl with | [_], _ => rfl
  have F15 := fun_mk (st := s__law_exact) l15 d15 k15
  have b15 := L2.Fun.binds F15 (ps := ["_law_told", "_law_due"]) fun _ _ _ _ _ _ us hl => match us, hl with | [_, _], _ => rfl
  have F16 := fun_mk (st := s_Watch_len) l16 d16 k16
  have b16 := L2.Fun.binds F16 (ps := ["self"]) fun _ _ _ _ _ _ us hl => match us, hl with | [_], _ => rfl
  have F17 := fun_mk (st := s_Watch_bool) l17 d17 k17
  have b17 := L2.Fun.binds F17 (ps := ["self"]) fun _ _ _ _ _ _ us hl => match us, hl with | [_], _ => rfl
  have F18 := fun_mk (st := s_Watch_getitem) l18 d18 k18
  have b18 := L2.Fun.binds F18 (ps := ["self", "at"]) fun _ _ _ _ _ _ us hl => match us, hl with | [_, _], _ => rfl
  have F19 := fun_mk (st := s_Watch_contains) l19 d19 k19
  have b19 := L2.Fun.binds F19 (ps := ["self", "x"]) fun _ _ _ _ _ _ us hl => match us, hl with | [_, _], _ => rfl
  have F20 := fun_mk (st := s__law_right) l20 d20 k20
  have b20 := L2.Fun.binds F20 (ps := ["_law_watch", "_law_table", "_law_names_here", "_law_thing_here"]) fun _ _ _ _ _ _ us hl => match us, hl with | [_, _, _, _], _ => rfl
  have F21 := fun_mk (st := s_Watch_eq) l21 d21 k21
  have b21 := L2.Fun.binds F21 (ps := ["self", "other"]) fun _ _ _ _ _ _ us hl => match us, hl with | [_, _], _ => rfl
  have F22 := fun_mk (st := s_Watch_copy) l22 d22 k22
  have b22 := L2.Fun.binds F22 (ps := ["self"]) fun _ _ _ _ _ _ us hl => match us, hl with | [_], _ => rfl
  have F23 := fun_mk (st := s_law) l23 d23 k23
  have FBadWord := fun_mk (st := s_BadWord_init) liBadWord diBadWord kiBadWord
  have bBadWord := L2.Fun.binds FBadWord (ps := ["self", "value"]) fun _ _ _ _ _ _ us hl => match us, hl with | [_, _], _ => rfl
  refine ⟨PySem.W.fnOf "law" "law" (defArgs s_law) (defBody s_law) (defScope s_law) .none kV23 dc23 pm23 an23 cd23 ct23, fun s v => .of_eq rfl, fun base _ _ => ?_⟩
  have c_BadWord : KnX.Err l.prog w K mg base 1 "BadWord" cBadWord "value" := ⟨iBadWord, _, _, ⟨PySem.W.mg_of X G aBadWord, oxBadWord, aiBadWord, tiBadWord, nbBadWord⟩, ok_BadWord_init (PySem.W.mg_of X G aK) BC oxBadWord nbBadWord FBadWord, bBadWord⟩
  have c__law_mix : Cal l.prog w K mg base 1 "_law_mix" (sp__law_mix K) [] := ⟨_, _, _, _, ok__law_mix T F0 , PySem.W.mg_of X G a0, F0.kp, b0, .nil⟩
  have c__law_row : Cal l.prog w K mg base 2 "_law_row" (sp__law_row K) [] := ⟨_, _, _, _, ok__law_row T F1 c__law_mix, PySem.W.mg_of X G a1, F1.kp, b1, .nil⟩
  have c__law_names : Cal l.prog w K mg base 3 "_law_names" (sp__law_names K) [] := ⟨_, _, _, _, ok__law_names T F2 c__law_row, PySem.W.mg_of X G a2, F2.kp, b2, .nil⟩
  have c__law_cell : Cal l.prog w K mg base 2 "_law_cell" (sp__law_cell K) [] := ⟨_, _, _, _, ok__law_cell T F3 c__law_mix, PySem.W.mg_of X G a3, F3.kp, b3, .nil⟩
  have c_is_name : Cal l.prog w K mg base 1 "is_name" (sp_is_name K) [] := ⟨_, _, _, _, ok_is_name T F4 , PySem.W.mg_of X G a4, F4.kp, b4, .nil⟩
  have c_is_sights : Cal l.prog w K mg base 2 "is_sights" (sp_is_sights K) [] := ⟨_, _, _, _, ok_is_sights T F5 c_is_name, PySem.W.mg_of X G a5, F5.kp, b5, .nil⟩
  have c_Watch_init : Mak l.prog w K mg base 3 "Watch" D (sp_Watch_init K D) [] := ⟨_, _, _, _, ⟨mkD, a6, i6, kcD⟩, ok_Watch_init T F6 c_is_sights, PySem.W.mg_of X G aD, b6, .nil⟩
  have c__law_deep : Cal l.prog w K mg base 1 "_law_deep" (sp__law_deep K) [] := ⟨_, _, _, _, ok__law_deep T F7 , PySem.W.mg_of X G a7, F7.kp, b7, .nil⟩
  have c__law_thing : Cal l.prog w K mg base 2 "_law_thing" (sp__law_thing K) [] := ⟨_, _, _, _, ok__law_thing T F8 c__law_deep, PySem.W.mg_of X G a8, F8.kp, b8, .nil⟩
  have c_Watch_setitem : KnW.OwnX l.prog w K mg base 3 D "__setitem__" (sx_Watch_setitem K D ce) := ⟨_, _, _, a9, i9, y9, ok_Watch_setitem (ce := ce) T F9 c_BadWord c_is_name, b9⟩
  have c__law_set : Cal l.prog w K mg base 5 "_law_set" (sp__law_set K D) [] := ⟨_, _, _, _, ok__law_set (ce := ce) T F10 TE c_Watch_setitem, PySem.W.mg_of X G a10, F10.kp, b10, .nil⟩
  have c__law_flag : Cal l.prog w K mg base 1 "_law_flag" (sp__law_flag K) [] := ⟨_, _, _, _, ok__law_flag T F11 , PySem.W.mg_of X G a11, F11.kp, b11, .nil⟩
  have c_Watch_words : KnP.Prp l.prog w K mg base 1 D "words" (sp_Watch_words K D) := ⟨_, _, _, _, ⟨a12, g12, w12, ⟨_, r12⟩⟩, ok_Watch_words T F12 , b12⟩
  have c_Watch_sights : KnP.Prp l.prog w K mg base 1 D "sights" (sp_Watch_sights K D) := ⟨_, _, _, _, ⟨a13, g13, w13, ⟨_, r13⟩⟩, ok_Watch_sights T F13 , b13⟩
  have c__law_is_integer : Cal l.prog w K mg base 1 "_law_is_integer" (sp__law_is_integer K) [] := ⟨_, _, _, _, ok__law_is_integer T F14 , PySem.W.mg_of X G a14, F14.kp, b14, .nil⟩
  have ce0 : Cal l.prog w K mg base 1 "_law_exact" (spEx 0 K) [] := ⟨_, _, _, _, ok_ex0 F15, PySem.W.mg_of X G a15, F15.kp, b15, .nil⟩
  have ce1 : Cal l.prog w K mg base 2 "_law_exact" (spEx 1 K) [] := ⟨_, _, _, _, ok_exs T F15 0 c__law_is_integer ce0, PySem.W.mg_of X G a15, F15.kp, b15, .nil⟩
  have ce2 : Cal l.prog w K mg base 3 "_law_exact" (spEx 2 K) [] := ⟨_, _, _, _, ok_exs T F15 1 c__law_is_integer ce1, PySem.W.mg_of X G a15, F15.kp, b15, .nil⟩
  have ce3 : Cal l.prog w K mg base 4 "_law_exact" (spEx 3 K) [] := ⟨_, _, _, _, ok_exs T F15 2 c__law_is_integer ce2, PySem.W.mg_of X G a15, F15.kp, b15, .nil⟩
  have c__law_exact : Cal l.prog w K mg base 5 "_law_exact" (sp__law_exact K) [] := ⟨_, _, _, _, ok_exs T F15 3 c__law_is_integer ce3, PySem.W.mg_of X G a15, F15.kp, b15, .nil⟩
  have c_Watch_len : KnW.Own l.prog w K mg base 1 D "__len__" (sp_Watch_len K D) := ⟨_, _, _, a16, i16, y16, ok_Watch_len T F16 , b16⟩
  have c_Watch_bool : KnW.Own l.prog w K mg base 1 D "__bool__" (sp_Watch_bool K D) := ⟨_, _, _, a17, i17, y17, ok_Watch_bool T F17 , b17⟩
  have c_Watch_getitem : KnW.Own l.prog w K mg base 2 D "__getitem__" (sp_Watch_getitem K D) := ⟨_, _, _, a18, i18, y18, ok_Watch_getitem T F18 c_is_name, b18⟩
  have c_Watch_contains : KnW.Own l.prog w K mg base 2 D "__contains__" (sp_Watch_contains K D) := ⟨_, _, _, a19, i19, y19, ok_Watch_contains T F19 c_is_name, b19⟩
  have c__law_right : Cal l.prog w K mg base 6 "_law_right" (sp__law_right K D) [] := ⟨_, _, _, _, ok__law_right T F20 c_Watch_words c_Watch_sights c__law_exact c__law_flag c_Watch_len c_Watch_bool c_Watch_getitem c_Watch_contains, PySem.W.mg_of X G a20, F20.kp, b20, .nil⟩
  have c_Watch_eq : KnW.Own l.prog w K mg base 1 D "__eq__" (sp_Watch_eq K D) := ⟨_, _, _, a21, i21, y21, ok_Watch_eq T F21 , b21⟩
  have c_Watch_copy : C8.Met l.prog w K mg base 5 D "copy" (sp_Watch_copy K D) [] := ⟨_, _, _, _, ⟨pgD, hdD, poD, saD⟩, ⟨a22, i22, k22⟩, ok_Watch_copy T F22 c_Watch_init, b22, .nil⟩
  obtain ⟨dz, hvz, bz⟩ := KnW.binds_less (st := s_Watch_init) (ps := ["self", "sights"]) (dvs := [.non]) (its := [.none]) 1 l6 d6 k6 tl6 rfl (.cons rfl .nil) (by simp) rfl fun _ _ _ _ _ _ _ us its h1 h2 => match us, its, h1, h2 with | [_], [_], _, _ => ⟨_, rfl, rfl⟩
  have c_Watch_init0 : Mak l.prog w K mg base 3 "Watch" D (sp_Watch_init K D) [.non] := ⟨_, _, _, _, ⟨mkD, a6, i6, kcD⟩, ok_Watch_init T F6 c_is_sights, PySem.W.mg_of X G aD, bz, hvz⟩
  exact ok_law (ce := ce) T F23 c__law_names c__law_cell c_Watch_init c__law_row c__law_thing c__law_set c__law_flag c__law_right c_Watch_eq c_Watch_copy c_Watch_setitem c_Watch_init0
end Kn
open PySem PySem.W PyProof.Rows
set_option maxHeartbeats 0 in
theorem PySem.Challenge.cw_knownlate_k11_whole_items_of_a_watch_holds : PySem.Challenge.rw_knownlate_k11_whole_items_of_a_watch.Holds := by
  w_on; o_law; k_head; (case hw => w_witness2)
  k_fill
  refine L2.walk_of (l := PySem.Challenge.rw_knownlate_k11_whole_items_of_a_watch) (n := 63) (k := 7) (x := "_law_script") (CX := fun _ => L2.CX0) (sp := fun w => Kn.sp_law _) rfl (by decide) rfl ⟨rfl, by decide, by decide⟩ (fun w h Y => PySem.W.kIn_of Y) ?F (fun _ _ a ns hl _ hS => ⟨a, ns, rfl, hS, hl, fun _ => rfl⟩) (fun _ _ _ _ _ h => h)
  case F =>
    intro w mg fa h KX G hmg
    refine' Kn.all_mk KX G hmg ?aD ?ihn ?ihtk ?aK ?rdK ?gaK ?atK ?aBadWord ?xBadWord ?saBadWord ?gaBadWord ?ggBadWord ?nbBadWord ?aiBadWord ?tiBadWord ?liBadWord ?diBadWord ?kiBadWord ?kCBadWord ?eCBadWord ?tCBadWord ?hCBadWord ?iCBadWord ?sBadWordBadWord ?a0 ?l0 ?d0 ?k0 ?a1 ?l1 ?d1 ?k1 ?a2 ?l2 ?d2 ?k2 ?a3 ?l3 ?d3 ?k3 ?a4 ?l4 ?d4 ?k4 ?a5 ?l5 ?d5 ?k5 ?a6 ?i6 ?l6 ?d6 ?k6 ?tl6 ?a7 ?l7 ?d7 ?k7 ?a8 ?l8 ?d8 ?k8 ?a9 ?i9 ?y9 ?l9 ?d9 ?k9 ?a10 ?l10 ?d10 ?k10 ?a11 ?l11 ?d11 ?k11 ?a12 ?g12 ?w12 ?r12 ?l12 ?d12 ?k12 ?a13 ?g13 ?w13 ?r13 ?l13 ?d13 ?k13 ?a14 ?l14 ?d14 ?k14 ?a15 ?l15 ?d15 ?k15 ?a16 ?i16 ?y16 ?l16 ?d16 ?k16 ?a17 ?i17 ?y17 ?l17 ?d17 ?k17 ?a18 ?i18 ?y18 ?l18 ?d18 ?k18 ?a19 ?i19 ?y19 ?l19 ?d19 ?k19 ?a20 ?l20 ?d20 ?k20 ?a21 ?i21 ?y21 ?l21 ?d21 ?k21 ?a22 ?i22 ?l22 ?d22 ?k22 ?a23 ?l23 ?d23 ?k23 ?pgD ?hdD ?poD ?saD ?mkD ?kcD ?ihaD ?ihmD ?n__sights ?nqD ?neD ?sobD ?sND ?sBD ?sID ?sSD ?sLD ?sTD ?sDD ?ic_W ?it_W ?z_all ?z_bool ?z_dict ?z_int ?z_isinstance ?z_len ?z_list ?z_max ?z_min ?z_range ?z_set ?z_sorted ?z_str ?z_tuple ?g_LONGEST_NAME ?r_LONGEST_NAME ?g_LETTERS ?r_LETTERS
    (case aD => k_is); (case ihn => k_is); (case ihtk => k_is); (case aK => k_is); (case rdK => k_is); (case gaK => k_is); (case atK => k_is); (case aBadWord => k_is); (case xBadWord => k_is); (case saBadWord => k_is); (case gaBadWord => k_is); (case ggBadWord => k_is); (case nbBadWord => k_is); (case aiBadWord => k_is); (case tiBadWord => k_is); (case liBadWord => k_is); (case diBadWord => k_is); (case kiBadWord => k_is); (case kCBadWord => k_is); (case eCBadWord => k_is); (case tCBadWord => k_is); (case hCBadWord => k_is); (case iCBadWord => k_is); (case sBadWordBadWord => k_is); (case a0 => k_is); (case l0 => k_is); (case d0 => k_is); (case k0 => k_is); (case a1 => k_is); (case l1 => k_is); (case d1 => k_is); (case k1 => k_is); (case a2 => k_is); (case l2 => k_is); (case d2 => k_is); (case k2 => k_is); (case a3 => k_is); (case l3 => k_is); (case d3 => k_is); (case k3 => k_is); (case a4 => k_is); (case l4 => k_is); (case d4 => k_is); (case k4 => k_is); (case a5 => k_is); (case l5 => k_is); (case d5 => k_is); (case k5 => k_is); (case a6 => k_is); (case i6 => k_is); (case l6 => k_is); (case d6 => k_is); (case k6 => k_is); (case tl6 => k_is); (case a7 => k_is); (case l7 => k_is); (case d7 => k_is); (case k7 => k_is); (case a8 => k_is); (case l8 => k_is); (case d8 => k_is); (case k8 => k_is); (case a9 => k_is); (case i9 => k_is); (case y9 => k_is); (case l9 => k_is); (case d9 => k_is); (case k9 => k_is); (case a10 => k_is); (case l10 => k_is); (case d10 => k_is); (case k10 => k_is); (case a11 => k_is); (case l11 => k_is); (case d11 => k_is); (case k11 => k_is); (case a12 => k_is); (case g12 => k_is); (case w12 => k_is); (case r12 => k_is); (case l12 => k_is); (case d12 => k_is); (case k12 => k_is); (case a13 => k_is); (case g13 => k_is); (case w13 => k_is); (case r13 => k_is); (case l13 => k_is); (case d13 => k_is); (case k13 => k_is); (case a14 => k_is); (case l14 => k_is); (case d14 => k_is); (case k14 => k_is); (case a15 => k_is); (case l15 => k_is); (case d15 => k_is); (case k15 => k_is); (case a16 => k_is); (case i16 => k_is); (case y16 => k_is); (case l16 => k_is); (case d16 => k_is); (case k16 => k_is); (case a17 => k_is); (case i17 => k_is); (case y17 => k_is); (case l17 => k_is); (case d17 => k_is); (case k17 => k_is); (case a18 => k_is); (case i18 => k_is); (case y18 => k_is); (case l18 => k_is); (case d18 => k_is); (case k18 => k_is); (case a19 => k_is); (case i19 => k_is); (case y19 => k_is); (case l19 => k_is); (case d19 => k_is); (case k19 => k_is); (case a20 => k_is); (case l20 => k_is); (case d20 => k_is); (case k20 => k_is); (case a21 => k_is); (case i21 => k_is); (case y21 => k_is); (case l21 => k_is); (case d21 => k_is); (case k21 => k_is); (case a22 => k_is); (case i22 => k_is); (case l22 => k_is); (case d22 => k_is); (case k22 => k_is); (case a23 => k_is); (case l23 => k_is); (case d23 => k_is); (case k23 => k_is); (case pgD => k_is); (case hdD => k_is); (case poD => k_is); (case saD => k_is); (case mkD => k_is); (case kcD => k_is); (case ihaD => k_is); (case ihmD => k_is); (case n__sights => k_is); (case nqD => k_is); (case neD => k_is); (case sobD => k_is); (case sND => k_is); (case sBD => k_is); (case sID => k_is); (case sSD => k_is); (case sLD => k_is); (case sTD => k_is); (case sDD => k_is); (case ic_W => k_is); (case it_W => k_is); (case z_all => k_is); (case z_bool => k_is); (case z_dict => k_is); (case z_int => k_is); (case z_isinstance => k_is); (case z_len => k_is); (case z_list => k_is); (case z_max => k_is); (case z_min => k_is); (case z_range => k_is); (case z_set => k_is); (case z_sorted => k_is); (case z_str => k_is); (case z_tuple => k_is); (case g_LONGEST_NAME => k_is); (case r_LONGEST_NAME => exact ⟨_, rfl⟩); (case g_LETTERS => k_is); (case r_LETTERS => exact ⟨_, rfl⟩)

