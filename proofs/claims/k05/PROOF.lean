import PyProof.Rows.All
import Wide.All
import OpenK.AllK
import Wide.FinOn
import HandS.SetFor
import HandS.SetKeys
import KE.SortData
import PyProof.StrWalks
import PyProof.EnumMake
import HandS.ForMost
import HandS.TupAny
import HandS.IsInst
import HandS.Zip
import HandS.TupMul
import PyProof.ReprRoads
import PyProof.CallFns
import KE.KxIndex
import HandS.EndBits
import KE.DataEq
import PyProof.ReprLen
import KE.DataCmp
import HandS.StrMore
import HandS.Replace
import HandS.Star
import HandS.TupSets
import HandS.SetBool
import PyProof.Draws
import PySem.Challenge.RW_mailrings_k05_conditions_and_their_parts
set_option Elab.async false
set_option linter.all false
set_option maxRecDepth 100000
set_option autoImplicit false
/-! Sets of numbers and texts: made from lists, tuples, texts; sorted. -/
namespace MR
open PySem PySem.Spec PyProof.Rows L2
def kOf (v : Value) : Option Key := match v with
  | .int k _ => some (.inl k)
  | .str x _ => some (.inr x)
  | _ => none
def hasK (ks : List Key) (j : Key) : Bool := ks.any fun i => decide (i = j)
theorem hasK_iff {ks : List Key} {j : Key} : hasK ks j = true ↔ j ∈ ks := by
  unfold hasK
  rw [List.any_eq_true]
  exact ⟨fun ⟨x, hx, e⟩ => of_decide_eq_true e ▸ hx, fun h => ⟨j, h, decide_eq_true rfl⟩⟩
def GoodK (w : World) (e : Int × Value) : Prop := ∃ k, kOf e.2 = some k ∧ e.1 = keyH w k
theorem kOf_is {k : Key} {v : Value} : keyIs k v = true ↔ kOf v = some k := by
  constructor
  · intro h
    rcases keyIs_shape h with ⟨i, t, rfl, rfl⟩ | ⟨x, t, rfl, rfl⟩ <;> rfl
  · intro h
    cases v with
    | int i t =>
      cases h
      exact keyIs_int i t
    | str x t =>
      cases h
      exact keyIs_str x t
    | _ => cases h
theorem kOf_scan {k : Key} {v : Value} (h : kOf v = some k) : v.scannable = true := by
  cases v with
  | int i t => rfl
  | str x t => rfl
  | _ => cases h
/-- the set of keys at a: S its members, n their number; its table rises and can be walked -/
def SetG (w : World) (h : Heap) (a : Addr) (S : Key → Bool) (n : Nat) : Prop :=
  ∃ ob el ep tb, h.get? a = some ob ∧ ob.ExactSet ∧ ob.data = .set el ep tb ∧ (∀ x ∈ el.toList, GoodK w x) ∧ (el.toList.map fun x => kOf x.2).Nodup ∧
    (∀ k, S k = true ↔ some k ∈ el.toList.map fun x => kOf x.2) ∧ el.size < scanBound ∧ tb.fits el.size = true ∧ el.size = n ∧ Ris tb.place.toList ∧ (w.params.followText "set-order" = true ∨ tb.led = true)
section
variable {P : Program} {w : World} {h h' : Heap} {a : Addr} {S : Key → Bool} {n : Nat}
theorem SetG.keeps (R : SetG w h a S n) (k : ∀ ob, h.get? a = some ob → h'.get? a = some ob) : SetG w h' a S n := let ⟨ob, el, ep, tb, e, r⟩ := R; ⟨ob, el, ep, tb, k ob e, r⟩
theorem SetG.same {T : Key → Bool} (R : SetG w h a S n) (e : ∀ k, T k = S k) : SetG w h a T n := by
  rw [show T = S from funext e]
  exact R
theorem goodK_elems {l : List (Int × Value)} (g : ∀ e ∈ l, GoodK w e) : ElemsOf (mixKind P w) l := fun e he => by
  obtain ⟨k, h1, h2⟩ := g e he
  exact ⟨⟨k, kOf_is.mpr h1, h2⟩, kOf_scan h1⟩
theorem goodK_mem {l : List (Int × Value)} (k : Key) : some k ∈ (l.map fun e => kOf e.2) ↔ ∃ e ∈ l, (mixKind P w).is k e.2 = true := by
  rw [List.mem_map]
  exact ⟨fun ⟨e, he, q⟩ => ⟨e, he, kOf_is.mpr q⟩, fun ⟨e, he, q⟩ => ⟨e, he, kOf_is.mp q⟩⟩
theorem SetG.toOf (R : SetG w h a S n) : h.SetOf (mixKind P w) a S n := by
  obtain ⟨ob, el, ep, tb, ho, hx, hd, g, _, hm, hb, hf, hn, _⟩ := R
  exact ⟨ob, el, ep, tb, ho, hx, hd, goodK_elems g, fun k => (hm k).trans (goodK_mem k), hb, hf, hn⟩
end
section
variable {P : Program} {w : World} {A : Around} {E : Value → Shared → Prop} {s : Shared} {a : Addr} {S : Key → Bool} {n : Nat}
/-- what storing an added key ends with -/
theorem setG_tail {gv : Bool → Sem Unit} (hgv : ∀ (b : Bool) (s₁ : Shared) (Q' : Unit → Shared → Prop), Q' () s₁ → wpAny (model P w) A (gv b) Q' E s₁)
    {ob : Obj} {el : Array (Int × Value)} {ep : Nat} {tb : SetTable} (ho : s.heap.get? a = some ob) (hx : ob.ExactSet) (hd : ob.data = .set el ep tb) {el1 : Array (Int × Value)} {t2 : SetTable} {T : Key → Bool}
    (g1 : ∀ x ∈ el1.toList, GoodK w x) (nd1 : (el1.toList.map fun x => kOf x.2).Nodup) (m1 : ∀ k, T k = true ↔ some k ∈ el1.toList.map fun x => kOf x.2) (hb1 : el1.size < scanBound) (hf2 : t2.fits el1.size = true) (hr : Ris t2.place.toList)
    (hl : w.params.followText "set-order" = true ∨ t2.led = true) {was : Bool} {R : Option Bool → Shared → Prop} (hR : ∀ h', Heap.SameBut a s.heap h' → SetG w h' a T el1.size → R (some true) { s with heap := h' }) :
    wpAny (model P w) A (do
        storeSet a el1 t2
        if (!was && t2.tooFull) = true then do
            gv (relayAll t2 el1 (SetTable.grown el1.size)).2.2
            storeSet a (relayAll t2 el1 (SetTable.grown el1.size)).1 (relayAll t2 el1 (SetTable.grown el1.size)).2.1
            pure (some true)
          else pure (some true)) R E s := by
  refine wpAny_bind (wpAny_storeSet_of ho hd ?_ (fits_of_scanBound hb1))
  have at1 := store_at (es' := el1) (t' := t2) ho hd
  have same1 := Heap.SameBut.update s.heap a (Obj.putSet el1 t2)
  split
  · have perm := relayAll_perm t2 el1 (SetTable.grown el1.size)
    have fit3 := relayAll_fits t2 el1 (SetTable.grown el1.size)
    have ris3 := relayAll_ris t2 el1 (SetTable.grown el1.size)
    have led3 := relayAll_led t2 el1 (SetTable.grown el1.size)
    generalize relayAll t2 el1 (SetTable.grown el1.size) = Z at perm fit3 ris3 led3 ⊢
    obtain ⟨el2, t3, gave⟩ := Z
    dsimp only at perm fit3 ris3 led3 ⊢
    have size2 : el2.size = el1.size := by rw [← Array.length_toList, perm.length_eq, Array.length_toList]
    have bound2 : el2.size < scanBound := size2 ▸ hb1
    refine wpAny_bind (hgv _ _ _ (wpAny_bind (wpAny_storeSet_of at1 rfl ?_ (fits_of_scanBound bound2))))
    have at2 := store_at (es' := el2) (t' := t3) at1 rfl
    refine wpAny_pure (hR _ (same1.trans (Heap.SameBut.update _ a _)) ?_)
    exact ⟨_, el2, _, t3, at2, hx, rfl, fun x q => g1 x (perm.mem_iff.mp q), (perm.map _).nodup_iff.mpr nd1, fun k => (m1 k).trans (perm.map _).mem_iff.symm, bound2, fit3, size2, ris3, hl.imp id fun z => by rw [led3]; exact z⟩
  · exact wpAny_pure (hR _ same1 ⟨_, el1, _, t2, at1, hx, rfl, g1, nd1, m1, hb1, hf2, rfl, hr, hl⟩)
theorem setG_add {k : Key} {v : Value} {Q : Bool → Shared → Prop} (hv : kOf v = some k) (R : SetG w s.heap a S n) (room : n + 1 < scanBound)
    (hQ : ∀ h', Heap.SameBut a s.heap h' → SetG w h' a (fun j => S j || decide (j = k)) (if S k = true then n else n + 1) → Q (!S k) { s with heap := h' }) :
    wpAny (model P w) A (setAddHashed a v ((mixKind P w).hash k)) Q E s := by
  obtain ⟨ob, el, ep, tb, ho, hx, hd, g, nd, hm, hb, hf, hn, hr, hl⟩ := R
  have isk : (mixKind P w).is k v = true := kOf_is.mpr hv
  have scn : v.scannable = true := kOf_scan hv
  have elems : ElemsOf (mixKind P w) el.toList := goodK_elems g
  unfold setAddHashed setAddHashedIn
  refine wpAny_holding (wpAny_bind (wpAny_setState_of ho hd hf ?_))
  dsimp only
  rw [byScan_of scn hb elems]
  simp only [↓reduceIte]
  unfold setAddByScan
  refine wpAny_bind (wpAny_bind (wpAny_rule (wpAny_bind (wpAny_setScan_of isk ho hd hf elems ?_))))
  cases found : List.findIdx? (fun e => (mixKind P w).is k e.2) el.toList with
  | some j =>
    dsimp only
    obtain ⟨hj, pj, _⟩ := List.findIdx?_eq_some_iff_getElem.mp found
    have inS : S k = true := (hm k).2 ((goodK_mem (P := P) (w := w) k).2 ⟨el.toList[j], List.getElem_mem hj, pj⟩)
    refine wpAny_pure (wpAny_pure ?_)
    have q := hQ s.heap (Heap.SameBut.refl a s.heap) ⟨ob, el, ep, tb, ho, hx, hd, g, nd, fun i => by
      rw [Bool.or_eq_true, decide_eq_true_eq, ← hm i]
      exact ⟨fun z => z.elim id fun e => e ▸ inS, .inl⟩, hb, hf, by rw [if_pos inS]; exact hn, hr, hl⟩
    rw [inS] at q
    exact q
  | none =>
    dsimp only
    have notin : some k ∉ el.toList.map fun e => kOf e.2 := fun z => by
      obtain ⟨e, he, q⟩ := (goodK_mem (P := P) (w := w) k).1 z
      have c := List.findIdx?_eq_none_iff.mp found e he
      rw [q] at c
      cases c
    have offS : S k = false := Bool.eq_false_iff.mpr fun q => notin ((hm k).1 q)
    have give : ∀ (b : Bool) {s₁ : Shared} {Q' : Unit → Shared → Prop}, Q' () s₁ → wpAny (model P w) A (match b with | true => rule "set.scan.the-table-gave-way" | false => pure ()) Q' E s₁ := fun b s₁ Q' q => by
      cases b
      · exact wpAny_pure q
      · exact wpAny_rule q
    have perm := layNew_perm tb el ((mixKind P w).hash k) v
    have fit1 := layNew_fits tb el ((mixKind P w).hash k) v
    have ris1 := layNew_ris tb el ((mixKind P w).hash k) v hr
    have led1 := layNew_led tb el ((mixKind P w).hash k) v
    generalize layNew tb el ((mixKind P w).hash k) v = Z at perm fit1 ris1 led1 ⊢
    obtain ⟨el1, t1, was, gave⟩ := Z
    dsimp only at perm fit1 ris1 led1 ⊢
    rw [Array.toList_push] at perm
    have front : el1.toList.Perm (((mixKind P w).hash k, v) :: el.toList) := perm.trans (List.perm_append_singleton _ _)
    have keys : (el1.toList.map fun e => kOf e.2).Perm (some k :: el.toList.map fun e => kOf e.2) := by
      have q := front.map fun (e : Int × Value) => kOf e.2
      rw [List.map_cons] at q
      rw [← hv]
      exact q
    have good1 : ∀ e ∈ el1.toList, GoodK w e := fun e he => by
      rcases List.mem_cons.mp (front.mem_iff.mp he) with z | z
      · rw [z]
        exact ⟨k, hv, rfl⟩
      · exact g e z
    have nd1 : (el1.toList.map fun e => kOf e.2).Nodup := keys.nodup_iff.mpr (List.nodup_cons.mpr ⟨notin, nd⟩)
    have mem1 : ∀ i, (S i || decide (i = k)) = true ↔ some i ∈ el1.toList.map fun e => kOf e.2 := fun i => by
      rw [Bool.or_eq_true, decide_eq_true_eq, hm i, keys.mem_iff, List.mem_cons]
      exact ⟨fun z => z.elim .inr fun e => .inl (by rw [e]), fun z => z.elim (fun e => .inr (Option.some.inj e)) .inl⟩
    have size1 : el1.size = n + 1 := by rw [← Array.length_toList, front.length_eq, List.length_cons, Array.length_toList, hn]
    have bound1 : el1.size < scanBound := size1 ▸ room
    have ledd : w.params.followText "set-order" = true ∨ t1.led = true := hl.imp id fun z => by rw [led1]; exact z
    have last : ∀ h', Heap.SameBut a s.heap h' → SetG w h' a (fun j => S j || decide (j = k)) el1.size → Q true { s with heap := h' } := fun h' sb r => by
      have q := hQ h' sb
      rw [offS] at q
      rw [size1] at r
      exact q r
    refine wpAny_bind (give _ ?_)
    split
    · refine wpAny_bind ?_
      rw [hashByValue_scannable 8 scn]
      refine wpAny_pure (setG_tail (fun b s₁ Q' q => ?_) ho hx hd good1 nd1 mem1 bound1 ?_ ?_ ?_ fun h' sb r => ?_)
      · cases b
        · exact wpAny_pure q
        · exact wpAny_rule q
      · first | (split <;> first | exact fit1 | exact SetTable.fits_plain_off fit1) | exact fit1
      · first | (split <;> exact ris1) | exact ris1
      · first | (split <;> exact ledd) | exact ledd
      · dsimp only
        exact wpAny_pure (last h' sb r)
    · refine wpAny_bind (wpAny_pure ?_)
      simp only [↓reduceIte]
      refine setG_tail (fun b s₁ Q' q => ?_) ho hx hd good1 nd1 mem1 bound1 fit1 ris1 ledd fun h' sb r => ?_
      · cases b
        · exact wpAny_pure q
        · exact wpAny_rule q
      · dsimp only
        exact wpAny_pure (last h' sb r)
def newSetObj (w : World) : Obj := { cls := .type "set", dict := none, data := .set #[] 0 (.fresh 0 0 (!w.params.followText "set-order")) }
theorem setG_empty {h : Heap} {a : Addr} {T : Key → Bool} (ho : h.get? a = some (newSetObj w)) (e : ∀ k, T k = false) : SetG w h a T 0 := by
  refine ⟨_, #[], 0, _, ho, ⟨rfl, rfl, rfl⟩, rfl, (fun e he => by simp at he), (by simp), (fun k => by rw [e k]; simp), (by decide), (by rfl), rfl, List.Pairwise.nil, ?_⟩
  show _ ∨ (!w.params.followText "set-order") = true
  cases w.params.followText "set-order"
  · exact .inr rfl
  · exact .inl rfl
/-- the loop by which an iterator's items come in -/
theorem setG_loop {I : Addr} {fp wr : List Addr} {G : Array GenState → Array GenState → Prop} {n : Nat} {Pv : Nat → Value → Prop} {St : Nat → Shared → Prop} {R : Result → Shared → Prop} (W : WalksS P w A.in1 I fp wr G n Pv St) (D : Addr) (hD : D ∉ fp)
    (ks : List Key) (hn : n = ks.length) (hb : ks.length + 1 < scanBound) (hval : ∀ i v, Pv i v → ∃ k, ks[i]? = some k ∧ kOf v = some k) :
    ∀ (m i : Nat) (s : Shared), n - i = m → i ≤ n → St i s → (∃ c, c ≤ i ∧ SetG w s.heap D (fun j => hasK (ks.take i) j) c) →
      (∀ s' c, Moved (D :: wr) G s s' → c ≤ n → SetG w s'.heap D (fun j => hasK ks j) c → R (.ok (.ret .none)) s') → codeAny (model P w) A (.builtin "set.update.loop" ⟨[.ref D, .ref I], []⟩) R s := by
  have hDw : D ∉ wr := fun z => hD (W.sub _ z)
  have sub : ∀ b ∈ wr, b ∈ D :: wr := fun _ z => List.mem_cons_of_mem _ z
  intro m
  induction m with
  | zero =>
    intro i s hm hi st ⟨c, hc, hS⟩ hR
    obtain rfl : i = n := by omega
    refine codeAny_builtin F.entry_set_update_loop ?_
    rw [Around.under_plainId F.plain_set_update_loop _]
    show wpAny _ A.in1 (pyNext (.ref I) >>= _) _ _ s
    refine wpAny_bind (W.done s _ _ st fun s2 mv => ?_)
    show wpAny _ A.in1 (ret Value.none) _ _ s2
    rw [List.take_of_length_le (show ks.length ≤ i by omega)] at hS
    exact wpAny_pure (hR s2 c (mv.mono sub) hc (hS.keeps fun ob e => mv.heap D ob hDw e))
  | succ m ih =>
    intro i s hm hi st ⟨c, hc, hS⟩ hR
    have lt : i < n := by omega
    refine codeAny_builtin F.entry_set_update_loop ?_
    rw [Around.under_plainId F.plain_set_update_loop _]
    show wpAny _ A.in1 (pyNext (.ref I) >>= _) _ _ s
    refine wpAny_bind (W.item i s _ _ lt st fun v s2 pv st2 mv => ?_)
    obtain ⟨k, hk, kv⟩ := hval i v pv
    have hS2 : SetG w s2.heap D (fun j => hasK (ks.take i) j) c := hS.keeps fun ob e => mv.heap D ob hDw e
    show wpAny _ A.in1 (holding [v] (setAdd D v) >>= _) _ _ s2
    refine wpAny_bind (wpAny_holding ?_)
    unfold setAdd
    refine wpAny_holding (wpAny_bind ((mixKind P w).pyHash (k := k) (kOf_is.mpr kv) ?_))
    refine setG_add (s := { s2 with toks := s2.toks + 1 }) kv hS2 (by omega) fun h' sb hS3 => ?_
    have hS4 : SetG w h' D (fun j => hasK (ks.take (i + 1)) j) (if hasK (ks.take i) k = true then c else c + 1) := hS3.same fun j => by
      rw [List.take_add_one, hk]
      unfold hasK
      rw [List.any_append]
      congr 1
      show (decide (k = j) || false) = decide (j = k)
      rw [Bool.or_false]
      exact decide_eq_decide.mpr ⟨Eq.symm, Eq.symm⟩
    have hc4 : (if hasK (ks.take i) k = true then c else c + 1) ≤ i + 1 := by split <;> omega
    have other : ∀ b ob, b ≠ D → s2.heap.get? b = some ob → h'.get? b = some ob := fun b ob nb e => (sb.2 b nb).trans e
    refine wpAny_pure ⟨plainId_quiet F.plain_set_update_loop _, ih (i + 1) _ (by omega) lt (W.frame _ s2 _ _ st2 (Nat.le_succ _) fun b hbf ob e => other b ob (fun z => hD (z ▸ hbf)) e) ⟨_, hc4, hS4⟩ fun s3 c3 mv3 hc3 hS5 => ?_⟩
    exact hR s3 c3 (Moved.trans W.gtrans ((mv.mono sub).then_heap (Nat.le_succ _) fun b ob hbn e => other b ob (fun z => hbn (z ▸ List.mem_cons_self)) e) mv3) hc3 hS5
theorem code_new1 (v : Value) {Q₁ : Value → Shared → Prop} (h : Q₁ (.ref s.heap.objs.size) { s with heap := s.heap.push (newSetObj w) }) : codeAny (model P w) A (.call (.builtin "set.__new__") ⟨[.type "set", v], []⟩) (wants Q₁ E) s := code_set_led1 v h
end
end MR

namespace MR
open PySem PySem.Spec PyProof.Rows L2
section
variable {P : Program} {w : World} {A : Around} {E : Value → Shared → Prop} {s : Shared} {a : Addr} {S : Key → Bool} {n : Nat}

set_option maxHeartbeats 3200000 in
theorem call_set_list {l : Addr} {items : Array Value} (ks : List Key) {Q : Value → Shared → Prop} (hh : A.handled = none) (hl : s.heap.IsList l items) (hsz : items.size = ks.length) (hit : ∀ (i : Nat) (v : Value), items[i]? = some v → ∃ k, ks[i]? = some k ∧ kOf v = some k) (hb : ks.length + 1 < scanBound)
    (h : ∀ (h' : Heap) (tk c : Nat), SetG w h' s.heap.objs.size (fun j => hasK ks j) c → c ≤ ks.length → (∀ b o, s.heap.get? b = some o → h'.get? b = some o) → Q (.ref s.heap.objs.size) { s with heap := h', toks := tk }) :
    wpAny (model P w) A (call (.type "set") [.ref l]) Q E s := by
  obtain ⟨c0, tl, hmro⟩ := F.called_set.mro
  have is_made := F.called_set.made
  have is_sub := F.called_set.sub
  refine wpAny_call (codeAny_of_tree (?_ : wpAny _ _ (callAny (.type "set") _) _ _ _))
  refine wpAny_pure ⟨Code.quiet_builtin _ (by decide +kernel), codeAny_builtin F.entry_type_call ?_⟩
  rw [Around.under_plain (weight_type_call_type "set" [.ref l] []) rfl]
  have f1 := F.called_set.notType
  have f2 := F.called_set.canCreate
  have f3 := F.typeCall_set_1 (.ref l)
  repeat (any_goals (first | assumption | wp_step))
  refine codeAny_mono (code_new1 (.ref l) (E := E) (Q₁ := fun ob s₁ => ob = .ref s.heap.objs.size ∧ s₁ = { s with heap := s.heap.push (newSetObj w) }) ⟨rfl, rfl⟩) fun res s₁ hr => ?_
  cases res with
  | error e => exact hr
  | ok fl =>
    cases fl with
    | ret obj =>
      obtain ⟨rfl, rfl⟩ := hr
      have at0 : (s.heap.push (newSetObj w)).get? s.heap.objs.size = some (newSetObj w) := Heap.get?_push_size _ rfl
      have ty0 : Shared.TypeIs { s with heap := s.heap.push (newSetObj w) } (.ref s.heap.objs.size) "set" := ⟨_, at0, rfl⟩
      have li := F.called_set.init.lookup
      have bi := F.called_set.init.bind (.ref s.heap.objs.size)
      repeat (any_goals (first | assumption | wp_step))
      refine codeAny_mono (codeAny_call_builtin (R := wants (fun r s₂ => r = .none ∧ ∃ h' tk c, s₂ = { s with heap := h', toks := tk } ∧ SetG w h' s.heap.objs.size (fun j => hasK ks j) c ∧ c ≤ ks.length ∧
          ∀ b o, s.heap.get? b = some o → h'.get? b = some o) E) F.called_set.init.plain F.entry_set_init (check_set_init_1 ty0 ?_)) fun res₂ s₂ hr₂ => ?_
      · obtain ⟨ol, hol, hcl, nl, hdl⟩ := hl
        obtain ⟨ocls, odict, odata, oslots⟩ := ol
        simp only at hcl hdl
        subst hcl; subst hdl
        have at1 : (s.heap.push (newSetObj w)).get? l = some { cls := .type "list", dict := odict, data := .seq items nl, slots := oslots } := Heap.get?_push_of_some _ hol
        have seq1 : (s.heap.push (newSetObj w)).IsList l items := ⟨_, at1, rfl, nl, rfl⟩
        have n1 := F.sub_list_set
        have n2 := F.sub_list_frozenset
        have n3 : (Value.type "list" == Value.type "dict") = false := by decide
        unfold Builtin.«set.__init__» noKeywords Builtin.Frozenset.updateFrom
        generalize hPI : pyIter = PI
        wp_walk
        subst hPI
        refine wpAny_pyIter_list seq1 ?_
        refine wpAny_bind (wpAny_runValue ?_)
        have hh3 : A.in1.in1.in1.handled = none := by simp [hh]
        have sz1 : (s.heap.push (newSetObj w)).objs.size = s.heap.objs.size + 1 := Heap.size_push ..
        have lS : l < s.heap.objs.size := Heap.lt_size hol
        have apart : l ≠ (s.heap.push (newSetObj w)).objs.size := Nat.ne_of_lt (by rw [sz1]; exact Nat.lt_succ_of_lt lS)
        refine setG_loop ((Walks.list hh3 _ l apart items).toS) s.heap.objs.size (by rw [sz1]; simp only [List.mem_cons, List.not_mem_nil, or_false, not_or]; exact ⟨Nat.ne_of_lt (Nat.lt_succ_self _), Nat.ne_of_gt lS⟩) ks hsz hb hit (items.size - 0) 0 _ (by omega) (Nat.zero_le _) ⟨⟨_, Heap.get?_push_size _ rfl, rfl, rfl⟩, (seq1.push _)⟩ ?hS0 ?hR
        case hS0 => exact ⟨0, Nat.le_refl 0, setG_empty (Heap.get?_push_of_some _ at0) fun k => by unfold hasK; rw [List.take_zero]; rfl⟩
        case hR =>
          intro s3 c3 mv hc3 hS3
          obtain ⟨h3, g3, d3, tk3, os3⟩ := s3
          obtain rfl : g3 = s.gens := mv.gens
          obtain rfl : d3 = s.drawn := mv.drawn
          obtain rfl : os3 = s.os := mv.os
          refine wpAny_pure (?_ : wpAny _ _ (ret Value.none) _ _ _)
          refine wpAny_pure ⟨rfl, h3, tk3, c3, rfl, hS3, (by rw [← hsz]; exact hc3), fun b o e => ?_⟩
          have lt0 : b < s.heap.objs.size := Heap.lt_size e
          refine mv.heap b o (fun z => ?_) (Heap.get?_push_of_some _ (Heap.get?_push_of_some _ e))
          simp only [List.mem_cons, List.not_mem_nil, or_false] at z
          rcases z with z | z
          · exact absurd lt0 (by rw [z]; exact Nat.lt_irrefl _)
          · exact absurd lt0 (by rw [z, sz1]; exact Nat.not_lt_of_le (Nat.le_succ _))
      · cases res₂ with
        | error e => exact hr₂
        | ok fl₂ =>
          cases fl₂ with
          | ret r =>
            obtain ⟨rfl, h3, tk3, c3, rfl, hS3, hc3, hk3⟩ := hr₂
            repeat (any_goals (first | assumption | wp_step))
            exact h _ _ _ hS3 hc3 hk3
          | _ => exact hr₂.elim
    | _ => exact hr.elim
end
end MR

namespace MR
open PySem PySem.Spec PyProof.Rows L2
section
variable {P : Program} {w : World} {A : Around} {E : Value → Shared → Prop} {s : Shared} {a : Addr} {S : Key → Bool} {n : Nat}

set_option maxHeartbeats 3200000 in
theorem call_set_tuple {l : Addr} {items : Array Value} (ks : List Key) {Q : Value → Shared → Prop} (hh : A.handled = none) (hl : s.heap.IsTuple l items) (hsz : items.size = ks.length) (hit : ∀ (i : Nat) (v : Value), items[i]? = some v → ∃ k, ks[i]? = some k ∧ kOf v = some k) (hb : ks.length + 1 < scanBound)
    (h : ∀ (h' : Heap) (tk c : Nat), SetG w h' s.heap.objs.size (fun j => hasK ks j) c → c ≤ ks.length → (∀ b o, s.heap.get? b = some o → h'.get? b = some o) → Q (.ref s.heap.objs.size) { s with heap := h', toks := tk }) :
    wpAny (model P w) A (call (.type "set") [.ref l]) Q E s := by
  obtain ⟨c0, tl, hmro⟩ := F.called_set.mro
  have is_made := F.called_set.made
  have is_sub := F.called_set.sub
  refine wpAny_call (codeAny_of_tree (?_ : wpAny _ _ (callAny (.type "set") _) _ _ _))
  refine wpAny_pure ⟨Code.quiet_builtin _ (by decide +kernel), codeAny_builtin F.entry_type_call ?_⟩
  rw [Around.under_plain (weight_type_call_type "set" [.ref l] []) rfl]
  have f1 := F.called_set.notType
  have f2 := F.called_set.canCreate
  have f3 := F.typeCall_set_1 (.ref l)
  repeat (any_goals (first | assumption | wp_step))
  refine codeAny_mono (code_new1 (.ref l) (E := E) (Q₁ := fun ob s₁ => ob = .ref s.heap.objs.size ∧ s₁ = { s with heap := s.heap.push (newSetObj w) }) ⟨rfl, rfl⟩) fun res s₁ hr => ?_
  cases res with
  | error e => exact hr
  | ok fl =>
    cases fl with
    | ret obj =>
      obtain ⟨rfl, rfl⟩ := hr
      have at0 : (s.heap.push (newSetObj w)).get? s.heap.objs.size = some (newSetObj w) := Heap.get?_push_size _ rfl
      have ty0 : Shared.TypeIs { s with heap := s.heap.push (newSetObj w) } (.ref s.heap.objs.size) "set" := ⟨_, at0, rfl⟩
      have li := F.called_set.init.lookup
      have bi := F.called_set.init.bind (.ref s.heap.objs.size)
      repeat (any_goals (first | assumption | wp_step))
      refine codeAny_mono (codeAny_call_builtin (R := wants (fun r s₂ => r = .none ∧ ∃ h' tk c, s₂ = { s with heap := h', toks := tk } ∧ SetG w h' s.heap.objs.size (fun j => hasK ks j) c ∧ c ≤ ks.length ∧
          ∀ b o, s.heap.get? b = some o → h'.get? b = some o) E) F.called_set.init.plain F.entry_set_init (check_set_init_1 ty0 ?_)) fun res₂ s₂ hr₂ => ?_
      · obtain ⟨ol, hol, hcl, nl, hdl⟩ := hl
        obtain ⟨ocls, odict, odata, oslots⟩ := ol
        simp only at hcl hdl
        subst hcl; subst hdl
        have at1 : (s.heap.push (newSetObj w)).get? l = some { cls := .type "tuple", dict := odict, data := .seq items nl, slots := oslots } := Heap.get?_push_of_some _ hol
        have seq1 : (s.heap.push (newSetObj w)).IsTuple l items := ⟨_, at1, rfl, nl, rfl⟩
        have n1 := F.sub_tuple_set
        have n2 := F.sub_tuple_frozenset
        have n3 : (Value.type "tuple" == Value.type "dict") = false := by decide
        unfold Builtin.«set.__init__» noKeywords Builtin.Frozenset.updateFrom
        generalize hPI : pyIter = PI
        wp_walk
        subst hPI
        refine wpAny_pyIter_tuple seq1 ?_
        refine wpAny_bind (wpAny_runValue ?_)
        have hh3 : A.in1.in1.in1.handled = none := by simp [hh]
        have sz1 : (s.heap.push (newSetObj w)).objs.size = s.heap.objs.size + 1 := Heap.size_push ..
        have lS : l < s.heap.objs.size := Heap.lt_size hol
        have apart : l ≠ (s.heap.push (newSetObj w)).objs.size := Nat.ne_of_lt (by rw [sz1]; exact Nat.lt_succ_of_lt lS)
        refine setG_loop ((Walks.tuple hh3 _ l apart items).toS) s.heap.objs.size (by rw [sz1]; simp only [List.mem_cons, List.not_mem_nil, or_false, not_or]; exact ⟨Nat.ne_of_lt (Nat.lt_succ_self _), Nat.ne_of_gt lS⟩) ks hsz hb hit (items.size - 0) 0 _ (by omega) (Nat.zero_le _) ⟨⟨_, Heap.get?_push_size _ rfl, rfl, rfl⟩, (seq1.push _)⟩ ?hS0 ?hR
        case hS0 => exact ⟨0, Nat.le_refl 0, setG_empty (Heap.get?_push_of_some _ at0) fun k => by unfold hasK; rw [List.take_zero]; rfl⟩
        case hR =>
          intro s3 c3 mv hc3 hS3
          obtain ⟨h3, g3, d3, tk3, os3⟩ := s3
          obtain rfl : g3 = s.gens := mv.gens
          obtain rfl : d3 = s.drawn := mv.drawn
          obtain rfl : os3 = s.os := mv.os
          refine wpAny_pure (?_ : wpAny _ _ (ret Value.none) _ _ _)
          refine wpAny_pure ⟨rfl, h3, tk3, c3, rfl, hS3, (by rw [← hsz]; exact hc3), fun b o e => ?_⟩
          have lt0 : b < s.heap.objs.size := Heap.lt_size e
          refine mv.heap b o (fun z => ?_) (Heap.get?_push_of_some _ (Heap.get?_push_of_some _ e))
          simp only [List.mem_cons, List.not_mem_nil, or_false] at z
          rcases z with z | z
          · exact absurd lt0 (by rw [z]; exact Nat.lt_irrefl _)
          · exact absurd lt0 (by rw [z, sz1]; exact Nat.not_lt_of_le (Nat.le_succ _))
      · cases res₂ with
        | error e => exact hr₂
        | ok fl₂ =>
          cases fl₂ with
          | ret r =>
            obtain ⟨rfl, h3, tk3, c3, rfl, hS3, hc3, hk3⟩ := hr₂
            repeat (any_goals (first | assumption | wp_step))
            exact h _ _ _ hS3 hc3 hk3
          | _ => exact hr₂.elim
    | _ => exact hr.elim
end
end MR

namespace MR
open PySem PySem.Spec PyProof.Rows L2
section
variable {P : Program} {w : World} {A : Around} {E : Value → Shared → Prop} {s : Shared} {a : Addr} {S : Key → Bool} {n : Nat}

set_option maxHeartbeats 3200000 in
theorem call_set_ascii {x : Str} {t : Tok} (ks : List Key) {Q : Value → Shared → Prop} (hh : A.handled = none) (ha : x.cps.all (· < 128) = true) (hks : ks = x.cps.toList.map fun c => Sum.inr ⟨#[c]⟩) (hb : ks.length + 1 < scanBound)
    (h : ∀ (h' : Heap) (tk c : Nat), SetG w h' s.heap.objs.size (fun j => hasK ks j) c → c ≤ ks.length → (∀ b o, s.heap.get? b = some o → h'.get? b = some o) → Q (.ref s.heap.objs.size) { s with heap := h', toks := tk }) :
    wpAny (model P w) A (call (.type "set") [.str x t]) Q E s := by
  obtain ⟨c0, tl, hmro⟩ := F.called_set.mro
  have is_made := F.called_set.made
  have is_sub := F.called_set.sub
  refine wpAny_call (codeAny_of_tree (?_ : wpAny _ _ (callAny (.type "set") _) _ _ _))
  refine wpAny_pure ⟨Code.quiet_builtin _ (by decide +kernel), codeAny_builtin F.entry_type_call ?_⟩
  rw [Around.under_plain (weight_type_call_type "set" [.str x t] []) rfl]
  have f1 := F.called_set.notType
  have f2 := F.called_set.canCreate
  have f3 := F.typeCall_set_1 (.str x t)
  repeat (any_goals (first | assumption | wp_step))
  refine codeAny_mono (code_new1 (.str x t) (E := E) (Q₁ := fun ob s₁ => ob = .ref s.heap.objs.size ∧ s₁ = { s with heap := s.heap.push (newSetObj w) }) ⟨rfl, rfl⟩) fun res s₁ hr => ?_
  cases res with
  | error e => exact hr
  | ok fl =>
    cases fl with
    | ret obj =>
      obtain ⟨rfl, rfl⟩ := hr
      have at0 : (s.heap.push (newSetObj w)).get? s.heap.objs.size = some (newSetObj w) := Heap.get?_push_size _ rfl
      have ty0 : Shared.TypeIs { s with heap := s.heap.push (newSetObj w) } (.ref s.heap.objs.size) "set" := ⟨_, at0, rfl⟩
      have li := F.called_set.init.lookup
      have bi := F.called_set.init.bind (.ref s.heap.objs.size)
      repeat (any_goals (first | assumption | wp_step))
      refine codeAny_mono (codeAny_call_builtin (R := wants (fun r s₂ => r = .none ∧ ∃ h' tk c, s₂ = { s with heap := h', toks := tk } ∧ SetG w h' s.heap.objs.size (fun j => hasK ks j) c ∧ c ≤ ks.length ∧
          ∀ b o, s.heap.get? b = some o → h'.get? b = some o) E) F.called_set.init.plain F.entry_set_init (check_set_init_1 ty0 ?_)) fun res₂ s₂ hr₂ => ?_
      · skip
        have n1 := F.sub_str_set
        have n2 := F.sub_str_frozenset
        have n3 : (Value.type "str" == Value.type "dict") = false := by decide
        unfold Builtin.«set.__init__» noKeywords Builtin.Frozenset.updateFrom
        generalize hPI : pyIter = PI
        wp_walk
        subst hPI
        refine wpAny_pyIter_ascii ha ?_
        refine wpAny_bind (wpAny_runValue ?_)
        have hh3 : A.in1.in1.in1.handled = none := by simp [hh]
        have sz1 : (s.heap.push (newSetObj w)).objs.size = s.heap.objs.size + 1 := Heap.size_push ..

        refine setG_loop ((Walks.strAscii hh3 _ x t).toS) s.heap.objs.size (by rw [sz1]; simp only [List.mem_cons, List.not_mem_nil, or_false]; exact Nat.ne_of_lt (Nat.lt_succ_self _)) ks (by rw [hks, List.length_map, Array.length_toList]) hb (fun i v ⟨c, t2, e1, e2⟩ => ⟨.inr ⟨#[c]⟩, by rw [hks, List.getElem?_map, Array.getElem?_toList, e1]; rfl, by rw [e2]; rfl⟩) (x.cps.size - 0) 0 _ (by omega) (Nat.zero_le _) ⟨_, Heap.get?_push_size _ rfl, rfl, rfl⟩ ?hS0 ?hR
        case hS0 => exact ⟨0, Nat.le_refl 0, setG_empty (Heap.get?_push_of_some _ at0) fun k => by unfold hasK; rw [List.take_zero]; rfl⟩
        case hR =>
          intro s3 c3 mv hc3 hS3
          obtain ⟨h3, g3, d3, tk3, os3⟩ := s3
          obtain rfl : g3 = s.gens := mv.gens
          obtain rfl : d3 = s.drawn := mv.drawn
          obtain rfl : os3 = s.os := mv.os
          refine wpAny_pure (?_ : wpAny _ _ (ret Value.none) _ _ _)
          refine wpAny_pure ⟨rfl, h3, tk3, c3, rfl, hS3, (by rw [hks, List.length_map, Array.length_toList]; exact hc3), fun b o e => ?_⟩
          have lt0 : b < s.heap.objs.size := Heap.lt_size e
          refine mv.heap b o (fun z => ?_) (Heap.get?_push_of_some _ (Heap.get?_push_of_some _ e))
          simp only [List.mem_cons, List.not_mem_nil, or_false] at z
          rcases z with z | z
          · exact absurd lt0 (by rw [z]; exact Nat.lt_irrefl _)
          · exact absurd lt0 (by rw [z, sz1]; exact Nat.not_lt_of_le (Nat.le_succ _))
      · cases res₂ with
        | error e => exact hr₂
        | ok fl₂ =>
          cases fl₂ with
          | ret r =>
            obtain ⟨rfl, h3, tk3, c3, rfl, hS3, hc3, hk3⟩ := hr₂
            repeat (any_goals (first | assumption | wp_step))
            exact h _ _ _ hS3 hc3 hk3
          | _ => exact hr₂.elim
    | _ => exact hr.elim
end
end MR

namespace MR
open PySem PySem.Spec PyProof.Rows L2
section
variable {P : Program} {w : World} {A : Around} {E : Value → Shared → Prop} {s : Shared} {a : Addr} {S : Key → Bool} {n : Nat}

set_option maxHeartbeats 3200000 in
theorem call_set_wide {x : Str} {t : Tok} (ks : List Key) {Q : Value → Shared → Prop} (hh : A.handled = none) (ha : x.cps.all (· < 128) = false) (hks : ks = x.cps.toList.map fun c => Sum.inr ⟨#[c]⟩) (hb : ks.length + 1 < scanBound)
    (h : ∀ (h' : Heap) (tk c : Nat), SetG w h' s.heap.objs.size (fun j => hasK ks j) c → c ≤ ks.length → (∀ b o, s.heap.get? b = some o → h'.get? b = some o) → Q (.ref s.heap.objs.size) { s with heap := h', toks := tk }) :
    wpAny (model P w) A (call (.type "set") [.str x t]) Q E s := by
  obtain ⟨c0, tl, hmro⟩ := F.called_set.mro
  have is_made := F.called_set.made
  have is_sub := F.called_set.sub
  refine wpAny_call (codeAny_of_tree (?_ : wpAny _ _ (callAny (.type "set") _) _ _ _))
  refine wpAny_pure ⟨Code.quiet_builtin _ (by decide +kernel), codeAny_builtin F.entry_type_call ?_⟩
  rw [Around.under_plain (weight_type_call_type "set" [.str x t] []) rfl]
  have f1 := F.called_set.notType
  have f2 := F.called_set.canCreate
  have f3 := F.typeCall_set_1 (.str x t)
  repeat (any_goals (first | assumption | wp_step))
  refine codeAny_mono (code_new1 (.str x t) (E := E) (Q₁ := fun ob s₁ => ob = .ref s.heap.objs.size ∧ s₁ = { s with heap := s.heap.push (newSetObj w) }) ⟨rfl, rfl⟩) fun res s₁ hr => ?_
  cases res with
  | error e => exact hr
  | ok fl =>
    cases fl with
    | ret obj =>
      obtain ⟨rfl, rfl⟩ := hr
      have at0 : (s.heap.push (newSetObj w)).get? s.heap.objs.size = some (newSetObj w) := Heap.get?_push_size _ rfl
      have ty0 : Shared.TypeIs { s with heap := s.heap.push (newSetObj w) } (.ref s.heap.objs.size) "set" := ⟨_, at0, rfl⟩
      have li := F.called_set.init.lookup
      have bi := F.called_set.init.bind (.ref s.heap.objs.size)
      repeat (any_goals (first | assumption | wp_step))
      refine codeAny_mono (codeAny_call_builtin (R := wants (fun r s₂ => r = .none ∧ ∃ h' tk c, s₂ = { s with heap := h', toks := tk } ∧ SetG w h' s.heap.objs.size (fun j => hasK ks j) c ∧ c ≤ ks.length ∧
          ∀ b o, s.heap.get? b = some o → h'.get? b = some o) E) F.called_set.init.plain F.entry_set_init (check_set_init_1 ty0 ?_)) fun res₂ s₂ hr₂ => ?_
      · skip
        have n1 := F.sub_str_set
        have n2 := F.sub_str_frozenset
        have n3 : (Value.type "str" == Value.type "dict") = false := by decide
        unfold Builtin.«set.__init__» noKeywords Builtin.Frozenset.updateFrom
        generalize hPI : pyIter = PI
        wp_walk
        subst hPI
        refine wpAny_pyIter_wide ha ?_
        refine wpAny_bind (wpAny_runValue ?_)
        have hh3 : A.in1.in1.in1.handled = none := by simp [hh]
        have sz1 : (s.heap.push (newSetObj w)).objs.size = s.heap.objs.size + 1 := Heap.size_push ..

        refine setG_loop ((Walks.strWide hh3 _ x t).toS) s.heap.objs.size (by rw [sz1]; simp only [List.mem_cons, List.not_mem_nil, or_false]; exact Nat.ne_of_lt (Nat.lt_succ_self _)) ks (by rw [hks, List.length_map, Array.length_toList]) hb (fun i v ⟨c, t2, e1, e2⟩ => ⟨.inr ⟨#[c]⟩, by rw [hks, List.getElem?_map, Array.getElem?_toList, e1]; rfl, by rw [e2]; rfl⟩) (x.cps.size - 0) 0 _ (by omega) (Nat.zero_le _) ⟨_, Heap.get?_push_size _ rfl, rfl, rfl⟩ ?hS0 ?hR
        case hS0 => exact ⟨0, Nat.le_refl 0, setG_empty (Heap.get?_push_of_some _ at0) fun k => by unfold hasK; rw [List.take_zero]; rfl⟩
        case hR =>
          intro s3 c3 mv hc3 hS3
          obtain ⟨h3, g3, d3, tk3, os3⟩ := s3
          obtain rfl : g3 = s.gens := mv.gens
          obtain rfl : d3 = s.drawn := mv.drawn
          obtain rfl : os3 = s.os := mv.os
          refine wpAny_pure (?_ : wpAny _ _ (ret Value.none) _ _ _)
          refine wpAny_pure ⟨rfl, h3, tk3, c3, rfl, hS3, (by rw [hks, List.length_map, Array.length_toList]; exact hc3), fun b o e => ?_⟩
          have lt0 : b < s.heap.objs.size := Heap.lt_size e
          refine mv.heap b o (fun z => ?_) (Heap.get?_push_of_some _ (Heap.get?_push_of_some _ e))
          simp only [List.mem_cons, List.not_mem_nil, or_false] at z
          rcases z with z | z
          · exact absurd lt0 (by rw [z]; exact Nat.lt_irrefl _)
          · exact absurd lt0 (by rw [z, sz1]; exact Nat.not_lt_of_le (Nat.le_succ _))
      · cases res₂ with
        | error e => exact hr₂
        | ok fl₂ =>
          cases fl₂ with
          | ret r =>
            obtain ⟨rfl, h3, tk3, c3, rfl, hS3, hc3, hk3⟩ := hr₂
            repeat (any_goals (first | assumption | wp_step))
            exact h _ _ _ hS3 hc3 hk3
          | _ => exact hr₂.elim
    | _ => exact hr.elim
end
end MR

namespace MR
open PySem PySem.Spec PyProof.Rows L2
section
variable {P : Program} {w : World} {A : Around} {E : Value → Shared → Prop} {s : Shared} {a : Addr} {S : Key → Bool} {n : Nat}

def txtOf (v : Value) : Str := match v with
  | .str x _ => x
  | _ => Str.empty
/-- the texts of a set, sorted -/
theorem sorted_setG {n : Nat} {Q : Value → Shared → Prop} (R : SetG w s.heap a S n) (hh : A.handled = none) (hu : A.units + 64 < cLine) (hs : ∀ k, S k = true → ∃ x, k = Sum.inr x)
    (hQ : ∀ s' p (out : Array Value) (c : Nat) (xs : List Str), (∀ b o, s.heap.get? b = some o → s'.heap.get? b = some o) → s'.gens = s.gens → s'.os = s.os → s.heap.objs.size ≤ p →
      s'.heap.get? p = some (seqObj "list" out c) → PySem.W.EachIs (fun v x => ∃ t, v = Value.str x t) out.toList xs → (∃ ys : List Str, xs = ys.mergeSort (PySem.W.dataLe false PyData.str) ∧ ys.length ≤ sizeLine ∧ ys.Nodup ∧ (∀ x, x ∈ ys ↔ S (Sum.inr x) = true)) → Q (.ref p) s') :
    wpAny (model P w) A (call (.builtin "sorted") [.ref a]) Q E s := by
  obtain ⟨ob, el, ep, tb, ho, hx, hd, g, nd, hm, hb, hf, hn, hr, hl⟩ := R
  refine Calls.call_function_entry kind_sorted plain_sorted entry_sorted (args_sorted1 _) ?_
  unfold Builtin.«sorted»
  refine wpAny_bind (m := checkCount "sorted" 1 1 _) (wpAny_pure (wpAny_bind (collect_set (A := A.in1) hh ⟨ob, ho, hx.1, hd⟩ hf hb hr hl fun s1 vs k1 hz g1 o1 pm => ?_)))
  have texts : ∀ v ∈ vs, ∃ x t, v = Value.str x t := fun v hv => by
    obtain ⟨e, he, q⟩ := List.mem_map.mp (pm.mem_iff.mp hv)
    obtain ⟨k, hk, _⟩ := g e he
    obtain ⟨x, rfl⟩ := hs k ((hm k).2 (List.mem_map.mpr ⟨e, he, hk⟩))
    rw [q] at hk
    cases v with
    | str y t =>
      cases hk
      exact ⟨_, t, rfl⟩
    | int i t => cases hk
    | _ => cases hk
  have vl : vs.length ≤ sizeLine := by
    rw [pm.length_eq, List.length_map, Array.length_toList]
    exact fits_of_scanBound hb
  have each : PySem.W.EachIs (fun v x => ∃ t, v = Value.str x t) vs (vs.map txtOf) := by
    clear pm hz g1 o1 vl k1
    induction vs with
    | nil => exact .nil
    | cons v l ih =>
      obtain ⟨x, t, rfl⟩ := texts v List.mem_cons_self
      exact .cons ⟨t, rfl⟩ (ih fun u hu => texts u (List.mem_cons_of_mem _ hu))
  refine wpAny_bind (wpAny_newList ?_ vl)
  have at1 : (s1.heap.push (seqObj "list" vs.toArray 0)).get? s1.heap.objs.size = some (seqObj "list" vs.toArray 0) := Heap.get?_push_size _ rfl
  have er : PySem.W.EachIs (fun v x => ∃ as, Reads (s1.heap.push (seqObj "list" vs.toArray 0)) v (PyData.str x) as ∧ s1.heap.objs.size ∉ as) vs (vs.map txtOf) := each.mono fun v x ⟨t, e⟩ => by
    rw [e]
    exact ⟨[], .str x t, List.not_mem_nil⟩
  refine wpAny_bind (wpAny_holding (PySem.W.list_sort_data (A := A.in1) (s := { s1 with heap := s1.heap.push (seqObj "list" vs.toArray 0) }) at1 each er (PySem.W.AllAlike.of fun _ _ => rfl) (PySem.W.Sortable.others fun _ => ⟨fun z => (nomatch z), fun _ z => (nomatch z)⟩)
    (by rw [List.length_map]; exact vl) (fun x _ => by show A.units + 1 + 1 + 0 < cLine; omega) fun out hlen eo => ?_))
  obtain ⟨c, hc⟩ := sortedHeap_at (vs := vs) (out := out.toArray) at1
  refine wpAny_pure ⟨_, rfl, hQ _ s1.heap.objs.size out.toArray c _ (fun b u e => ?_) g1 o1 hz hc (by rw [List.toList_toArray]; exact eo) ⟨_, rfl, by rw [List.length_map]; exact vl, ?_, fun x => ?_⟩⟩
  · have q := k1 b u e
    have lt := Heap.lt_size q
    show (sortedHeap (s1.heap.push (seqObj "list" vs.toArray 0)) s1.heap.objs.size vs out.toArray).get? b = some u
    rw [sortedHeap_old (Nat.ne_of_lt lt) (by rw [size_push']; exact Nat.lt_succ_of_lt lt)]
    exact Heap.get?_push_of_some _ q
  · have nk : (vs.map kOf).Nodup := by
      have q := (pm.map kOf).nodup_iff
      rw [List.map_map] at q
      exact q.mpr nd
    have e : vs.map kOf = (vs.map txtOf).map fun x => some (Sum.inr x : Key) := by
      rw [List.map_map]
      refine List.map_congr_left fun v hv => ?_
      obtain ⟨x, t, rfl⟩ := texts v hv
      rfl
    rw [e] at nk
    exact List.Pairwise.of_map _ (fun a b h z => h (by rw [z])) nk
  · rw [hm, List.mem_map, List.mem_map]
    constructor
    · rintro ⟨v, hv, rfl⟩
      obtain ⟨e, he, q⟩ := List.mem_map.mp (pm.mem_iff.mp hv)
      obtain ⟨y, t, rfl⟩ := texts v hv
      exact ⟨e, he, by rw [q]; rfl⟩
    · rintro ⟨e, he, q⟩
      have hv : e.2 ∈ vs := pm.mem_iff.mpr (List.mem_map.mpr ⟨e, he, rfl⟩)
      obtain ⟨y, t, ey⟩ := texts _ hv
      refine ⟨e.2, hv, ?_⟩
      rw [ey] at q ⊢
      cases q
      rfl
end
end MR

/-! The data layer: what a program does with values that read as data, without addresses. -/
namespace MR
open PySem PySem.Spec PyProof.Rows L2

/-- a key as data -/
def keyD : Key → PyData
  | .inl i => .int i
  | .inr x => .str x
/-- of at most n bits -/
def Bd (n : Nat) (i : Int) : Prop := ∃ b : Nat, 0 < b ∧ b ≤ n ∧ i.natAbs < 2 ^ b
/-- the well of drawn numbers: the one object that the defs change -/
def Well (o : HO) : Prop := ∃ i j : Int, o = .dK [(.inr "digits", .int i), (.inr "mixed", .int j)] ∧ 0 ≤ i ∧ Bd 2000000 i ∧ 0 ≤ j ∧ j < 4294967296

mutual
/-- the value v reads as the data d -/
def Rp (K : PySem.W.Frag) (H : Hp) : PyData → V → Prop
  | .none, v => v = .non
  | .bool b, v => v = .bl b
  | .int i, v => v = .int i
  | .str x, v => v = .str x
  | .list ds, v => ∃ a xs, v = .ref a ∧ H a = some (.lst xs) ∧ RpA K H ds xs
  | .tuple ds, v => ∃ a xs, v = .ref a ∧ SqT K H a xs ∧ RpA K H ds xs
  | .dict kvs, v => ∃ a es, v = .ref a ∧ H a = some (.dK es) ∧ ¬ Well (.dK es) ∧ RpK K H kvs es
def RpA (K : PySem.W.Frag) (H : Hp) : List PyData → List V → Prop
  | [], vs => vs = []
  | d :: ds, vs => ∃ v r, vs = v :: r ∧ Rp K H d v ∧ RpA K H ds r
def RpK (K : PySem.W.Frag) (H : Hp) : List (PyData × PyData) → List (Key × V) → Prop
  | [], es => es = []
  | (k, d) :: r, es => ∃ k' v q, es = (k', v) :: q ∧ k = keyD k' ∧ Rp K H d v ∧ RpK K H r q
end

/-! ### what may change: the wells alone -/
def Ext (H H' : Hp) : Prop := ∀ a o, H a = some o → H' a = some o ∨ (Well o ∧ ∃ o', H' a = some o' ∧ Well o')
def hide (P : Addr → Bool) (H : Hp) : Hp := fun a => if P a = true then none else H a
theorem Ext.refl (H : Hp) : Ext H H := fun _ _ h => .inl h
theorem Ext.trans {H H1 H2 : Hp} (x : Ext H H1) (y : Ext H1 H2) : Ext H H2 := fun a o h => by
  rcases x a o h with h1 | ⟨w, o1, h1, w1⟩
  · exact y a o h1
  · rcases y a o1 h1 with h2 | ⟨_, o2, h2, w2⟩
    · exact .inr ⟨w, o1, h2, w1⟩
    · exact .inr ⟨w, o2, h2, w2⟩
theorem Ext.same {H H' : Hp} (x : Same H H') : Ext H H' := fun a o h => .inl (x a o h)
theorem Ext.new {H : Hp} {p : Addr} {o : HO} (h : H p = none) : Ext H (upd H p o) := fun a u e => .inl (by
  rw [upd_ne (ne_of_none e h)]
  exact e)
theorem Ext.none {H H' : Hp} {p : Addr} (x : Ext H H') (h : H' p = Option.none) : H p = Option.none := by
  cases q : H p with
  | none => rfl
  | some o =>
    rcases x p o q with z | ⟨_, _, z, _⟩ <;> (rw [z] at h; cases h)
theorem Ext.some {H H' : Hp} {p : Addr} (x : Ext H H') (h : H p ≠ Option.none) : H' p ≠ Option.none := fun z => h (x.none z)
theorem Ext.hide {H H' : Hp} (P : Addr → Bool) (x : Ext H H') : Ext (hide P H) (hide P H') := fun a o h => by
  unfold MR.hide at h ⊢
  split at h
  · cases h
  · rename_i n
    rw [if_neg n]
    exact x a o h
theorem hide_ext (P : Addr → Bool) (H : Hp) : Ext (hide P H) H := fun a o h => by
  unfold hide at h
  split at h
  · cases h
  · exact .inl h
theorem hide_less {P P' : Addr → Bool} (H : Hp) (h : ∀ a, P a = true → P' a = true) : Ext (hide P' H) (hide P H) := fun a o e => by
  unfold hide at e ⊢
  split at e
  · cases e
  · rename_i n
    rw [if_neg (fun z => n (h a z))]
    exact .inl e
theorem hide_at {P : Addr → Bool} {H : Hp} {a : Addr} (h : P a = false) : hide P H a = H a := by
  unfold hide
  rw [h, if_neg Bool.false_ne_true]
/-- what is private stands there; the table of modules is private to all -/
def Dom (P : Addr → Bool) (H : Hp) : Prop := P sysModules = true ∧ ∀ a, P a = true → H a ≠ none
theorem hide_off (H : Hp) : hide (fun _ => false) H = H := funext fun a => hide_at rfl
theorem Ext.lst {H H' : Hp} {a : Addr} {xs : List V} (x : Ext H H') (h : H a = Option.some (.lst xs)) : H' a = Option.some (.lst xs) := by
  rcases x a _ h with z | ⟨⟨_, _, z, _⟩, _⟩
  · exact z
  · cases z
theorem Ext.seqL {K : PySem.W.Frag} {H H' : Hp} {a : Addr} {xs : List V} (x : Ext H H') (h : SqL K H a xs) : SqL K H' a xs := by
  rcases h with (h | ⟨o, h⟩) | h
  · exact .inl (.inl (x.lst h))
  · rcases x a _ h with z | ⟨⟨_, _, z, _⟩, _⟩
    · exact .inl (.inr ⟨o, z⟩)
    · cases z
  · exact .inr h
theorem Ext.seqT {K : PySem.W.Frag} {H H' : Hp} {a : Addr} {xs : List V} (x : Ext H H') (h : SqT K H a xs) : SqT K H' a xs := by
  rcases h with (h | ⟨o, h⟩) | h
  · rcases x a _ h with z | ⟨⟨_, _, z, _⟩, _⟩
    · exact .inl (.inl z)
    · cases z
  · rcases x a _ h with z | ⟨⟨_, _, z, _⟩, _⟩
    · exact .inl (.inr ⟨o, z⟩)
    · cases z
  · exact .inr h
mutual
theorem Rp.ext {K : PySem.W.Frag} {H H' : Hp} (x : Ext H H') : ∀ {d : PyData} {v : V}, Rp K H d v → Rp K H' d v
  | .none, _, h => h
  | .bool _, _, h => h
  | .int _, _, h => h
  | .str _, _, h => h
  | .list _, _, ⟨a, xs, e, q, r⟩ => ⟨a, xs, e, x.lst q, RpA.ext x r⟩
  | .tuple _, _, ⟨a, xs, e, q, r⟩ => ⟨a, xs, e, x.seqT q, RpA.ext x r⟩
  | .dict _, _, ⟨a, es, e, q, n, r⟩ => ⟨a, es, e, (x a _ q).resolve_right fun z => n z.1, n, RpK.ext x r⟩
theorem RpA.ext {K : PySem.W.Frag} {H H' : Hp} (x : Ext H H') : ∀ {ds : List PyData} {vs : List V}, RpA K H ds vs → RpA K H' ds vs
  | [], _, h => h
  | _ :: _, _, ⟨v, r, e, h, t⟩ => ⟨v, r, e, Rp.ext x h, RpA.ext x t⟩
theorem RpK.ext {K : PySem.W.Frag} {H H' : Hp} (x : Ext H H') : ∀ {ds : List (PyData × PyData)} {vs : List (Key × V)}, RpK K H ds vs → RpK K H' ds vs
  | [], _, h => h
  | (_, _) :: _, _, ⟨k, v, q, e, ek, h, t⟩ => ⟨k, v, q, e, ek, Rp.ext x h, RpK.ext x t⟩
end
theorem RpA.len {K : PySem.W.Frag} {H : Hp} : ∀ {ds : List PyData} {vs : List V}, RpA K H ds vs → ds.length = vs.length
  | [], vs, h => by rw [show vs = [] from h]; rfl
  | _ :: _, _, ⟨v, r, e, _, t⟩ => by rw [e, List.length_cons, List.length_cons, RpA.len t]
theorem RpA.app {K : PySem.W.Frag} {H : Hp} : ∀ {ds es : List PyData} {vs us : List V}, RpA K H ds vs → RpA K H es us → RpA K H (ds ++ es) (vs ++ us)
  | [], _, vs, _, h, q => by rw [show vs = [] from h]; exact q
  | _ :: _, _, _, _, ⟨v, r, e, h, t⟩, q => ⟨v, _, by rw [e]; rfl, h, RpA.app t q⟩
theorem RpA.get {K : PySem.W.Frag} {H : Hp} : ∀ {ds : List PyData} {vs : List V} {i : Nat} {d : PyData}, RpA K H ds vs → ds[i]? = some d → ∃ v, vs[i]? = some v ∧ Rp K H d v
  | [], _, _, _, _, e => by cases e
  | _ :: _, _, 0, _, ⟨v, r, q, h, t⟩, e => by
    cases e
    exact ⟨v, by rw [q]; rfl, h⟩
  | _ :: _, _, i + 1, _, ⟨v, r, q, h, t⟩, e => by
    obtain ⟨u, e1, e2⟩ := RpA.get (i := i) t e
    exact ⟨u, by rw [q]; exact e1, e2⟩
theorem RpA.back {K : PySem.W.Frag} {H : Hp} {ds : List PyData} {vs : List V} {i : Nat} {v : V} (h : RpA K H ds vs) (e : vs[i]? = some v) : ∃ d, ds[i]? = some d ∧ Rp K H d v := by
  have hi : i < ds.length := by
    rw [h.len]
    exact (List.getElem?_eq_some_iff.mp e).1
  obtain ⟨u, e1, e2⟩ := h.get (List.getElem?_eq_getElem hi)
  rw [e] at e1
  cases e1
  exact ⟨_, List.getElem?_eq_getElem hi, e2⟩
theorem RpA.take {K : PySem.W.Frag} {H : Hp} : ∀ {ds : List PyData} {vs : List V} (n : Nat), RpA K H ds vs → RpA K H (ds.take n) (vs.take n)
  | _, _, 0, _ => rfl
  | [], vs, n + 1, h => by rw [show vs = [] from h]; rfl
  | _ :: _, _, n + 1, ⟨v, r, e, h, t⟩ => ⟨v, r.take n, by rw [e]; rfl, h, RpA.take n t⟩
theorem RpA.drop {K : PySem.W.Frag} {H : Hp} : ∀ {ds : List PyData} {vs : List V} (n : Nat), RpA K H ds vs → RpA K H (ds.drop n) (vs.drop n)
  | _, _, 0, h => h
  | [], vs, n + 1, h => by rw [show vs = [] from h]; rfl
  | _ :: _, _, n + 1, ⟨v, r, e, h, t⟩ => by rw [e]; exact RpA.drop n t

/-! ### slots -/
/-- data, or what is no data: the well, a set of keys (by its members), a value by itself -/
inductive DV where
  | p (d : PyData) | well | set (ks : List Key) | scr (ns : List Int) | raw (v : V)
/-- the written part, the program, the world -/
structure Ky where
  K : PySem.W.Frag
  P : Program
  w : World
def Cx.ky (X : Cx) : Ky := ⟨X.K, X.prog, X.w⟩
/-- a set of keys, as an object -/
def SetGO (w : World) (a : Addr) (S : Key → Bool) (n : Nat) : HO := .ext fun h => SetG w h a S n
def Rv (κ : Ky) (H : Hp) : DV → V → Prop
  | .p d, v => Rp κ.K H d v
  | .well, v => ∃ a o, v = .ref a ∧ H a = some o ∧ Well o
  | .set ks, v => ∃ a n, v = .ref a ∧ H a = some (SetGO κ.w a (hasK ks) n)
  | .scr ns, v => ∃ a, v = .ref a ∧ SqL κ.K H a (ns.map V.int)
  | .raw u, v => v = u
theorem Rv.ext {κ : Ky} {H H' : Hp} (x : Ext H H') : ∀ {d : DV} {v : V}, Rv κ H d v → Rv κ H' d v
  | .p _, _, h => Rp.ext x h
  | .well, _, ⟨a, o, e, h, w⟩ => by
    rcases x a o h with z | ⟨_, o', z, w'⟩
    · exact ⟨a, o, e, z, w⟩
    · exact ⟨a, o', e, z, w'⟩
  | .set _, _, ⟨a, n, e, h⟩ => ⟨a, n, e, (x a _ h).resolve_right fun ⟨⟨_, _, z, _⟩, _⟩ => by cases z⟩
  | .scr _, _, ⟨a, e, h⟩ => ⟨a, e, x.seqL h⟩
  | .raw _, _, h => h
/-- a slot: nothing, data, a list that this slot alone holds -/
inductive Sl where
  | un | v (d : DV) | own (ds : List PyData)
abbrev Dn := List Sl
abbrev Sg := L2.St
def oor (P L : Addr → Bool) : Addr → Bool := fun a => P a || L a
/-- what stays as it is through a def: its heap at the entry, what is private to the callers, what else is to be kept (as what, where) -/
structure Sc where
  H0 : Hp
  P : Addr → Bool
  bs : List DV
  us : List V
def RvA (κ : Ky) (H : Hp) : List DV → List V → Prop
  | [], vs => vs = []
  | d :: ds, vs => ∃ v r, vs = v :: r ∧ Rv κ H d v ∧ RvA κ H ds r
theorem RvA.ext {κ : Ky} {H H' : Hp} (x : Ext H H') : ∀ {ds : List DV} {vs : List V}, RvA κ H ds vs → RvA κ H' ds vs
  | [], _, h => h
  | _ :: _, _, ⟨v, r, e, h, t⟩ => ⟨v, r, e, h.ext x, RvA.ext x t⟩
theorem RvA.len {κ : Ky} {H : Hp} : ∀ {ds : List DV} {vs : List V}, RvA κ H ds vs → ds.length = vs.length
  | [], vs, h => by rw [show vs = [] from h]; rfl
  | _ :: _, _, ⟨v, r, e, _, t⟩ => by rw [e, List.length_cons, List.length_cons, RvA.len t]
theorem RvA.app {κ : Ky} {H : Hp} : ∀ {ds es : List DV} {vs us : List V}, RvA κ H ds vs → RvA κ H es us → RvA κ H (ds ++ es) (vs ++ us)
  | [], _, vs, _, h, q => by rw [show vs = [] from h]; exact q
  | _ :: _, _, _, _, ⟨v, r, e, h, t⟩, q => ⟨v, _, by rw [e]; rfl, h, RvA.app t q⟩
theorem RvA.split {κ : Ky} {H : Hp} : ∀ {ds es : List DV} {vs us : List V}, ds.length = vs.length → RvA κ H (ds ++ es) (vs ++ us) → RvA κ H ds vs ∧ RvA κ H es us
  | [], _, [], _, _, q => ⟨rfl, q⟩
  | [], _, _ :: _, _, h, _ => by cases h
  | _ :: _, _, [], _, h, _ => by cases h
  | d :: ds, es, v :: vs, us, h, ⟨v', r, e, q, t⟩ => by
    have e' : v :: (vs ++ us) = v' :: r := e
    cases e'
    obtain ⟨h1, h2⟩ := RvA.split (Nat.succ.inj h) t
    exact ⟨⟨v, vs, rfl, q, h1⟩, h2⟩
/-- the slots σ read as δ; L: the lists that single slots hold -/
structure ES (κ : Ky) (c : Sc) (H : Hp) (L : Addr → Bool) (δ : Dn) (σ : Sg) : Prop where
  len : δ.length = σ.length
  val : ∀ (i : Nat) (d : DV), δ[i]? = some (Sl.v d) → ∃ v, σ[i]? = some (some v) ∧ Rv κ (hide (oor c.P L) H) d v
  own : ∀ (i : Nat) (ds : List PyData), δ[i]? = some (Sl.own ds) → ∃ a xs, σ[i]? = some (some (V.ref a)) ∧ L a = true ∧ H a = some (.lst xs) ∧ RpA κ.K (hide (oor c.P L) H) ds xs
  sep : ∀ (i j : Nat) (ds es : List PyData) (a : Addr), i ≠ j → δ[i]? = some (Sl.own ds) → δ[j]? = some (Sl.own es) → σ[i]? = some (some (V.ref a)) → σ[j]? ≠ some (some (V.ref a))
  psys : c.P sysModules = true
  pdom : ∀ a, c.P a = true → c.H0 a ≠ none
  ldom : ∀ a, L a = true → H a ≠ none ∧ c.H0 a = none
  ext : Ext c.H0 H
  kept : RvA κ (hide (oor c.P L) H) c.bs c.us
section
variable {κ : Ky} {c : Sc} {H H' : Hp} {L : Addr → Bool} {δ : Dn} {σ : Sg}
theorem ES.on (s : ES κ c H L δ σ) (x : Ext H H') : ES κ c H' L δ σ where
  len := s.len
  val := fun i d e => by
    obtain ⟨v, h1, h2⟩ := s.val i d e
    exact ⟨v, h1, h2.ext (x.hide _)⟩
  own := fun i ds e => by
    obtain ⟨a, xs, h1, h2, h3, h4⟩ := s.own i ds e
    exact ⟨a, xs, h1, h2, x.lst h3, h4.ext (x.hide _)⟩
  sep := s.sep
  psys := s.psys
  pdom := s.pdom
  ldom := fun a h => ⟨x.some (s.ldom a h).1, (s.ldom a h).2⟩
  ext := s.ext.trans x
  kept := s.kept.ext (x.hide _)
theorem ES.dom (s : ES κ c H L δ σ) : Dom (oor c.P L) H := by
  refine ⟨by unfold oor; rw [s.psys]; rfl, fun a h => ?_⟩
  unfold oor at h
  rcases (Bool.or_eq_true _ _).mp h with z | z
  · exact s.ext.some (s.pdom a z)
  · exact (s.ldom a z).1
end
theorem hide_new {P : Addr → Bool} {H : Hp} {p : Addr} {o : HO} (d : Dom P H) (h : H p = none) : hide P (upd H p o) p = some o := by
  have z : P p = false := by
    cases q : P p with
    | false => rfl
    | true => exact absurd h (d.2 p q)
  rw [hide_at z, upd_same]

/-! ### judgements -/
abbrev TD := Dn → (DV → Prop) → Prop
abbrev TB := Dn → (Bool → Prop) → Prop
abbrev TL := Dn → (List DV → Prop) → Prop
def up (κ : Ky) (t : TD) : TE := fun σ H Q => ∃ δ R c L, ES κ c H L δ σ ∧ t δ R ∧ ∀ v H' d, Ext H H' → Rv κ (hide (oor c.P L) H') d v → R d → Q v H'
def upT (κ : Ky) (t : TB) : TT := fun σ H Q => ∃ δ R c L, ES κ c H L δ σ ∧ t δ R ∧ ∀ b H', Ext H H' → R b → Q b H'
def upA (κ : Ky) (t : TL) : TA := fun σ H Q => ∃ δ R c L, ES κ c H L δ σ ∧ t δ R ∧ ∀ vs H' ds, Ext H H' → RvA κ (hide (oor c.P L) H') ds vs → R ds → Q vs H'
abbrev F2 := DV → DV → (DV → Prop) → Prop
abbrev F1 := DV → (DV → Prop) → Prop
abbrev FL := List DV → (DV → Prop) → Prop
/-- what an operation on values asks, by data -/
def upO (κ : Ky) (f : F2) : R2 := fun x y H Q => ∃ d e R P, Dom P H ∧ Rv κ (hide P H) d x ∧ Rv κ (hide P H) e y ∧ f d e R ∧ ∀ v H' r, Ext H H' → Rv κ (hide P H') r v → R r → Q v H'
def upU (κ : Ky) (f : F1) : V → Hp → VK → Prop := fun x H Q => ∃ d R P, Dom P H ∧ Rv κ (hide P H) d x ∧ f d R ∧ ∀ v H' r, Ext H H' → Rv κ (hide P H') r v → R r → Q v H'
def upC (κ : Ky) (f : FL) : List V → Hp → VK → Prop := fun xs H Q => ∃ ds R P, Dom P H ∧ RvA κ (hide P H) ds xs ∧ f ds R ∧ ∀ v H' r, Ext H H' → Rv κ (hide P H') r v → R r → Q v H'
def upM (κ : Ky) (f : DV → FL) : V → List V → Hp → VK → Prop := fun x xs H Q => ∃ d ds R P, Dom P H ∧ Rv κ (hide P H) d x ∧ RvA κ (hide P H) ds xs ∧ f d ds R ∧ ∀ v H' r, Ext H H' → Rv κ (hide P H') r v → R r → Q v H'
section
variable {X : Cx} {e : Expr} {t t' : TE}
theorem PE.imp (h : PE X e t') (q : ∀ σ H Q, t σ H Q → t' σ H Q) : PE X e t := ⟨fun pins s σ H Q I z => h.run pins s σ H Q I (q σ H Q z)⟩
theorem PT.imp {t t' : TT} (h : PT X e t') (q : ∀ σ H Q, t σ H Q → t' σ H Q) : PT X e t := ⟨fun pins s σ H Q I z => h.run pins s σ H Q I (q σ H Q z)⟩
theorem PW.imp {t t' : TT} (h : PW X e t') (q : ∀ σ H Q, t σ H Q → t' σ H Q) : PW X e t := ⟨fun wh pins s σ H Q I z => h.run wh pins s σ H Q I (q σ H Q z)⟩
theorem PA.imp {es : List Expr} {t t' : TA} (h : PA X es t') (q : ∀ σ H Q, t σ H Q → t' σ H Q) : PA X es t := ⟨fun pos pins s σ H Q I z => h.run pos pins s σ H Q I (q σ H Q z)⟩
theorem PSs.imp {st : List Stmt} {t t' : TS} (h : PSs X st t') (q : ∀ D σ H, t D σ H → t' D σ H) : PSs X st t := ⟨fun pins s σ H D I z => h.run pins s σ H D I (q D σ H z)⟩
theorem PS.imp {st : Stmt} {t t' : TS} (h : PS X st t') (q : ∀ D σ H, t D σ H → t' D σ H) : PS X st t := ⟨fun pins s σ H D I z => h.run pins s σ H D I (q D σ H z)⟩
theorem PI.imp {tg : Expr} {t t' : TI} (h : PI X tg e t') (q : ∀ σ H R, t σ H R → t' σ H R) : PI X tg e t := ⟨fun pins s σ H R I z => h.run pins s σ H R I (q σ H R z)⟩
end

/-! ### expressions -/
def dVar (i : Nat) : TD := fun δ R => match δ.getD i .un with
  | .v d => R d
  | _ => False
def dC (d : DV) : TD := fun _ R => R d
def dOp (f : F2) (ta tb : TD) : TD := fun δ R => ta δ fun d => tb δ fun e => f d e R
def dUn (f : F1) (ta : TD) : TD := fun δ R => ta δ fun d => f d R
def dNil : TL := fun _ R => R []
def dCons (ta : TD) (t : TL) : TL := fun δ R => ta δ fun d => t δ fun ds => R (d :: ds)
section
variable {X : Cx} {a b : Expr} {es : List Expr} {ta tb : TD} {t : TL} {pos : Pos}
theorem up_var {κ : Ky} {i : Nat} {σ : Sg} {H : Hp} {Q : VK} (h : up κ (dVar i) σ H Q) : tVar i σ H Q := by
  obtain ⟨δ, R, c, L, es, h, k⟩ := h
  unfold dVar at h
  rw [List.getD_eq_getElem?_getD] at h
  cases e : δ[i]? with
  | none => rw [e] at h; exact h.elim
  | some s =>
    rw [e] at h
    cases s with
    | un => exact h.elim
    | own ds => exact h.elim
    | v d =>
      obtain ⟨v, h1, h2⟩ := es.val i d e
      exact ⟨v, h1, k v H d (Ext.refl H) h2 h⟩
theorem dv (i : Nat) {x : Str} (hN : X.N[i]? = some x := by rfl) (hv : Vis X.env.scope x := by first | exact Or.inl rfl | exact Or.inr (Or.inl rfl) | exact Or.inr (Or.inr rfl)) (hd : (x == ("__debug__" : Str)) = false := by decide)
    (hcd : (x == ("__classdict__" : Str)) = false := by decide) : PE X (.Name x pos) (up (Cx.ky X) (dVar i)) := PE.imp (pv i hN hv hd hcd) fun _ _ _ h => up_var h
theorem up_c {κ : Ky} {d : DV} {v : V} (r : ∀ H, Rv κ H d v) {σ : Sg} {H : Hp} {Q : VK} (h : up κ (dC d) σ H Q) : tC v σ H Q := by
  obtain ⟨δ, R, c, L, es, h, k⟩ := h
  exact k v H d (Ext.refl H) (r _) h
theorem de_int {i j pos} : PE X (.Constant (.int i) j pos) (up (Cx.ky X) (dC (.p (.int i)))) := PE.imp pe_int fun _ _ _ h => up_c (d := (.p (.int i))) (v := .int i) (fun _ => rfl) h
theorem de_bl {b j pos} : PE X (.Constant (.bool b) j pos) (up (Cx.ky X) (dC (.p (.bool b)))) := PE.imp pe_bl fun _ _ _ h => up_c (d := (.p (.bool b))) (v := .bl b) (fun _ => rfl) h
theorem de_non {j pos} : PE X (.Constant .none j pos) (up (Cx.ky X) (dC (.p .none))) := PE.imp pe_non fun _ _ _ h => up_c (d := (.p .none)) (v := .non) (fun _ => rfl) h
theorem de_str {x j pos} : PE X (.Constant (.str x) j pos) (up (Cx.ky X) (dC (.p (.str x)))) := PE.imp pe_str fun _ _ _ h => up_c (d := (.p (.str x))) (v := .str x) (fun _ => rfl) h
/-- a constant of the module -/
theorem de_glob {x : Str} {d : DV} {v : V} {u : Value} {pos : Pos} (hg : Gl X x) (hm : X.mg x = some u) (r : RelV v u) (q : ∀ H, Rv (Cx.ky X) H d v) (hd : (x == ("__debug__" : Str)) = false := by decide) : PE X (.Name x pos) (up (Cx.ky X) (dC d)) :=
  PE.imp (pe_glob hg hm r hd) fun _ _ _ h => up_c q h
/-- a built-in as a value -/
theorem de_bltn {x : Str} {v : V} {u : Value} {pos : Pos} (hg : Gl X x) (hm : X.mg x = none) (hv : bootBuiltins x = some u) (r : RelV v u) (hn : x ≠ "__name__" := by decide) (hd : (x == ("__debug__" : Str)) = false := by decide) : PE X (.Name x pos) (up (Cx.ky X) (dC (.raw v))) :=
  PE.imp (pe_bltn hg hm hv r hn hd) fun _ _ _ h => up_c (d := (.raw v)) (v := v) (fun _ => rfl) h
theorem up_op {κ : Ky} {f : F2} {σ : Sg} {H : Hp} {Q : VK} (h : up κ (dOp f ta tb) σ H Q) : tOp (upO κ f) (up κ ta) (up κ tb) σ H Q := by
  obtain ⟨δ, R, c, L, es, h, k⟩ := h
  refine ⟨δ, _, c, L, es, h, fun v H1 d x1 r1 h1 => ⟨δ, _, c, L, es.on x1, h1, fun u H2 e x2 r2 h2 => ?_⟩⟩
  exact ⟨d, e, R, _, (es.on (x1.trans x2)).dom, r1.ext (x2.hide _), r2, h2, fun z H3 r x3 q1 q2 => k z H3 r (x1.trans (x2.trans x3)) q1 q2⟩
theorem de_op {op : Operator} {f : F2} (ho : OpR X (binaryOp op) (upO (Cx.ky X) f)) (ha : PE X a (up (Cx.ky X) ta)) (hb : PE X b (up (Cx.ky X) tb)) : PE X (.BinOp a op b pos) (up (Cx.ky X) (dOp f ta tb)) :=
  PE.imp (pe_op ho ha hb) fun _ _ _ h => up_op h
theorem de_cmp {op : CmpOp} {f : F2} (ho : OpR X (compareOp op) (upO (Cx.ky X) f)) (ha : PE X a (up (Cx.ky X) ta)) (hb : PE X b (up (Cx.ky X) tb)) (hm : behindInMarks op b = false := by first | exact nomark _ | rfl) : PE X (.Compare a [op] [b] pos) (up (Cx.ky X) (dOp f ta tb)) :=
  PE.imp (pe_cmpR ho ha hb hm) fun _ _ _ h => up_op h
theorem up_un {κ : Ky} {f : F1} {σ : Sg} {H : Hp} {Q : VK} (h : up κ (dUn f ta) σ H Q) : tUn (upU κ f) (up κ ta) σ H Q := by
  obtain ⟨δ, R, c, L, es, h, k⟩ := h
  refine ⟨δ, _, c, L, es, h, fun v H1 d x1 r1 h1 => ?_⟩
  exact ⟨d, R, _, (es.on x1).dom, r1, h1, fun z H3 r x3 q1 q2 => k z H3 r (x1.trans x3) q1 q2⟩
theorem de_un {op : UnaryOp} {f : F1} (ho : UnR X (unaryOp op) (upU (Cx.ky X) f)) (ha : PE X a (up (Cx.ky X) ta)) : PE X (.UnaryOp op a pos) (up (Cx.ky X) (dUn f ta)) := PE.imp (pe_un ho ha) fun _ _ _ h => up_un h
theorem da_nil : PA X [] (upA (Cx.ky X) dNil) := PA.imp pa_nil fun _ H _ ⟨δ, R, c, L, es, h, k⟩ => k [] H [] (Ext.refl _) rfl h
theorem da_cons (ha : PE X a (up (Cx.ky X) ta)) (h : PA X es (upA (Cx.ky X) t)) (hs : starEach (a :: es) X.env = (false, eval a X.env) :: starEach es X.env := by rfl) : PA X (a :: es) (upA (Cx.ky X) (dCons ta t)) := by
  refine PA.imp (pa_cons ha h hs) fun σ H Q ⟨δ, R, c, L, es, h, k⟩ => ?_
  refine ⟨δ, _, c, L, es, h, fun v H1 d x1 r1 h1 => ⟨δ, _, c, L, es.on x1, h1, fun us H2 ds x2 r2 h2 => ?_⟩⟩
  exact k _ H2 (d :: ds) (x1.trans x2) ⟨v, us, rfl, r1.ext (x2.hide _), r2⟩ h2
end
end MR

/-! Tests, calls, statements, loops, comprehensions by data. -/
namespace MR
open PySem PySem.Spec PyProof.Rows L2

/-! ### data by its kind -/
def asB (d : DV) (K : Bool → Prop) : Prop := match d with
  | .p (.bool b) => K b
  | _ => False
def asI (d : DV) (K : Int → Prop) : Prop := match d with
  | .p (.int i) => K i
  | _ => False
def asS (d : DV) (K : Str → Prop) : Prop := match d with
  | .p (.str x) => K x
  | _ => False
def asL (d : DV) (K : List PyData → Prop) : Prop := match d with
  | .p (.list x) => K x
  | _ => False
def asU (d : DV) (K : List PyData → Prop) : Prop := match d with
  | .p (.tuple x) => K x
  | _ => False
def asP (d : DV) (K : PyData → Prop) : Prop := match d with
  | .p x => K x
  | _ => False
theorem asB_of {d : DV} {K : Bool → Prop} (h : asB d K) : ∃ b, d = .p (.bool b) ∧ K b := by
  cases d with
  | p x => cases x with
    | bool b => exact ⟨b, rfl, h⟩
    | _ => exact h.elim
  | _ => exact h.elim
theorem asI_of {d : DV} {K : Int → Prop} (h : asI d K) : ∃ b, d = .p (.int b) ∧ K b := by
  cases d with
  | p x => cases x with
    | int b => exact ⟨b, rfl, h⟩
    | _ => exact h.elim
  | _ => exact h.elim
theorem asS_of {d : DV} {K : Str → Prop} (h : asS d K) : ∃ b, d = .p (.str b) ∧ K b := by
  cases d with
  | p x => cases x with
    | str b => exact ⟨b, rfl, h⟩
    | _ => exact h.elim
  | _ => exact h.elim
theorem asL_of {d : DV} {K : List PyData → Prop} (h : asL d K) : ∃ b, d = .p (.list b) ∧ K b := by
  cases d with
  | p x => cases x with
    | list b => exact ⟨b, rfl, h⟩
    | _ => exact h.elim
  | _ => exact h.elim
theorem asU_of {d : DV} {K : List PyData → Prop} (h : asU d K) : ∃ b, d = .p (.tuple b) ∧ K b := by
  cases d with
  | p x => cases x with
    | tuple b => exact ⟨b, rfl, h⟩
    | _ => exact h.elim
  | _ => exact h.elim
theorem asP_of {d : DV} {K : PyData → Prop} (h : asP d K) : ∃ b, d = .p b ∧ K b := by
  cases d with
  | p x => exact ⟨x, rfl, h⟩
  | _ => exact h.elim

/-! ### tests -/
def dB (t : TD) : TB := fun δ R => t δ fun d => asB d R
def dNotT (t : TB) : TB := fun δ R => t δ fun b => R (!b)
def dAndT (t u : TB) : TB := fun δ R => t δ fun b => if b = true then u δ R else R false
def dOrT (t u : TB) : TB := fun δ R => t δ fun b => if b = true then R true else u δ R
def dNot (t : TD) : TD := fun δ R => t δ fun d => asB d fun b => R (.p (.bool (!b)))
def dAnd (t u : TD) : TD := fun δ R => t δ fun d => asB d fun b => if b = true then u δ R else R (.p (.bool false))
def dOr (t u : TD) : TD := fun δ R => t δ fun d => asB d fun b => if b = true then R (.p (.bool true)) else u δ R
def dIf (c : TB) (t u : TD) : TD := fun δ R => c δ fun b => if b = true then t δ R else u δ R
def dChain (f f' : F2) (ta tb tc : TD) : TD := fun δ R => ta δ fun d => tb δ fun e => f d e fun z => asB z fun b => if b = true then tc δ fun g => f' e g R else R (.p (.bool false))
section
variable {X : Cx} {a b c : Expr} {rest : List Expr} {ta tb tc : TD} {u w : TB} {pos : Pos}
theorem dt_val {e : Expr} {t : TD} (h : PE X e (up (Cx.ky X) t)) (he : ∀ whole, isTrue e X.env whole = (do let v ← whole; standAt e.pos; holding [v] (truthy v)) := by intro _; rfl) : PT X e (upT (Cx.ky X) (dB t)) := by
  refine PT.imp (pt_val h he) fun σ H Q ⟨δ, R, c, L, es, h, k⟩ => ⟨δ, _, c, L, es, h, fun v H1 d x1 r1 h1 => ?_⟩
  obtain ⟨b, rfl, h2⟩ := asB_of h1
  exact ⟨b, r1, k b H1 x1 h2⟩
theorem dt_cmp {op : CmpOp} {f : F2} (ho : OpR X (compareOp op) (upO (Cx.ky X) f)) (ha : PE X a (up (Cx.ky X) ta)) (hb : PE X b (up (Cx.ky X) tb)) (hm : behindInMarks op b = false := by first | exact nomark _ | rfl) : PT X (.Compare a [op] [b] pos) (upT (Cx.ky X) (dB (dOp f ta tb))) := by
  refine PT.imp (pt_cmpR ho ha hb hm) fun σ H Q ⟨δ, R, c, L, es, h, k⟩ => ?_
  refine ⟨δ, _, c, L, es, h, fun v H1 d x1 r1 h1 => ⟨δ, _, c, L, es.on x1, h1, fun u H2 e x2 r2 h2 => ?_⟩⟩
  refine ⟨d, e, _, _, (es.on (x1.trans x2)).dom, r1.ext (x2.hide _), r2, h2, fun z H3 r x3 q1 q2 => ?_⟩
  obtain ⟨b, rfl, h3⟩ := asB_of q2
  exact ⟨b, q1, k b H3 (x1.trans (x2.trans x3)) h3⟩
theorem dt_not (ha : PT X a (upT (Cx.ky X) u)) : PT X (.UnaryOp .Not a pos) (upT (Cx.ky X) (dNotT u)) :=
  PT.imp (pt_not ha) fun σ H Q ⟨δ, R, c, L, es, h, k⟩ => ⟨δ, _, c, L, es, h, fun b H1 x1 h1 => k (!b) H1 x1 h1⟩
theorem dw_and1 (ha : PT X a (upT (Cx.ky X) u)) : PW X (.BoolOp .And [a] pos) (upT (Cx.ky X) u) := pw_and1 ha
theorem dw_or1 (ha : PT X a (upT (Cx.ky X) u)) : PW X (.BoolOp .Or [a] pos) (upT (Cx.ky X) u) := pw_or1 ha
theorem dw_and (ha : PT X a (upT (Cx.ky X) u)) (hb : PW X (.BoolOp .And (b :: rest) pos) (upT (Cx.ky X) w)) : PW X (.BoolOp .And (a :: b :: rest) pos) (upT (Cx.ky X) (dAndT u w)) := by
  refine PW.imp (pw_and ha hb) fun σ H Q ⟨δ, R, c, L, es, h, k⟩ => ⟨δ, _, c, L, es, h, fun b H1 x1 h1 => ?_⟩
  cases b with
  | true => exact ⟨δ, R, c, L, es.on x1, h1, fun b H2 x2 h2 => k b H2 (x1.trans x2) h2⟩
  | false => exact k false H1 x1 h1
theorem dw_or (ha : PT X a (upT (Cx.ky X) u)) (hb : PW X (.BoolOp .Or (b :: rest) pos) (upT (Cx.ky X) w)) : PW X (.BoolOp .Or (a :: b :: rest) pos) (upT (Cx.ky X) (dOrT u w)) := by
  refine PW.imp (pw_or ha hb) fun σ H Q ⟨δ, R, c, L, es, h, k⟩ => ⟨δ, _, c, L, es, h, fun b H1 x1 h1 => ?_⟩
  cases b with
  | false => exact ⟨δ, R, c, L, es.on x1, h1, fun b H2 x2 h2 => k b H2 (x1.trans x2) h2⟩
  | true => exact k true H1 x1 h1
theorem de_one {op} {t : TD} (h : PE X a (up (Cx.ky X) t)) : PE X (.BoolOp op [a] pos) (up (Cx.ky X) t) := pe_one h
theorem de_and (ha : PE X a (up (Cx.ky X) ta)) (hb : PE X (.BoolOp .And (b :: rest) pos) (up (Cx.ky X) tb)) : PE X (.BoolOp .And (a :: b :: rest) pos) (up (Cx.ky X) (dAnd ta tb)) := by
  refine PE.imp (pe_and ha hb) fun σ H Q ⟨δ, R, c, L, es, h, k⟩ => ⟨δ, _, c, L, es, h, fun v H1 d x1 r1 h1 => ?_⟩
  obtain ⟨b, rfl, h2⟩ := asB_of h1
  cases b with
  | true => exact ⟨true, r1, ⟨δ, R, c, L, es.on x1, h2, fun u H2 e x2 r2 h2 => k u H2 e (x1.trans x2) r2 h2⟩⟩
  | false => exact ⟨false, r1, k (.bl false) H1 (.p (.bool false)) x1 rfl h2⟩
theorem de_or (ha : PE X a (up (Cx.ky X) ta)) (hb : PE X (.BoolOp .Or (b :: rest) pos) (up (Cx.ky X) tb)) : PE X (.BoolOp .Or (a :: b :: rest) pos) (up (Cx.ky X) (dOr ta tb)) := by
  refine PE.imp (pe_or ha hb) fun σ H Q ⟨δ, R, c, L, es, h, k⟩ => ⟨δ, _, c, L, es, h, fun v H1 d x1 r1 h1 => ?_⟩
  obtain ⟨b, rfl, h2⟩ := asB_of h1
  cases b with
  | false => exact ⟨false, r1, ⟨δ, R, c, L, es.on x1, h2, fun u H2 e x2 r2 h2 => k u H2 e (x1.trans x2) r2 h2⟩⟩
  | true => exact ⟨true, r1, k (.bl true) H1 (.p (.bool true)) x1 rfl h2⟩
theorem de_not (ha : PE X a (up (Cx.ky X) ta)) : PE X (.UnaryOp .Not a pos) (up (Cx.ky X) (dNot ta)) := by
  refine PE.imp (pe_not ha) fun σ H Q ⟨δ, R, c, L, es, h, k⟩ => ⟨δ, _, c, L, es, h, fun v H1 d x1 r1 h1 => ?_⟩
  obtain ⟨b, rfl, h2⟩ := asB_of h1
  exact ⟨b, r1, k (.bl (!b)) H1 (.p (.bool (!b))) x1 rfl h2⟩
theorem de_if (hc : PT X c (upT (Cx.ky X) u)) (ha : PE X a (up (Cx.ky X) ta)) (hb : PE X b (up (Cx.ky X) tb)) : PE X (.IfExp c a b pos) (up (Cx.ky X) (dIf u ta tb)) := by
  refine PE.imp (pe_ifExp hc ha hb) fun σ H Q ⟨δ, R, c, L, es, h, k⟩ => ⟨δ, _, c, L, es, h, fun b H1 x1 h1 => ?_⟩
  cases b with
  | true => exact ⟨δ, R, c, L, es.on x1, h1, fun u H2 e x2 r2 h2 => k u H2 e (x1.trans x2) r2 h2⟩
  | false => exact ⟨δ, R, c, L, es.on x1, h1, fun u H2 e x2 r2 h2 => k u H2 e (x1.trans x2) r2 h2⟩
theorem de_chain {op op' : CmpOp} {f f' : F2} (ho : OpR X (compareOp op) (upO (Cx.ky X) f)) (ho' : OpR X (compareOp op') (upO (Cx.ky X) f')) (ha : PE X a (up (Cx.ky X) ta)) (hb : PE X b (up (Cx.ky X) tb)) (hc : PE X c (up (Cx.ky X) tc)) (hm : lastMarks [op, op'] [b, c] = false := by with_unfolding_all rfl) :
    PE X (.Compare a [op, op'] [b, c] pos) (up (Cx.ky X) (dChain f f' ta tb tc)) := by
  refine PE.imp (pe_chain ho ho' ha hb hc hm) fun σ H Q ⟨δ, R, c, L, es, h, k⟩ => ?_
  refine ⟨δ, _, c, L, es, h, fun v H1 d x1 r1 h1 => ⟨δ, _, c, L, es.on x1, h1, fun u H2 e x2 r2 h2 => ?_⟩⟩
  refine ⟨d, e, _, _, (es.on (x1.trans x2)).dom, r1.ext (x2.hide _), r2, h2, fun z H3 r x3 q1 q2 => ?_⟩
  obtain ⟨b, rfl, q3⟩ := asB_of q2
  cases b with
  | true =>
    refine ⟨true, q1, ⟨δ, _, c, L, es.on (x1.trans (x2.trans x3)), q3, fun y H4 g x4 r4 h4 => ?_⟩⟩
    exact ⟨e, g, R, _, (es.on (x1.trans (x2.trans (x3.trans x4)))).dom, r2.ext ((x3.trans x4).hide _), r4, h4, fun z' H5 r' x5 q5 q6 => k z' H5 r' (x1.trans (x2.trans (x3.trans (x4.trans x5)))) q5 q6⟩
  | false => exact ⟨false, q1, k (.bl false) H3 (.p (.bool false)) (x1.trans (x2.trans x3)) rfl q3⟩
end

/-! ### promises that hold where no text of an object is being written (repr asks that) -/
structure FnG (P : Program) (w : World) (K : PySem.W.Frag) (mg : Str → Option Value) (base : Heap) (CX : CXT) (k : Nat) (f : Addr) (fd : FuncData) (ps : List Str) (sp : Sp) : Prop where
  len : ∀ vs H Q E, sp vs H Q E → vs.length = ps.length
  go : ∀ (A : Around), A.guards = some [] → ∀ (outer : List PySem.Env) (s : Shared) (H : Hp) (args : Args) (us : List Value) (vs : List V) (Q : VK) (E : XK),
    Room k A → Env0 P w K mg base A outer s H → BindsTo s fd args (ps.zip us) → Vals vs us → sp vs H Q E → codeAny (model P w) A (.call (.ref f) args) (CR CX outer P w H s Q E) s
section
variable {P : Program} {w : World} {K : PySem.W.Frag} {mg : Str → Option Value} {base : Heap} {CX : CXT} {j k : Nat} {f : Addr} {fd : FuncData} {ps : List Str} {sp sp' : Sp}
theorem FnG.of (F : FnOk P w K mg base CX k f fd ps sp) : FnG P w K mg base CX k f fd ps sp := ⟨F.len, fun A _ => F.run A⟩
theorem FnG.mono (F : FnG P w K mg base CX j f fd ps sp) (h : j ≤ k) : FnG P w K mg base CX k f fd ps sp := ⟨F.len, fun A g o s H a us vs Q E r => F.go A g o s H a us vs Q E (r.mono h)⟩
theorem FnG.imp (F : FnG P w K mg base CX k f fd ps sp) (h : ∀ vs H Q E, sp' vs H Q E → sp vs H Q E) : FnG P w K mg base CX k f fd ps sp' :=
  ⟨fun vs H Q E q => F.len vs H Q E (h vs H Q E q), fun A g o s H a us vs Q E r e b v q => F.go A g o s H a us vs Q E r e b v (h vs H Q E q)⟩
end
section
variable {X : Cx} {CX : CXT} {k : Nat} {f : Addr} {fd : FuncData} {ps : List Str} {sp : Sp} {dvs : List V} {ds : List Value} {E : XK} {x : Str} {p pos : Pos} {e : Expr} {es : List Expr} {t : TA}
/-- such a def is called -/
theorem goes {pins : List (Addr × Obj)} {σ : Sg} {H : Hp} {s : Shared} {Q : VK} {us : List Value} {vs : List V} (F : FnG X.prog X.w X.K X.mg X.base CX k f fd ps sp) (gd : X.A.guards = some []) (room : Room k X.A) (hb : L2.Binds X.K fd ps ds) (hd : Vals dvs ds) (hx : Passes CX X E)
    (I : Inv X pins σ H s) (rel : Vals vs us) (h : sp (vs ++ dvs) H Q E) : wpAny (model X.prog X.w) X.A (call (.ref f) us) (EP X pins σ Q) X.xe s := by
  have rel' : Vals (vs ++ dvs) (us ++ ds) := rel.append hd
  have many : (us ++ ds).length = ps.length := rel'.length.symm.trans (F.len _ _ _ _ h)
  refine wpAny_call (codeAny_mono (F.go X.A gd X.stack s H ⟨us, []⟩ (us ++ ds) (vs ++ dvs) Q E room I.env0 (hb s us I.kIn many) rel' h) fun res s2 q => ?_)
  cases res with
  | error err => exact hx pins σ H s err s2 I q
  | ok fl => cases fl with
    | ret u => exact I.after q
    | next => exact q.elim
    | brk => exact q.elim
    | cont => exact q.elim
theorem pe_callG (F : FnG X.prog X.w X.K X.mg X.base CX k f fd ps sp) (gd : X.A.guards = some []) (room : Room k X.A) (hg : Gl X x) (hm : X.mg x = some (.ref f)) (hk : PySem.W.keepIn X.K (.ref f) = true) (hb : L2.Binds X.K fd ps ds) (hd : Vals dvs ds) (hx : Passes CX X E)
    (ha : PA X (e :: es) t) (hdb : (x == ("__debug__" : Str)) = false := by decide) (he : starEach (e :: es) X.env = (false, eval e X.env) :: starEach es X.env := by rfl) (hpl : (backTo pos (starEach es X.env)).any (·.1) = false := by rfl) :
    PE X (.Call (.Name x p) (e :: es) [] pos) (tCall sp dvs E t) := by
  refine ⟨fun pins s σ H Q I h => wpAny_Call_Name_kw (ld_glob I hg hm ?_ hdb)⟩
  refine PySem.W.callWith_K (h₀ := X.base) I.ok.mod.kin hk (thn (ha.run pos pins s σ H _ I h) fun us s1 ⟨vs, H1, I1, r, q⟩ => ⟨I1.kIn, ?_⟩) he hpl
  exact goes F gd room hb hd hx I1 r q
theorem pe_callG0 (F : FnG X.prog X.w X.K X.mg X.base CX k f fd ps sp) (gd : X.A.guards = some []) (room : Room k X.A) (hg : Gl X x) (hm : X.mg x = some (.ref f)) (hk : PySem.W.keepIn X.K (.ref f) = true) (hb : L2.Binds X.K fd ps ds) (hd : Vals dvs ds) (hx : Passes CX X E)
    (hdb : (x == ("__debug__" : Str)) = false := by decide) : PE X (.Call (.Name x p) [] [] pos) (tCall sp dvs E tNil) :=
  ⟨fun pins s σ H Q I h => wpAny_Call_Name_kw (ld_glob I hg hm (PySem.W.callWith_K0 I.kIn hk (goes (us := []) F gd room hb hd hx I .nil h)) hdb)⟩
end
/-- the rule for a def by its body, such a promise -/
theorem fnG_of {CX : CXT} {P : Program} {w : World} {K : PySem.W.Frag} {mg : Str → Option Value} {base : Heap} {k : Nat} {f : Addr} {fd : FuncData} {x qual : Str} {st : Stmt} {N ps : List Str} {sp : Sp} (F : Fun K x qual st f fd) (S : FnScope N ps (defScope st))
    (len : ∀ vs H Q E, sp vs H Q E → vs.length = ps.length)
    (hbody : ∀ (cdv : Value) (A : Around), A.guards = some [] → ∀ (outer : List PySem.Env) (s : Shared) (H : Hp) (vs : List V) (Q : VK) (E : XK), Room k (A.deeper (envOfC qual (defScope st) s.heap.objs.size f cdv)) → sp vs H Q E →
      ∃ t, PSs (cxOf CX P w K mg base N qual (defScope st) f cdv A outer s H E) (defBody st) t ∧ t { nx := fun _ H' => Q .non H', rt := Q } (L2.start N vs) H) : FnG P w K mg base CX (k + 1) f fd ps sp := by
  obtain ⟨oc, od, kV, doc, pm, an, cdv, ct, osl, rfl, lk, hcd⟩ := F.ex
  refine ⟨len, fun A gd outer s H args us vs Q E room e0 bnd rel hsp => ?_⟩
  have many := len _ _ _ _ hsp
  have inK : K.In s.heap := e0.mod.kin.keeps fun b o q => (e0.bs b o q).1
  have limit : s.heap.NoLimit := e0.mod.nolimit.keeps fun b o q => (e0.bs b o q).1
  have kinds : ∀ y ∈ ps.zip us, (defScope st).names.lookup y.1 = some .local ∨ ((defScope st).names.lookup y.1 = some .cell ∧ ((cellsFrom (s.heap.objs.size + 1) (defScope st).names []).lookup y.1).isSome = true) := fun ⟨n, v⟩ hy =>
    (S.par n (List.of_mem_zip hy).1).imp id fun q => ⟨q, PySem.W.cellsFrom_some _ _ _ (.inl q)⟩
  refine codeAny_call_function room.depth (inK _ _ lk) rfl S.co S.gen rfl (PySem.W.codeRec_of inK hcd) (bnd _ _ _ _ ?_)
  refine wpAny_newFunctionEnv_cells S.kind kinds fun env henv s1 made => ?_
  subst henv
  refine ⟨limit.keeps made.toInCall.keep, codeAny_func ?_⟩
  obtain ⟨t, ht, hq⟩ := hbody cdv A gd outer s H vs Q E (room.deeper _) hsp
  have inv0 : Inv (cxOf CX P w K mg base N qual (defScope st) f cdv A outer s H E) [] (L2.start N vs) H s1 := inv_start S room.hd e0 many rel made
  refine wpAny_mono (ht.run [] s1 (L2.start N vs) H _ inv0 hq) (fun fl s2 hs => ?_) fun _ _ hs => hs
  have ends : ∀ {σ2 : Sg} {H2 : Hp} {v : V} {u : Value}, Inv (cxOf CX P w K mg base N qual (defScope st) f cdv A outer s H E) [] σ2 H2 s2 → RelV v u → Q v H2 → CE outer P w H s Q u s2 :=
    fun {σ2 H2 v u} J rv q => ⟨v, H2, J.os, J.bare, J.base, J.hok, rv, q⟩
  cases fl with
  | ret u =>
    obtain ⟨v, σ2, H2, J, rv, q⟩ := hs
    exact ends J rv q
  | next =>
    obtain ⟨σ2, H2, J, q⟩ := hs
    exact ends (v := V.non) (u := Value.none) J rfl q
  | brk => exact (show False from let ⟨_, _, _, q⟩ := hs; q).elim
  | cont => exact (show False from let ⟨_, _, _, q⟩ := hs; q).elim

/-! ### calls -/
def dCall (f : FL) (t : TL) : TD := fun δ R => t δ fun ds => f ds R
def spD (κ : Ky) (f : FL) : Sp := fun vs H Q _ => upC κ f vs H Q
section
variable {X : Cx} {e : Expr} {es : List Expr} {t : TL} {pos p : Pos} {x : Str}
theorem up_call {κ : Ky} {f : FL} {σ : Sg} {H : Hp} {Q : VK} (h : up κ (dCall f t) σ H Q) : upA κ t σ H fun vs H1 => upC κ f vs H1 Q := by
  obtain ⟨δ, R, c, L, es, h, k⟩ := h
  exact ⟨δ, _, c, L, es, h, fun vs H1 ds x1 r1 h1 => ⟨ds, R, _, (es.on x1).dom, r1, h1, fun v H2 r x2 q1 q2 => k v H2 r (x1.trans x2) q1 q2⟩⟩
theorem de_call {k : Nat} {f : Addr} {fd : FuncData} {ps : List Str} {g : FL} {CX : CXT} {E : XK} (F : FnG X.prog X.w X.K X.mg X.base CX k f fd ps (spD (Cx.ky X) g)) (gd : X.A.guards = some []) (hr : Room k X.A) (hg : Gl X x) (hm : X.mg x = some (.ref f)) (hk : PySem.W.keepIn X.K (.ref f) = true)
    (hb : Binds X.K fd ps []) (hx : Passes CX X E) (ha : PA X (e :: es) (upA (Cx.ky X) t)) (hdb : (x == ("__debug__" : Str)) = false := by decide) (he : starEach (e :: es) X.env = (false, eval e X.env) :: starEach es X.env := by rfl)
    (hpl : (backTo pos (starEach es X.env)).any (·.1) = false := by rfl) : PE X (.Call (.Name x p) (e :: es) [] pos) (up (Cx.ky X) (dCall g t)) := by
  refine PE.imp (pe_callG F gd hr hg hm hk hb .nil hx ha hdb he hpl) fun σ H Q h => ?_
  have q := up_call h
  obtain ⟨δ, R, c, L, es, h1, k1⟩ := q
  refine ⟨δ, R, c, L, es, h1, fun vs H1 ds x1 r1 q1 => ?_⟩
  have q2 := k1 vs H1 ds x1 r1 q1
  show spD (Cx.ky X) g (vs ++ []) H1 Q E
  rw [List.append_nil]
  exact q2
theorem de_callB {id : String} {g : FL} (hc : CallR X (.builtin id) (upC (Cx.ky X) g)) (hg : Gl X x) (hm : X.mg x = none) (hv : bootBuiltins x = some (.builtin id)) (ha : PA X (e :: es) (upA (Cx.ky X) t)) (hn : x ≠ "__name__" := by decide) (hdb : (x == ("__debug__" : Str)) = false := by decide)
    (he : starEach (e :: es) X.env = (false, eval e X.env) :: starEach es X.env := by rfl) (hpl : (backTo pos (starEach es X.env)).any (·.1) = false := by rfl) : PE X (.Call (.Name x p) (e :: es) [] pos) (up (Cx.ky X) (dCall g t)) :=
  PE.imp (pe_callB hc hg hm hv ha hn hdb he hpl) fun _ _ _ h => up_call h
theorem de_callTy {id : String} {g : FL} (hc : CallR X (.type id) (upC (Cx.ky X) g)) (hg : Gl X x) (hm : X.mg x = none) (hv : bootBuiltins x = some (.type id)) (ha : PA X (e :: es) (upA (Cx.ky X) t)) (hn : x ≠ "__name__" := by decide) (hdb : (x == ("__debug__" : Str)) = false := by decide)
    (he : starEach (e :: es) X.env = (false, eval e X.env) :: starEach es X.env := by rfl) (hpl : (backTo pos (starEach es X.env)).any (·.1) = false := by rfl) : PE X (.Call (.Name x p) (e :: es) [] pos) (up (Cx.ky X) (dCall g t)) :=
  PE.imp (pe_callTy hc hg hm hv ha hn hdb he hpl) fun _ _ _ h => up_call h
end

/-! ### statements -/
structure DE where
  nx : Dn → Prop
  rt : DV → Prop
  bk : Dn → Prop := fun _ => False
  ct : Dn → Prop := fun _ => False
abbrev TDS := DE → Dn → Prop
/-- what reaches the ends of the data's reading reaches the program's -/
structure Fin (κ : Ky) (c : Sc) (E : DE) (D : Ends) : Prop where
  nx : ∀ δ σ H L, ES κ c H L δ σ → E.nx δ → D.nx σ H
  rt : ∀ v H d, Ext c.H0 H → Rv κ (hide c.P H) d v → E.rt d → D.rt v H
  bk : ∀ δ σ H L, ES κ c H L δ σ → E.bk δ → D.bk σ H
  ct : ∀ δ σ H L, ES κ c H L δ σ → E.ct δ → D.ct σ H
def upS (κ : Ky) (t : TDS) : TS := fun D σ H => ∃ δ E c L, ES κ c H L δ σ ∧ t E δ ∧ Fin κ c E D
def dSeq (t u : TDS) : TDS := fun E δ => t { E with nx := u E } δ
def dNext : TDS := fun E δ => E.nx δ
def dBreak : TDS := fun E δ => E.bk δ
def dCont : TDS := fun E δ => E.ct δ
def dDrop (t : TD) : TDS := fun E δ => t δ fun _ => E.nx δ
def dRet (t : TD) : TDS := fun E δ => t δ E.rt
def dRetN : TDS := fun E _ => E.rt (.p .none)
def dIfS (c : TB) (t u : TDS) : TDS := fun E δ => c δ fun b => if b = true then t E δ else u E δ
def dSet (i : Nat) (t : TD) : TDS := fun E δ => t δ fun d => E.nx (δ.set i (.v d))
theorem oor_off (P : Addr → Bool) : oor P (fun _ => false) = P := funext fun a => by unfold oor; rw [Bool.or_false]
theorem out_of {P L : Addr → Bool} {H : Hp} {κ : Ky} {d : DV} {v : V} (h : Rv κ (hide (oor P L) H) d v) : Rv κ (hide P H) d v := h.ext (hide_less H fun a z => by unfold oor; rw [z]; rfl)
section
variable {κ : Ky} {c : Sc} {H : Hp} {L : Addr → Bool} {δ : Dn} {σ : Sg}
theorem ES.set (s : ES κ c H L δ σ) {i : Nat} {d : DV} {v : V} (r : Rv κ (hide (oor c.P L) H) d v) : ES κ c H L (δ.set i (.v d)) (σ.set i (some v)) where
  len := by rw [List.length_set, List.length_set]; exact s.len
  val := fun j e h => by
    by_cases hj : j = i
    · subst hj
      have hl : j < δ.length := by
        have := (List.getElem?_eq_some_iff.mp h).1
        rw [List.length_set] at this
        exact this
      rw [List.getElem?_set_self hl] at h
      cases h
      exact ⟨v, List.getElem?_set_self (by rw [← s.len]; exact hl), r⟩
    · rw [List.getElem?_set_ne (Ne.symm hj)] at h
      rw [List.getElem?_set_ne (Ne.symm hj)]
      exact s.val j e h
  own := fun j e h => by
    by_cases hj : j = i
    · subst hj
      have hl : j < δ.length := by
        have := (List.getElem?_eq_some_iff.mp h).1
        rw [List.length_set] at this
        exact this
      rw [List.getElem?_set_self hl] at h
      cases h
    · rw [List.getElem?_set_ne (Ne.symm hj)] at h
      rw [List.getElem?_set_ne (Ne.symm hj)]
      exact s.own j e h
  sep := fun j k ds es a n h1 h2 => by
    have nj : ∀ {j : Nat} {ds : List PyData}, (δ.set i (.v d))[j]? = some (Sl.own ds) → j ≠ i := fun {j ds} h hj => by
      subst hj
      have hl : j < δ.length := by
        have := (List.getElem?_eq_some_iff.mp h).1
        rw [List.length_set] at this
        exact this
      rw [List.getElem?_set_self hl] at h
      cases h
    have n1 := nj h1
    have n2 := nj h2
    rw [List.getElem?_set_ne (Ne.symm n1)] at h1
    rw [List.getElem?_set_ne (Ne.symm n2)] at h2
    rw [List.getElem?_set_ne (Ne.symm n1), List.getElem?_set_ne (Ne.symm n2)]
    exact s.sep j k ds es a n h1 h2
  psys := s.psys
  pdom := s.pdom
  ldom := s.ldom
  ext := s.ext
  kept := s.kept
theorem ES.wipe1 (s : ES κ c H L δ σ) (i : Nat) (o : Option V) : ES κ c H L (δ.set i .un) (σ.set i o) where
  len := by rw [List.length_set, List.length_set]; exact s.len
  val := fun j e h => by
    by_cases hj : j = i
    · subst hj
      have hl : j < δ.length := by
        have := (List.getElem?_eq_some_iff.mp h).1
        rw [List.length_set] at this
        exact this
      rw [List.getElem?_set_self hl] at h
      cases h
    · rw [List.getElem?_set_ne (Ne.symm hj)] at h
      rw [List.getElem?_set_ne (Ne.symm hj)]
      exact s.val j e h
  own := fun j e h => by
    by_cases hj : j = i
    · subst hj
      have hl : j < δ.length := by
        have := (List.getElem?_eq_some_iff.mp h).1
        rw [List.length_set] at this
        exact this
      rw [List.getElem?_set_self hl] at h
      cases h
    · rw [List.getElem?_set_ne (Ne.symm hj)] at h
      rw [List.getElem?_set_ne (Ne.symm hj)]
      exact s.own j e h
  sep := fun j k ds es a n h1 h2 => by
    have nj : ∀ {j : Nat} {ds : List PyData}, (δ.set i Sl.un)[j]? = some (Sl.own ds) → j ≠ i := fun {j ds} h hj => by
      subst hj
      have hl : j < δ.length := by
        have := (List.getElem?_eq_some_iff.mp h).1
        rw [List.length_set] at this
        exact this
      rw [List.getElem?_set_self hl] at h
      cases h
    have n1 := nj h1
    have n2 := nj h2
    rw [List.getElem?_set_ne (Ne.symm n1)] at h1
    rw [List.getElem?_set_ne (Ne.symm n2)] at h2
    rw [List.getElem?_set_ne (Ne.symm n1), List.getElem?_set_ne (Ne.symm n2)]
    exact s.sep j k ds es a n h1 h2
  psys := s.psys
  pdom := s.pdom
  ldom := s.ldom
  ext := s.ext
  kept := s.kept
end
section
variable {X : Cx} {st : Stmt} {rest : List Stmt} {t u : TDS} {e : Expr} {te : TD} {pos : Pos}
theorem dss_nil : PSs X [] (upS (Cx.ky X) dNext) := PSs.imp pss_nil fun D σ H ⟨δ, E, c, L, es, h, f⟩ => f.nx δ σ H L es h
theorem dss_cons (h1 : PS X st (upS (Cx.ky X) t)) (h2 : PSs X rest (upS (Cx.ky X) u)) : PSs X (st :: rest) (upS (Cx.ky X) (dSeq t u)) :=
  PSs.imp (pss_cons h1 h2) fun D σ H ⟨δ, E, c, L, es, h, f⟩ => ⟨δ, _, c, L, es, h, ⟨fun δ' σ' H' L' es' h' => ⟨δ', E, c, L', es', h', f⟩, f.rt, f.bk, f.ct⟩⟩
theorem dss_one (h1 : PS X st (upS (Cx.ky X) t)) : PSs X [st] (upS (Cx.ky X) t) := pss_one h1
theorem ds_pass : PS X (.Pass pos) (upS (Cx.ky X) dNext) := PS.imp ps_pass fun D σ H ⟨δ, E, c, L, es, h, f⟩ => f.nx δ σ H L es h
theorem ds_break : PS X (.Break pos) (upS (Cx.ky X) dBreak) := PS.imp ps_break fun D σ H ⟨δ, E, c, L, es, h, f⟩ => f.bk δ σ H L es h
theorem ds_continue : PS X (.Continue pos) (upS (Cx.ky X) dCont) := PS.imp ps_continue fun D σ H ⟨δ, E, c, L, es, h, f⟩ => f.ct δ σ H L es h
theorem ds_expr (he : PE X e (up (Cx.ky X) te)) (hs : swapsWith e none pos.line X.env = pure false := by rfl) : PS X (.Expr e pos) (upS (Cx.ky X) (dDrop te)) :=
  PS.imp (ps_expr he hs) fun D σ H ⟨δ, E, c, L, es, h, f⟩ => ⟨δ, _, c, L, es, h, fun v H1 d x1 r1 h1 => f.nx δ σ H1 L (es.on x1) h1⟩
theorem ds_ret (he : PE X e (up (Cx.ky X) te)) : PS X (.Return (some e) pos) (upS (Cx.ky X) (dRet te)) :=
  PS.imp (ps_ret he) fun D σ H ⟨δ, E, c, L, es, h, f⟩ => ⟨δ, _, c, L, es, h, fun v H1 d x1 r1 h1 => f.rt v H1 d (es.ext.trans x1) (out_of r1) h1⟩
theorem ds_retN : PS X (.Return none pos) (upS (Cx.ky X) dRetN) :=
  PS.imp ps_retN fun D σ H ⟨δ, E, c, L, es, h, f⟩ => f.rt .non H (.p .none) es.ext rfl h
theorem ds_if {c : Expr} {a b : List Stmt} {tc : TB} (hc : PT X c (upT (Cx.ky X) tc)) (ha : PSs X a (upS (Cx.ky X) t)) (hb : PSs X b (upS (Cx.ky X) u)) : PS X (.If c a b pos) (upS (Cx.ky X) (dIfS tc t u)) := by
  refine PS.imp (ps_if hc ha hb) fun D σ H ⟨δ, E, c, L, es, h, f⟩ => ⟨δ, _, c, L, es, h, fun b H1 x1 h1 => ?_⟩
  cases b with
  | true => exact ⟨δ, E, c, L, es.on x1, h1, f⟩
  | false => exact ⟨δ, E, c, L, es.on x1, h1, f⟩
theorem ds_set {i : Nat} {x : Str} {pos' : Pos} (hN : X.N.Nodup) (hi : X.N[i]? = some x) (hx : Loc X.env.scope x) (he : PE X e (up (Cx.ky X) te)) (hs : swapsWith e (some (.Name x pos')) pos.line X.env = pure false := by rfl) (hf : X.fn x = true ∨ X.env.scope.names.lookup x = some .local := by first | exact .inl rfl | exact .inr rfl | assumption) :
    PS X (.Assign [.Name x pos'] e pos) (upS (Cx.ky X) (dSet i te)) :=
  PS.imp (ps_set hN hi hx he hs hf) fun D σ H ⟨δ, E, c, L, es, h, f⟩ => ⟨δ, _, c, L, es, h, fun v H1 d x1 r1 h1 => f.nx _ _ H1 L ((es.on x1).set r1) h1⟩
end

/-! ### a def -/
def startD (N : List Str) (ds : List DV) : Dn := ds.map .v ++ List.replicate (N.length - ds.length) .un
theorem RvA.get {κ : Ky} {H : Hp} : ∀ {ds : List DV} {vs : List V} {i : Nat} {d : DV}, RvA κ H ds vs → ds[i]? = some d → ∃ v, vs[i]? = some v ∧ Rv κ H d v
  | [], _, _, _, _, e => by cases e
  | _ :: _, _, 0, _, ⟨v, r, q, h, t⟩, e => by
    cases e
    exact ⟨v, by rw [q]; rfl, h⟩
  | _ :: _, _, i + 1, _, ⟨v, r, q, h, t⟩, e => by
    obtain ⟨u, e1, e2⟩ := RvA.get (i := i) t e
    exact ⟨u, by rw [q]; exact e1, e2⟩
theorem es_start {κ : Ky} {N : List Str} {H : Hp} {P : Addr → Bool} {ds : List DV} {vs : List V} (d : Dom P H) (r : RvA κ (hide P H) ds vs) : ES κ ⟨H, P, [], []⟩ H (fun _ => false) (startD N ds) (L2.start N vs) := by
  have hl := r.len
  have noOwn : ∀ (i : Nat) (es : List PyData), (startD N ds)[i]? ≠ some (Sl.own es) := fun i es h => by
    unfold startD at h
    by_cases hi : i < ds.length
    · rw [List.getElem?_append_left (by rw [List.length_map]; exact hi), List.getElem?_map, List.getElem?_eq_getElem hi] at h
      cases h
    · rw [List.getElem?_append_right (by rw [List.length_map]; omega), List.getElem?_replicate] at h
      split at h <;> cases h
  refine ⟨?_, fun i x h => ?_, fun i es h => absurd h (noOwn i es), fun i _ es _ _ _ h => absurd h (noOwn i es), d.1, d.2, fun _ h => Bool.noConfusion h, Ext.refl H, rfl⟩
  · unfold startD L2.start
    rw [List.length_append, List.length_append, List.length_map, List.length_map, List.length_replicate, List.length_replicate, hl]
  · unfold startD at h
    by_cases hi : i < ds.length
    · rw [List.getElem?_append_left (by rw [List.length_map]; exact hi), List.getElem?_map, List.getElem?_eq_getElem hi] at h
      cases h
      obtain ⟨v, e1, e2⟩ := r.get (List.getElem?_eq_getElem hi)
      refine ⟨v, ?_, ?_⟩
      · unfold L2.start
        rw [List.getElem?_append_left (by rw [List.length_map, ← hl]; exact hi), List.getElem?_map, e1]
        rfl
      · show Rv κ (hide (oor P fun _ => false) H) _ v
        rw [oor_off]
        exact e2
    · rw [List.getElem?_append_right (by rw [List.length_map]; omega), List.getElem?_replicate] at h
      split at h <;> cases h
section
variable {P : Program} {w : World} {K : PySem.W.Frag} {mg : Str → Option Value} {base : Heap}
/-- THE RULE for a def whose arguments and answer are data -/
theorem okD {x qual : Str} {st : Stmt} {f : Addr} {fd : FuncData} {N ps : List Str} {k : Nat} {g : FL} {t : TDS} (F : Fun K x qual st f fd) (S : FnScope N ps (defScope st)) (len : ∀ ds R, g ds R → ds.length = ps.length)
    (hb : ∀ (cdv : Value) (A : Around), A.guards = some [] → ∀ (outer : List PySem.Env) (s : Shared) (H : Hp) (E : XK), Room k (A.deeper (envOfC qual (defScope st) s.heap.objs.size f cdv)) → PSs (cxOf CX0 P w K mg base N qual (defScope st) f cdv A outer s H E).nox (defBody st) (upS ⟨K, P, w⟩ t))
    (hr : ∀ ds R, g ds R → t { nx := fun _ => R (.p .none), rt := R } (startD N ds)) : FnG P w K mg base CX0 (k + 1) f fd ps (spD ⟨K, P, w⟩ g) := by
  refine fnG_of F S (fun vs H Q E ⟨ds, R, P, d, r, h, q⟩ => by rw [← r.len]; exact len ds R h) fun cdv A gd outer s H vs Q E room ⟨ds, R, P', d, r, h, q⟩ => ?_
  refine ⟨_, (hb cdv A gd outer s H E room).nox, startD N ds, _, ⟨H, P', [], []⟩, _, es_start d r, hr ds R h, ⟨fun δ σ H' L es h' => ?_, fun v H' d' x r' h' => ?_, fun _ _ _ _ _ z => z.elim, fun _ _ _ _ _ z => z.elim⟩⟩
  · exact q .non H' (.p .none) es.ext rfl h'
  · exact q v H' d' x r' h'
end
end MR

/-! What is walked, targets, for, comprehensions by data. -/
namespace MR
open PySem PySem.Spec PyProof.Rows L2

/-! ### what is walked -/
abbrev TDI := Dn → (List PyData → Prop) → Prop
/-- J walks the data ds, as long as what us hold reads as bs -/
structure ItK (κ : Ky) (J : It) (ds : List PyData) (bs : List DV) (us : List V) : Prop where
  go : ∀ H P' i, Dom P' H → RvA κ (hide P' H) bs us → i < ds.length → J.go i H
  stop : ∀ H P' i, Dom P' H → RvA κ (hide P' H) bs us → ds.length ≤ i → J.stop i H
  yld : ∀ H P' i x H2, Dom P' H → RvA κ (hide P' H) bs us → i < ds.length → J.yld i H x H2 → ∃ y, ds[i]? = some y ∧ Ext H H2 ∧ Rp κ.K (hide P' H2) y x
def upI (κ : Ky) (t : TDI) : TI := fun σ H R => ∃ δ R' c L, ES κ c H L δ σ ∧ t δ R' ∧ ∀ J H' ds bs us, Ext H H' → RvA κ (hide (oor c.P L) H') bs us → ItK κ J ds bs us → R' ds → R J H'
theorem rp_up {K : PySem.W.Frag} {P : Addr → Bool} {H : Hp} {d : PyData} {v : V} (h : Rp K (hide P H) d v) : Rp K H d v := h.ext (hide_ext P H)
theorem itk_list {κ : Ky} {a : Addr} {ds : List PyData} : ItK κ (Itl κ.K a) ds [.p (.list ds)] [.ref a] where
  go := fun H P' i _ r hi => by
    obtain ⟨v, r', e, ⟨a', xs, ev, hq, ha⟩, _⟩ := r
    cases e
    cases ev
    obtain ⟨x, e1, _⟩ := ha.get (List.getElem?_eq_getElem hi)
    exact ⟨xs, x, SqL.of ((hide_ext P' H).lst hq), e1⟩
  stop := fun H P' i _ r hi => by
    obtain ⟨v, r', e, ⟨a', xs, ev, hq, ha⟩, _⟩ := r
    cases e
    cases ev
    exact ⟨xs, SqL.of ((hide_ext P' H).lst hq), by rw [← ha.len]; exact hi⟩
  yld := fun H P' i x H2 _ r hi hy => by
    obtain ⟨v, r', e, ⟨a', xs, ev, hq, ha⟩, _⟩ := r
    cases e
    cases ev
    obtain ⟨rfl, f⟩ := hy
    obtain ⟨y, e1, e2⟩ := ha.back (f xs (SqL.of ((hide_ext P' H2).lst hq)))
    exact ⟨y, e1, Ext.refl _, e2⟩
theorem itk_tup {κ : Ky} {a : Addr} {ds : List PyData} : ItK κ (Itt κ.K a) ds [.p (.tuple ds)] [.ref a] where
  go := fun H P' i _ r hi => by
    obtain ⟨v, r', e, ⟨a', xs, ev, hq, ha⟩, _⟩ := r
    cases e
    cases ev
    obtain ⟨x, e1, _⟩ := ha.get (List.getElem?_eq_getElem hi)
    exact ⟨xs, x, (hide_ext P' H).seqT hq, e1⟩
  stop := fun H P' i _ r hi => by
    obtain ⟨v, r', e, ⟨a', xs, ev, hq, ha⟩, _⟩ := r
    cases e
    cases ev
    exact ⟨xs, (hide_ext P' H).seqT hq, by rw [← ha.len]; exact hi⟩
  yld := fun H P' i x H2 _ r hi hy => by
    obtain ⟨v, r', e, ⟨a', xs, ev, hq, ha⟩, _⟩ := r
    cases e
    cases ev
    obtain ⟨rfl, f⟩ := hy
    obtain ⟨y, e1, e2⟩ := ha.back (f xs ((hide_ext P' H2).seqT hq))
    exact ⟨y, e1, Ext.refl _, e2⟩
/-- lo, lo + 1, .. -/
def rngD (lo : Int) (n : Nat) : List PyData := (List.range n).map fun (k : Nat) => .int (lo + (k : Int))
theorem itk_rng {κ : Ky} {lo : Int} {n : Nat} : ItK κ (Itr lo n) (rngD lo n) [] [] where
  go := fun H P' i _ r hi => by
    unfold rngD at hi
    rw [List.length_map, List.length_range] at hi
    exact hi
  stop := fun H P' i _ r hi => by
    unfold rngD at hi
    rw [List.length_map, List.length_range] at hi
    exact hi
  yld := fun H P' i x H2 _ r hi hy => by
    obtain ⟨rfl, rfl⟩ := hy
    unfold rngD at hi ⊢
    rw [List.length_map, List.length_range] at hi
    exact ⟨.int (lo + i), by rw [List.getElem?_map, List.getElem?_range hi]; rfl, Ext.refl _, rfl⟩
/-- a text's signs, each a text -/
def signsD (x : Str) : List PyData := x.cps.toList.map fun c => .str ⟨#[c]⟩
theorem itk_str {κ : Ky} {x : Str} : ItK κ (Its x) (signsD x) [] [] where
  go := fun H P' i _ r hi => by
    unfold signsD at hi
    rw [List.length_map, Array.length_toList] at hi
    exact hi
  stop := fun H P' i _ r hi => by
    unfold signsD at hi
    rw [List.length_map, Array.length_toList] at hi
    exact hi
  yld := fun H P' i y H2 _ r hi hy => by
    obtain ⟨rfl, c, hc, rfl⟩ := hy
    unfold signsD
    exact ⟨.str ⟨#[c]⟩, by rw [List.getElem?_map, Array.getElem?_toList, hc]; rfl, Ext.refl _, rfl⟩
def dItL (te : TD) : TDI := fun δ R => te δ fun d => asL d R
def dItU (te : TD) : TDI := fun δ R => te δ fun d => asU d R
def dItS (te : TD) : TDI := fun δ R => te δ fun d => asS d fun x => R (signsD x)
def dItR1 (ta : TL) : TDI := fun δ R => ta δ fun ds => ∃ j : Int, ds = [.p (.int j)] ∧ -(2 ^ 62) ≤ j ∧ j < 2 ^ 62 ∧ R (rngD 0 j.toNat)
def dItR2 (ta : TL) : TDI := fun δ R => ta δ fun ds => ∃ i j : Int, ds = [.p (.int i), .p (.int j)] ∧ (-(2 ^ 62) ≤ i ∧ i < 2 ^ 62 ∧ -(2 ^ 62) ≤ j ∧ j < 2 ^ 62) ∧ R (rngD i (j - i).toNat)
theorem rvA1 {κ : Ky} {H : Hp} {d : PyData} {vs : List V} (h : RvA κ H [.p d] vs) : ∃ v, vs = [v] ∧ Rp κ.K H d v := by
  obtain ⟨v, r, e, q, t⟩ := h
  have t' : r = [] := t
  subst t'
  exact ⟨v, e, q⟩
theorem rvA2 {κ : Ky} {H : Hp} {d e : PyData} {vs : List V} (h : RvA κ H [.p d, .p e] vs) : ∃ v u, vs = [v, u] ∧ Rp κ.K H d v ∧ Rp κ.K H e u := by
  obtain ⟨v, r, e1, q, t⟩ := h
  obtain ⟨u, e2, q2⟩ := rvA1 t
  subst e2
  exact ⟨v, u, e1, q, q2⟩
section
variable {X : Cx} {tg e : Expr} {te : TD}
theorem di_list (he : PE X e (up (Cx.ky X) te)) : PI X tg e (upI (Cx.ky X) (dItL te)) := by
  refine PI.imp (pi_list he) fun σ H R ⟨δ, R', c, L, es, h, k⟩ => ⟨δ, _, c, L, es, h, fun v H1 d x1 r1 h1 => ?_⟩
  obtain ⟨ds, rfl, h2⟩ := asL_of h1
  obtain ⟨a, xs, e, q, ra⟩ := id r1
  subst e
  exact ⟨a, rfl, ⟨xs, SqL.of ((hide_ext _ _).lst q)⟩, k _ H1 ds [.p (.list ds)] [.ref a] x1 ⟨_, [], rfl, r1, rfl⟩ itk_list h2⟩
theorem di_tup (he : PE X e (up (Cx.ky X) te)) : PI X tg e (upI (Cx.ky X) (dItU te)) := by
  refine PI.imp (pi_tup he) fun σ H R ⟨δ, R', c, L, es, h, k⟩ => ⟨δ, _, c, L, es, h, fun v H1 d x1 r1 h1 => ?_⟩
  obtain ⟨ds, rfl, h2⟩ := asU_of h1
  obtain ⟨a, xs, e, q, ra⟩ := id r1
  subst e
  exact ⟨a, rfl, ⟨xs, (hide_ext _ _).seqT q⟩, k _ H1 ds [.p (.tuple ds)] [.ref a] x1 ⟨_, [], rfl, r1, rfl⟩ itk_tup h2⟩
theorem di_str (he : PE X e (up (Cx.ky X) te)) : PI X tg e (upI (Cx.ky X) (dItS te)) := by
  refine PI.imp (pi_str he) fun σ H R ⟨δ, R', c, L, es, h, k⟩ => ⟨δ, _, c, L, es, h, fun v H1 d x1 r1 h1 => ?_⟩
  obtain ⟨x, rfl, h2⟩ := asS_of h1
  exact ⟨x, r1, k _ H1 (signsD x) [] [] x1 rfl itk_str h2⟩
theorem di_rng1 {a : Expr} {ta : TL} {p pos : Pos} (hg : Gl X "range") (hm : X.mg "range" = none) (ha : PA X [a] (upA (Cx.ky X) ta)) (hs : starEach [a] X.env = [(false, eval a X.env)] := by rfl) : PI X tg (.Call (.Name "range" p) [a] [] pos) (upI (Cx.ky X) (dItR1 ta)) := by
  refine PI.imp (pi_range1 hg hm ha hs) fun σ H R ⟨δ, R', c, L, es, h, k⟩ => ⟨δ, _, c, L, es, h, fun vs H1 ds x1 r1 h1 => ?_⟩
  obtain ⟨j, rfl, b1, b2, h2⟩ := h1
  obtain ⟨v, rfl, rv⟩ := rvA1 r1
  exact ⟨j, by rw [show v = .int j from rv], b1, b2, k _ H1 (rngD 0 j.toNat) [] [] x1 rfl itk_rng h2⟩
theorem di_rng2 {a b : Expr} {ta : TL} {p pos : Pos} (hg : Gl X "range") (hm : X.mg "range" = none) (ha : PA X [a, b] (upA (Cx.ky X) ta)) (hs : starEach [a, b] X.env = [(false, eval a X.env), (false, eval b X.env)] := by rfl) (hs2 : starEach [b] X.env = [(false, eval b X.env)] := by rfl) :
    PI X tg (.Call (.Name "range" p) [a, b] [] pos) (upI (Cx.ky X) (dItR2 ta)) := by
  refine PI.imp (pi_range2 hg hm ha hs hs2) fun σ H R ⟨δ, R', c, L, es, h, k⟩ => ⟨δ, _, c, L, es, h, fun vs H1 ds x1 r1 h1 => ?_⟩
  obtain ⟨i, j, rfl, b1, h2⟩ := h1
  obtain ⟨v, u, rfl, rv, ru⟩ := rvA2 r1
  exact ⟨i, j, by rw [show v = .int i from rv, show u = .int j from ru], b1, k _ H1 (rngD i (j - i).toNat) [] [] x1 rfl itk_rng h2⟩
end

/-! ### targets -/
abbrev TDG := DV → Dn → (Dn → Prop) → Prop
abbrev TDGs := List PyData → Dn → (Dn → Prop) → Prop
def upG (κ : Ky) (vs : List Nat) (g : TDG) : TG := fun v σ H Q => ∃ d δ N c L, ES κ c H L δ σ ∧ Rv κ (hide (oor c.P L) H) d v ∧ g d δ N ∧ ∀ δ' σ', ES κ c H L δ' σ' → wipe σ' vs = wipe σ vs → N δ' → Q σ' H
def upGs (κ : Ky) (vs : List Nat) (g : TDGs) : TGs := fun us σ H Q => ∃ ds δ N c L, ES κ c H L δ σ ∧ RpA κ.K (hide (oor c.P L) H) ds us ∧ g ds δ N ∧ ∀ δ' σ', ES κ c H L δ' σ' → wipe σ' vs = wipe σ vs → N δ' → Q σ' H
def gdName (i : Nat) : TDG := fun d δ N => N (δ.set i (.v d))
def gdNil : TDGs := fun ds δ N => ds = [] ∧ N δ
def gdCons (g : TDG) (u : TDGs) : TDGs := fun ds δ N => ∃ d r, ds = d :: r ∧ g (.p d) δ fun δ' => u r δ' N
def gdTup (n : Nat) (u : TDGs) : TDG := fun d δ N => asU d fun ds => ds.length = n ∧ u ds δ N
theorem wipe_in {σ : Sg} {o : Option V} {i : Nat} : ∀ {vs : List Nat}, i ∈ vs → wipe (σ.set i o) vs = wipe σ vs
  | [], h => by cases h
  | v :: vs, h => by
    unfold wipe
    by_cases hi : i ∈ vs
    · rw [wipe_in hi]
    · have e : i = v := (List.mem_cons.mp h).resolve_right hi
      subst e
      apply List.ext_getElem?
      intro j
      by_cases hj : j = i
      · subst hj
        by_cases hl : j < σ.length
        · rw [List.getElem?_set_self (by rw [wipe_length, List.length_set]; exact hl), List.getElem?_set_self (by rw [wipe_length]; exact hl)]
        · rw [List.getElem?_eq_none (by rw [List.length_set, wipe_length, List.length_set]; omega), List.getElem?_eq_none (by rw [List.length_set, wipe_length]; omega)]
      · rw [List.getElem?_set_ne (Ne.symm hj), List.getElem?_set_ne (Ne.symm hj)]
        by_cases hm : j ∈ vs
        · have none_at : ∀ (τ : Sg) (ws : List Nat), j ∈ ws → (wipe τ ws)[j]? = (τ[j]?).map fun _ => Option.none := by
            intro τ ws
            induction ws with
            | nil => intro z; cases z
            | cons w ws ih =>
              intro z
              unfold wipe
              by_cases hw : j = w
              · subst hw
                by_cases hl : j < τ.length
                · rw [List.getElem?_set_self (by rw [wipe_length]; exact hl), List.getElem?_eq_getElem hl]
                  rfl
                · rw [List.getElem?_eq_none (by rw [List.length_set, wipe_length]; omega), List.getElem?_eq_none (by omega)]
                  rfl
              · rw [List.getElem?_set_ne (Ne.symm hw)]
                exact ih ((List.mem_cons.mp z).resolve_left hw)
          rw [none_at _ _ hm, none_at _ _ hm, List.getElem?_set_ne (Ne.symm hj)]
        · rw [wipe_out hm, wipe_out hm, List.getElem?_set_ne (Ne.symm hj)]
section
variable {X : Cx} {pos : Pos} {vs : List Nat}
theorem dg_name {i : Nat} {x : Str} (hv : i ∈ vs) (hN : X.N.Nodup) (hi : X.N[i]? = some x) (hx : Loc X.env.scope x) (hf : X.fn x = true ∨ X.env.scope.names.lookup x = some .local := by first | exact .inl rfl | exact .inr rfl | assumption) : PG X (.Name x pos) (upG (Cx.ky X) vs (gdName i)) :=
  ⟨fun pins s σ H v u Q I r ⟨d, δ, N, c, L, es, rv, h, k⟩ => (pg_name hN hi hx hf).run pins s σ H v u Q I r (k _ _ (es.set rv) (wipe_in hv) h)⟩
theorem dgs_nil : PGs X [] (upGs (Cx.ky X) vs gdNil) :=
  ⟨fun pins s σ H us ws Q I r ⟨ds, δ, N, c, L, es, rv, ⟨e, h⟩, k⟩ => pgs_nil.run pins s σ H us ws Q I r ⟨by subst e; exact rv, k δ σ es rfl h⟩⟩
theorem dgs_cons {e : Expr} {es : List Expr} {g : TDG} {u : TDGs} (h1 : PG X e (upG (Cx.ky X) vs g)) (h2 : PGs X es (upGs (Cx.ky X) vs u))
    (hs : (assignEach (e :: es) X.env).map (·.2) = assign e X.env :: (assignEach es X.env).map (·.2) := by rfl) : PGs X (e :: es) (upGs (Cx.ky X) vs (gdCons g u)) := by
  refine ⟨fun pins s σ H us ws Q I r ⟨ds, δ, N, c, L, es, rv, ⟨d, q, e, h⟩, k⟩ => (pgs_cons h1 h2 hs).run pins s σ H us ws Q I r ?_⟩
  subst e
  obtain ⟨v, vr, e1, rd, rq⟩ := rv
  exact ⟨v, vr, e1, ⟨.p d, δ, _, c, L, es, rd, h, fun δ' σ' es' ew h' => ⟨q, δ', N, c, L, es', rq, h', fun δ2 σ2 es2 ew2 h2 => k δ2 σ2 es2 (ew2.trans ew) h2⟩⟩⟩
theorem dg_tup {es : List Expr} {k : Nat} {u : TDGs} {n : Nat} (hc : X.calm = true) (h : PGs X es (upGs (Cx.ky X) vs u))
    (hn : (assignEach es X.env).length = n := by rfl) (hst : (assignEach es X.env).findIdx? (·.1) = none := by rfl) : PG X (.Tuple es k pos) (upG (Cx.ky X) vs (gdTup n u)) := by
  refine ⟨fun pins s σ H v w Q I r ⟨d, δ, N, c, L, es, rv, h1, k1⟩ => (pg_tup hc h hn hst).run pins s σ H v w Q I r ?_⟩
  obtain ⟨ds, rfl, hl, h2⟩ := asU_of h1
  obtain ⟨a, xs, e, q, ra⟩ := rv
  exact ⟨a, xs, e, (hide_ext _ _).seqT q, by rw [← ra.len]; exact hl, ⟨ds, δ, N, c, L, es, ra, h2, k1⟩⟩
def dAsg (t : TD) (g : TDG) : TDS := fun E δ => t δ fun d => g d δ E.nx
theorem ds_asg {tg e : Expr} {te : TD} {g : TDG} (he : PE X e (up (Cx.ky X) te)) (hg : PG X tg (upG (Cx.ky X) vs g)) (hs : swapsWithSole [tg] e pos.line X.env = pure false := by rfl) (hw : swappedStores [tg] e X.env = pure none := by rfl)
    (h1 : (assignEach [tg] X.env).map (·.2) = [assign tg X.env] := by rfl) : PS X (.Assign [tg] e pos) (upS (Cx.ky X) (dAsg te g)) :=
  PS.imp (ps_asg he hg hs hw h1) fun D σ H ⟨δ, E, c, L, es, h, f⟩ => ⟨δ, _, c, L, es, h, fun v H1 d x1 r1 h1 => ⟨d, δ, _, c, L, es.on x1, r1, h1, fun δ' σ' es' _ h' => f.nx δ' σ' H1 L es' h'⟩⟩
end

/-! ### for -/
def forL (E : DE) (g : TDG) (tb : TDS) : List PyData → Dn → Prop
  | [], δ => E.nx δ
  | d :: r, δ => g (.p d) δ fun δ' => tb { E with nx := forL E g tb r, ct := forL E g tb r, bk := E.nx } δ'
def dFor (ti : TDI) (g : TDG) (tb : TDS) : TDS := fun E δ => ti δ fun ds => forL E g tb ds δ
theorem ES.more {κ : Ky} {c : Sc} {H : Hp} {L : Addr → Bool} {δ : Dn} {σ : Sg} {bs : List DV} {us : List V} (s : ES κ c H L δ σ) (r : RvA κ (hide (oor c.P L) H) bs us) : ES κ { c with bs := bs ++ c.bs, us := us ++ c.us } H L δ σ :=
  ⟨s.len, s.val, s.own, s.sep, s.psys, s.pdom, s.ldom, s.ext, RvA.app r s.kept⟩
theorem ES.less {κ : Ky} {c : Sc} {H : Hp} {L : Addr → Bool} {δ : Dn} {σ : Sg} {bs : List DV} {us : List V} (hl : bs.length = us.length) (s : ES κ { c with bs := bs ++ c.bs, us := us ++ c.us } H L δ σ) : ES κ c H L δ σ ∧ RvA κ (hide (oor c.P L) H) bs us :=
  have q := RvA.split hl s.kept
  ⟨⟨s.len, s.val, s.own, s.sep, s.psys, s.pdom, s.ldom, s.ext, q.2⟩, q.1⟩
section
variable {X : Cx} {pos : Pos} {vs : List Nat}
theorem ds_for {tg iter : Expr} {body : List Stmt} {ti : TDI} {g : TDG} {tb : TDS} (hp : PassesOwn (model X.prog X.w) X.A X.env X.xe) (hc : X.calm = true) (hi : PI X tg iter (upI (Cx.ky X) ti)) (hg : PG X tg (upG (Cx.ky X) vs g)) (hb : PSs X body (upS (Cx.ky X) tb))
    (hs : ∀ x, foldedSetIterable iter X.env x = pure x := by intro _; rfl) : PS X (.For tg iter body [] pos) (upS (Cx.ky X) (dFor ti g tb)) := by
  refine PS.imp (ps_for hp hc hi hg hb hs) fun D σ H ⟨δ, E, c, L, es, h, f⟩ => ⟨δ, _, c, L, es, h, fun J H1 ds bs us x1 kb itk h1 => ?_⟩
  have hl := kb.len
  refine ⟨fun i m σ' H' => i + m = ds.length ∧ ∃ δ' L', ES (Cx.ky X) { c with bs := bs ++ c.bs, us := us ++ c.us } H' L' δ' σ' ∧ forL E g tb (ds.drop i) δ', ⟨ds.length, by omega, δ, L, (es.on x1).more kb, h1⟩, fun i m σ' H' ⟨em, δ', L', es', h'⟩ => ?_⟩
  obtain ⟨es2, kb2⟩ := es'.less hl
  by_cases hi' : i < ds.length
  · rw [List.drop_eq_getElem_cons hi'] at h'
    refine .inr ⟨itk.go H' _ i es2.dom kb2 hi', fun σ2 H2 => ∃ δ2 L2, ES (Cx.ky X) { c with bs := bs ++ c.bs, us := us ++ c.us } H2 L2 δ2 σ2 ∧ forL E g tb (ds.drop (i + 1)) δ2, fun σ2 H2 ⟨δ2, L2, e2, q2⟩ => ⟨m - 1, by omega, by omega, δ2, L2, e2, q2⟩, fun x H2 hy => ?_⟩
    obtain ⟨y, ey, x2, ry⟩ := itk.yld H' _ i x H2 es2.dom kb2 hi' hy
    rw [List.getElem?_eq_getElem hi'] at ey
    cases ey
    refine ⟨.p ds[i], δ', _, _, L', es'.on x2, ry, h', fun δ3 σ3 es3 _ h3 => ⟨δ3, _, _, L', es3, h3, ⟨fun δ4 σ4 H4 L4 e4 q4 => ⟨δ4, L4, e4, q4⟩, fun v H4 d x4 r4 q4 => f.rt v H4 d x4 r4 q4, fun δ4 σ4 H4 L4 e4 q4 => f.nx δ4 σ4 H4 L4 (e4.less hl).1 q4, fun δ4 σ4 H4 L4 e4 q4 => ⟨δ4, L4, e4, q4⟩⟩⟩⟩
  · rw [List.drop_eq_nil_of_le (by omega)] at h'
    exact .inl ⟨itk.stop H' _ i es2.dom kb2 (by omega), f.nx δ' σ' H' L' es2 h'⟩
end

/-! ### comprehensions -/
def wipeD (δ : Dn) : List Nat → Dn
  | [] => δ
  | v :: vs => (wipeD δ vs).set v .un
theorem ES.wipe {κ : Ky} {c : Sc} {H : Hp} {L : Addr → Bool} {δ : Dn} {σ : Sg} (s : ES κ c H L δ σ) : ∀ vs : List Nat, ES κ c H L (wipeD δ vs) (L2.wipe σ vs)
  | [] => s
  | v :: vs => (ES.wipe s vs).wipe1 v none
def dYes : TB := fun _ R => R true
def lcL (g : TDG) (tt : TB) (te : TD) (δ : Dn) (fin : List PyData → Prop) : List PyData → List PyData → Prop
  | [], acc => fin acc
  | d :: r, acc => g (.p d) δ fun δ2 => tt δ2 fun b => if b = true then te δ2 fun y => asP y fun z => lcL g tt te δ fin r (acc ++ [z]) else lcL g tt te δ fin r acc
def dLc (ti : TDI) (g : TDG) (tt : TB) (te : TD) (vs : List Nat) : TD := fun δ R => ti δ fun ds => ds.length ≤ sizeLine ∧ lcL g tt te (wipeD δ vs) (fun acc => R (.p (.list acc))) ds []
def plus (L : Addr → Bool) (D : Addr) : Addr → Bool := fun b => L b || decide (b = D)
theorem plus_of {L : Addr → Bool} {D a : Addr} (h : L a = true) : plus L D a = true := by unfold plus; rw [h]; rfl
theorem plus_at {L : Addr → Bool} {D : Addr} : plus L D D = true := by unfold plus; rw [decide_eq_true rfl, Bool.or_true]
theorem plus_ne {L : Addr → Bool} {D a : Addr} (h : a ≠ D) : plus L D a = L a := by unfold plus; rw [decide_eq_false h, Bool.or_false]
theorem oor_plus {P L : Addr → Bool} {D : Addr} : oor P (plus L D) D = true := by unfold oor; rw [plus_at, Bool.or_true]
theorem oor_ne {P L : Addr → Bool} {D a : Addr} (h : a ≠ D) : oor P (plus L D) a = oor P L a := by unfold oor; rw [plus_ne h]
theorem hide_same {P : Addr → Bool} {H : Hp} {a : Addr} {o : HO} (h : P a = true) : hide P (upd H a o) = hide P H := funext fun b => by
  unfold hide
  by_cases hb : b = a
  · rw [hb, h]
    rfl
  · split
    · rfl
    · rw [upd_ne hb]
theorem up_lc {κ : Ky} {ti : TDI} {g : TDG} {tt : TB} {te : TD} {vs : List Nat} {σ : Sg} {H : Hp} {Q : VK} (h : up κ (dLc ti g tt te vs) σ H Q) : tLc (upI κ ti) (upG κ vs g) (upT κ tt) (up κ te) vs σ H Q := by
  obtain ⟨δ, R, c, L, es, h, k⟩ := h
  refine ⟨δ, _, c, L, es, h, fun J H1 ds bs us x1 kb itk ⟨hz, h1⟩ D nD => ?_⟩
  have hl := kb.len
  have LD : L D = false := by
    cases q : L D with
    | false => rfl
    | true => exact absurd nD ((es.on x1).ldom D q).1
  have HD : H D = none := x1.none nD
  have H0D : c.H0 D = none := es.ext.none HD
  have PD : c.P D = false := by
    cases q : c.P D with
    | false => rfl
    | true => exact absurd H0D (es.pdom D q)
  -- the private lists, the new one besides
  have hsub : ∀ a, oor c.P L a = true → oor c.P (plus L D) a = true := fun a q => by
    unfold oor at q ⊢
    rw [Bool.or_eq_true] at q ⊢
    rcases q with q | q
    · exact .inl q
    · exact .inr (plus_of q)
  have xD : Ext (hide (oor c.P L) H1) (hide (oor c.P (plus L D)) (upd H1 D (.lst []))) := fun a o e => by
    unfold hide at e ⊢
    split at e
    · cases e
    · rename_i n
      have ne : a ≠ D := ne_of_none e nD
      rw [oor_ne ne, if_neg n, upd_ne ne]
      exact .inl e
  have ownD : ∀ (i : Nat) (xs : List PyData) (a : Addr), δ[i]? = some (Sl.own xs) → σ[i]? = some (some (V.ref a)) → a ≠ D := fun i xs a e1 e2 e3 => by
    obtain ⟨b, ys, q1, q2, q3, _⟩ := es.own i xs e1
    rw [e2] at q1
    cases q1
    rw [e3] at q2
    rw [q2] at LD
    cases LD
  have fresh : ∀ {Hc : Hp} {o : HO}, ES κ { c with bs := bs ++ c.bs, us := us ++ c.us } Hc (plus L D) δ σ → ES κ { c with bs := bs ++ c.bs, us := us ++ c.us } (upd Hc D o) (plus L D) δ σ := fun {Hc o} s => by
    have eD : oor c.P (plus L D) D = true := oor_plus
    have eh : hide (oor c.P (plus L D)) (upd Hc D o) = hide (oor c.P (plus L D)) Hc := hide_same eD
    refine ⟨s.len, fun i d e => ?_, fun i xs e => ?_, s.sep, s.psys, s.pdom, fun a e => ⟨?_, (s.ldom a e).2⟩, fun a o' e => ?_, ?_⟩
    · show ∃ v, _ ∧ Rv κ (hide (oor c.P (plus L D)) (upd Hc D o)) d v
      rw [eh]
      exact s.val i d e
    · obtain ⟨a, ys, q1, q2, q3, q4⟩ := s.own i xs e
      refine ⟨a, ys, q1, q2, by rw [upd_ne (ownD i xs a e q1)]; exact q3, ?_⟩
      show RpA κ.K (hide (oor c.P (plus L D)) (upd Hc D o)) xs ys
      rw [eh]
      exact q4
    · by_cases ha : a = D
      · rw [ha, upd_same]
        exact Option.some_ne_none _
      · rw [upd_ne ha]
        exact (s.ldom a e).1
    · rw [upd_ne (ne_of_none e H0D)]
      exact s.ext a o' e
    · show RvA κ (hide (oor c.P (plus L D)) (upd Hc D o)) _ _
      rw [eh]
      exact s.kept
  have s0 : ES κ { c with bs := bs ++ c.bs, us := us ++ c.us } (upd H1 D (.lst [])) (plus L D) δ σ := by
    have s := (es.on x1).more kb
    refine ⟨s.len, fun i d e => ?_, fun i xs e => ?_, s.sep, s.psys, s.pdom, fun a e => ?_, s.ext.trans (Ext.new nD), s.kept.ext xD⟩
    · obtain ⟨v, q1, q2⟩ := s.val i d e
      exact ⟨v, q1, q2.ext xD⟩
    · obtain ⟨a, ys, q1, q2, q3, q4⟩ := s.own i xs e
      exact ⟨a, ys, q1, plus_of q2, by rw [upd_ne (ownD i xs a e q1)]; exact q3, q4.ext xD⟩
    · by_cases ha : a = D
      · rw [ha, upd_same]
        exact ⟨Option.some_ne_none _, H0D⟩
      · rw [plus_ne ha] at e
        rw [upd_ne ha]
        exact s.ldom a e
  refine ⟨fun i m Hc => i + m = ds.length ∧ ∃ accD acc, ES κ { c with bs := bs ++ c.bs, us := us ++ c.us } Hc (plus L D) δ σ ∧ Ext H Hc ∧ Hc D = some (.lst acc) ∧ RpA κ.K (hide (oor c.P (plus L D)) Hc) accD acc ∧ accD.length ≤ i ∧ lcL g tt te (wipeD δ vs) (fun acc => R (.p (.list acc))) (ds.drop i) accD,
    ⟨ds.length, by omega, [], [], s0, x1.trans (Ext.new nD), upd_same, rfl, Nat.le_refl 0, h1⟩, fun i m Hc ⟨em, accD, acc, s, xc, eD, ra, hlen, hh⟩ => ?_⟩
  obtain ⟨s2, kb2⟩ := s.less hl
  by_cases hi : i < ds.length
  · rw [List.drop_eq_getElem_cons hi] at hh
    refine .inr ⟨itk.go Hc _ i s2.dom kb2 hi, fun H' => ∃ accD acc, ES κ { c with bs := bs ++ c.bs, us := us ++ c.us } H' (plus L D) δ σ ∧ Ext H H' ∧ H' D = some (.lst acc) ∧ RpA κ.K (hide (oor c.P (plus L D)) H') accD acc ∧ accD.length ≤ i + 1 ∧ lcL g tt te (wipeD δ vs) (fun acc => R (.p (.list acc))) (ds.drop (i + 1)) accD,
      fun H' ⟨accD, acc, a1, a2, a3, a4, a5, a6⟩ => ⟨m - 1, by omega, by omega, accD, acc, a1, a2, a3, a4, a5, a6⟩, fun x H2 hy => ?_⟩
    obtain ⟨y, ey, x2, ry⟩ := itk.yld Hc _ i x H2 s2.dom kb2 hi hy
    rw [List.getElem?_eq_getElem hi] at ey
    cases ey
    refine ⟨.p ds[i], wipeD δ vs, _, _, _, (s.on x2).wipe vs, ry, hh, fun δ3 σ3 s3 ew h3 => ⟨?_, ⟨δ3, _, _, _, s3, h3, fun b H3 x3 h4 => ?_⟩⟩⟩
    · rw [ew]
      apply List.ext_getElem?
      intro j
      have two : ∀ (ws : List Nat) (τ : Sg), (∀ v ∈ ws, v ∈ vs) → L2.wipe (L2.wipe τ vs) ws = L2.wipe τ vs := by
        intro ws
        induction ws with
        | nil => intro τ _; rfl
        | cons w ws ih =>
          intro τ hw
          show (L2.wipe (L2.wipe τ vs) ws).set w none = L2.wipe τ vs
          rw [ih τ fun v hv => hw v (List.mem_cons_of_mem _ hv)]
          have hwv := hw w List.mem_cons_self
          apply List.ext_getElem?
          intro j
          by_cases hj : j = w
          · subst hj
            by_cases hlt : j < τ.length
            · rw [List.getElem?_set_self (by rw [wipe_length]; exact hlt), List.getElem?_eq_getElem (by rw [wipe_length]; exact hlt)]
              cases e : (L2.wipe τ vs)[j]'(by rw [wipe_length]; exact hlt) with
              | none => rfl
              | some v =>
                have q := wipe_some (σ := τ) (vs := vs) (i := j) (x := v) (by rw [List.getElem?_eq_getElem (by rw [wipe_length]; exact hlt), e])
                exact absurd hwv q.2
            · rw [List.getElem?_eq_none (by rw [List.length_set, wipe_length]; omega), List.getElem?_eq_none (by rw [wipe_length]; omega)]
          · rw [List.getElem?_set_ne (Ne.symm hj)]
      rw [two vs σ fun _ h => h]
    · have done : ∀ {H' : Hp}, Ext H2 H' → lcL g tt te (wipeD δ vs) (fun acc => R (.p (.list acc))) (ds.drop (i + 1)) accD → ∃ accD acc, ES κ { c with bs := bs ++ c.bs, us := us ++ c.us } H' (plus L D) δ σ ∧ Ext H H' ∧ H' D = some (.lst acc) ∧ RpA κ.K (hide (oor c.P (plus L D)) H') accD acc ∧ accD.length ≤ i + 1 ∧ lcL g tt te (wipeD δ vs) (fun acc => R (.p (.list acc))) (ds.drop (i + 1)) accD :=
        fun {H'} x h => ⟨accD, acc, s.on (x2.trans x), xc.trans (x2.trans x), (x2.trans x).lst eD, ra.ext ((x2.trans x).hide _), Nat.le_succ_of_le hlen, h⟩
      cases b with
      | false => exact done x3 h4
      | true =>
        show up κ te σ3 H3 _
        refine ⟨δ3, _, _, _, s3.on x3, h4, fun v H4 d x4 r4 h5 => ?_⟩
        obtain ⟨z, rfl, h6⟩ := asP_of h5
        have xx := x2.trans (x3.trans x4)
        refine ⟨acc, xx.lst eD, by rw [← ra.len]; omega, accD ++ [z], acc ++ [v], fresh (s.on xx), fun a o e => ?_, upd_same, ?_, by rw [List.length_append, List.length_singleton]; omega, h6⟩
        · have ne : a ≠ D := ne_of_none e HD
          rw [upd_ne ne]
          exact (xc.trans xx) a o e
        · rw [hide_same oor_plus]
          exact RpA.app (ra.ext (xx.hide _)) ⟨v, [], rfl, r4, rfl⟩
  · rw [List.drop_eq_nil_of_le (by omega)] at hh
    refine .inl ⟨itk.stop Hc _ i s2.dom kb2 (by omega), k (.ref D) Hc (.p (.list accD)) xc ⟨D, acc, rfl, ?_, ra.ext (hide_less Hc hsub)⟩ hh⟩
    rw [hide_at (by unfold oor; rw [PD, LD]; rfl)]
    exact eD
section
variable {X : Cx} {elt tg iter : Expr} {ifs : List Expr} {scope : Scope} {own : List (Str × Nat)} {pos : Pos} {ti : TDI} {g : TDG} {tt : TB} {te : TD}
theorem dts_nil : PTs X [] (upT (Cx.ky X) dYes) := ⟨fun pins s σ H Q I ⟨δ, R, c, L, es, h, k⟩ => pts_nil.run pins s σ H Q I (k true H (Ext.refl H) h)⟩
theorem dts_one {c : Expr} {t : TB} (h : PT X c (upT (Cx.ky X) t)) : PTs X [c] (upT (Cx.ky X) t) := pts_one h
theorem de_lc (hc : X.calm = true) (hN : X.N.Nodup) (hi : PI X tg iter (upI (Cx.ky X) ti)) (ok : BlkOk X.N X.env.scope scope own)
    (hg : ∀ (s : Shared) (H : Hp) (C : Addr) (cl : List (Str × Addr)) (fp : List Addr), PG (X.blk s H scope (compEnvC scope cl C X.env) fp) tg (upG (Cx.ky X) (own.map (·.2)) g)) (ht : ∀ (s : Shared) (H : Hp) (C : Addr) (cl : List (Str × Addr)) (fp : List Addr), PTs (X.blk s H scope (compEnvC scope cl C X.env) fp) ifs (upT (Cx.ky X) tt))
    (he : ∀ (s : Shared) (H : Hp) (C : Addr) (cl : List (Str × Addr)) (fp : List Addr), PE (X.blk s H scope (compEnvC scope cl C X.env) fp) elt (up (Cx.ky X) te)) (hs : ∀ x, foldedSetIterable iter X.env x = pure x := by intro _; rfl) :
    PE X (.ListComp elt [⟨tg, iter, ifs, 0⟩] scope pos) (up (Cx.ky X) (dLc ti g tt te (own.map (·.2)))) := PE.imp (pe_lc hc hN hi ok hg ht he hs) fun _ _ _ h => up_lc h
theorem ds_setLc {i : Nat} {y : Str} {py spos : Pos} (hc : X.calm = true) (hN : X.N.Nodup) (hy : X.N[i]? = some y) (hyl : X.env.scope.names.lookup y = some .local)
    (hsw : swapsWith (.ListComp elt [⟨tg, iter, ifs, 0⟩] scope pos) (some (.Name y py)) spos.line X.env = pure true) (hi : PI X tg iter (upI (Cx.ky X) ti)) (ok : BlkOk X.N X.env.scope scope own)
    (hg : ∀ (s : Shared) (H : Hp) (C : Addr) (cl : List (Str × Addr)) (fp : List Addr), PG (X.blk s H scope (compEnvC scope cl C X.env) fp) tg (upG (Cx.ky X) (own.map (·.2)) g)) (ht : ∀ (s : Shared) (H : Hp) (C : Addr) (cl : List (Str × Addr)) (fp : List Addr), PTs (X.blk s H scope (compEnvC scope cl C X.env) fp) ifs (upT (Cx.ky X) tt))
    (he : ∀ (s : Shared) (H : Hp) (C : Addr) (cl : List (Str × Addr)) (fp : List Addr), PE (X.blk s H scope (compEnvC scope cl C X.env) fp) elt (up (Cx.ky X) te)) (hs : ∀ x, foldedSetIterable iter X.env x = pure x := by intro _; rfl) :
    PS X (.Assign [.Name y py] (.ListComp elt [⟨tg, iter, ifs, 0⟩] scope pos) spos) (upS (Cx.ky X) (dSet i (dLc ti g tt te (own.map (·.2))))) := by
  refine PS.imp (ps_setLc hc hN hy hyl hsw hi ok hg ht he hs) fun D σ H ⟨δ, E, c, L, es, h, f⟩ => ?_
  exact up_lc ⟨δ, _, c, L, es, h, fun v H1 d x1 r1 h1 => f.nx _ _ H1 L ((es.on x1).set r1) h1⟩
end
end MR

/-! Operations, built-ins, subscripts, displays by data. -/
namespace MR
open PySem PySem.Spec PyProof.Rows L2

/-- a new object -/
theorem fresh_at {P : Addr → Bool} {H : Hp} {p : Addr} {o : HO} (d : Dom P H) (h : H p = none) : hide P (upd H p o) p = some o := hide_new d h
theorem new_lst {κ : Ky} {P : Addr → Bool} {H : Hp} {p : Addr} {ds : List PyData} {xs : List V} (d : Dom P H) (h : H p = none) (r : RpA κ.K (hide P H) ds xs) : Rv κ (hide P (upd H p (.lst xs))) (.p (.list ds)) (.ref p) :=
  ⟨p, xs, rfl, fresh_at d h, r.ext ((Ext.new h).hide P)⟩
theorem new_tup {κ : Ky} {P : Addr → Bool} {H : Hp} {p : Addr} {ds : List PyData} {xs : List V} (d : Dom P H) (h : H p = none) (r : RpA κ.K (hide P H) ds xs) : Rv κ (hide P (upd H p (.tup xs))) (.p (.tuple ds)) (.ref p) :=
  ⟨p, xs, rfl, SqT.of (fresh_at d h), r.ext ((Ext.new h).hide P)⟩

/-! ### + -/
def fAdd : F2 := fun d e R => match d, e with
  | .p (.int i), .p (.int j) => R (.p (.int (i + j)))
  | .p (.str x), .p (.str y) => x.length + y.length ≤ sizeLine ∧ R (.p (.str (x ++ y)))
  | .p (.list xs), .p (.list ys) => xs.length + ys.length ≤ sizeLine ∧ R (.p (.list (xs ++ ys)))
  | .p (.tuple xs), .p (.tuple ys) => xs.length + ys.length ≤ sizeLine ∧ R (.p (.tuple (xs ++ ys)))
  | _, _ => False
inductive AddK (R : DV → Prop) : DV → DV → Prop
  | int (i j : Int) (h : R (.p (.int (i + j)))) : AddK R (.p (.int i)) (.p (.int j))
  | str (x y : Str) (z : x.length + y.length ≤ sizeLine) (h : R (.p (.str (x ++ y)))) : AddK R (.p (.str x)) (.p (.str y))
  | lst (x y : List PyData) (z : x.length + y.length ≤ sizeLine) (h : R (.p (.list (x ++ y)))) : AddK R (.p (.list x)) (.p (.list y))
  | tup (x y : List PyData) (z : x.length + y.length ≤ sizeLine) (h : R (.p (.tuple (x ++ y)))) : AddK R (.p (.tuple x)) (.p (.tuple y))
theorem addK {d e : DV} {R : DV → Prop} (h : fAdd d e R) : AddK R d e := by
  cases d with
  | p x => cases e with
    | p y => cases x <;> cases y <;> first
        | exact h.elim
        | exact .int _ _ h
        | exact .str _ _ h.1 h.2
        | exact .lst _ _ h.1 h.2
        | exact .tup _ _ h.1 h.2
    | _ => cases x <;> exact h.elim
  | _ => exact h.elim
section
variable {X : Cx}
theorem od_add : OpR X (binaryOp .Add) (upO (Cx.ky X) fAdd) := by
  intro pins s σ H x y v u Q I rx ry ⟨d, e, R, P, dm, r1, r2, h, k⟩
  cases addK h with
  | int i j hh => exact op_add pins s σ H x y v u Q I rx ry ⟨i, j, r1, r2, k _ H (.p (.int (i + j))) (Ext.refl H) rfl hh⟩
  | str a b z hh => exact op_add_str pins s σ H x y v u Q I rx ry ⟨a, b, r1, r2, z, k _ H (.p (.str (a ++ b))) (Ext.refl H) rfl hh⟩
  | lst a b z hh =>
    obtain ⟨p, xs, rfl, e1, q1⟩ := r1
    obtain ⟨q, ys, rfl, e2, q2⟩ := r2
    exact op_cat pins s σ H _ _ v u Q I rx ry ⟨p, q, xs, ys, rfl, rfl, (hide_ext P H).lst e1, (hide_ext P H).lst e2, by rw [← q1.len, ← q2.len]; exact z, fun n hn => k _ _ (.p (.list (a ++ b))) (Ext.new hn) (new_lst dm hn (q1.app q2)) hh⟩
  | tup a b z hh =>
    obtain ⟨p, xs, rfl, e1, q1⟩ := id r1
    obtain ⟨q, ys, rfl, e2, q2⟩ := id r2
    refine op_catA pins s σ H _ _ v u Q I rx ry ⟨p, q, xs, ys, rfl, rfl, (hide_ext P H).seqT e1, (hide_ext P H).seqT e2, by rw [← q1.len, ← q2.len]; exact z, fun e => ?_, fun _ e => ?_, fun _ _ n hn => k _ _ (.p (.tuple (a ++ b))) (Ext.new hn) (new_tup dm hn (q1.app q2)) hh⟩
    · have ea : a = [] := List.eq_nil_of_length_eq_zero (by rw [q1.len, e]; rfl)
      subst ea
      exact k _ H (.p (.tuple ([] ++ b))) (Ext.refl H) r2 hh
    · have eb : b = [] := List.eq_nil_of_length_eq_zero (by rw [q2.len, e]; rfl)
      subst eb
      exact k _ H (.p (.tuple (a ++ []))) (Ext.refl H) (by rw [List.append_nil]; exact r1) hh
end

/-! ### arithmetic of ints -/
def fI (c : Int → Int → Prop) (g : Int → Int → Int) : F2 := fun d e R => asI d fun i => asI e fun j => c i j ∧ R (.p (.int (g i j)))
section
variable {X : Cx} {κ : Ky}
theorem up_I {c : Int → Int → Prop} {g : Int → Int → Int} {x y : V} {H : Hp} {Q : VK} (h : upO κ (fI c g) x y H Q) : rI c (fun i j => .int (g i j)) x y H Q := by
  obtain ⟨d, e, R, P, dm, r1, r2, h, k⟩ := h
  obtain ⟨i, rfl, h0⟩ := asI_of h
  obtain ⟨j, rfl, h1, h2⟩ := asI_of h0
  exact ⟨i, j, r1, r2, h1, k _ H (.p (.int (g i j))) (Ext.refl H) rfl h2⟩
theorem OpR.imp {f : Value → Value → Sem Value} {r r' : R2} (h : OpR X f r') (q : ∀ x y H Q, r x y H Q → r' x y H Q) : OpR X f r := fun pins s σ H x y v u Q I rx ry z => h pins s σ H x y v u Q I rx ry (q x y H Q z)
theorem od_sub : OpR X (binaryOp .Sub) (upO (Cx.ky X) (fI (fun _ _ => True) fun i j => i - j)) := OpR.imp op_sub fun x y H Q h => by
  obtain ⟨i, j, e1, e2, _, q⟩ := up_I h
  exact ⟨i, j, e1, e2, q⟩
theorem od_mod : OpR X (binaryOp .Mod) (upO (Cx.ky X) (fI (fun _ j => 0 < j) fun i j => i % j)) := OpR.imp op_mod fun x y H Q h => up_I h
theorem od_fdiv : OpR X (binaryOp .FloorDiv) (upO (Cx.ky X) (fI CDivN fun i j => i.fdiv j)) := OpR.imp op_fdivN fun x y H Q h => up_I h
end

/-! ### order -/
def fCmp (p : Int → Int → Bool) (q : Str → Str → Bool) : F2 := fun d e R => match d, e with
  | .p (.int i), .p (.int j) => R (.p (.bool (p i j)))
  | .p (.str x), .p (.str y) => R (.p (.bool (q x y)))
  | _, _ => False
inductive CmpK (p : Int → Int → Bool) (q : Str → Str → Bool) (R : DV → Prop) : DV → DV → Prop
  | int (i j : Int) (h : R (.p (.bool (p i j)))) : CmpK p q R (.p (.int i)) (.p (.int j))
  | str (x y : Str) (h : R (.p (.bool (q x y)))) : CmpK p q R (.p (.str x)) (.p (.str y))
theorem cmpK {p : Int → Int → Bool} {q : Str → Str → Bool} {d e : DV} {R : DV → Prop} (h : fCmp p q d e R) : CmpK p q R d e := by
  cases d with
  | p x => cases e with
    | p y => cases x <;> cases y <;> first
        | exact h.elim
        | exact .int _ _ h
        | exact .str _ _ h
    | _ => cases x <;> exact h.elim
  | _ => exact h.elim
def ltS (x y : Str) : Bool := decide (x.cps.toList < y.cps.toList)
def leS (x y : Str) : Bool := !decide (y.cps.toList < x.cps.toList)
abbrev fLt : F2 := fCmp (fun i j => decide (i < j)) ltS
abbrev fLe : F2 := fCmp (fun i j => decide (i ≤ j)) leS
abbrev fGt : F2 := fCmp (fun i j => decide (j < i)) (fun x y => ltS y x)
abbrev fGe : F2 := fCmp (fun i j => decide (j ≤ i)) (fun x y => leS y x)
section
variable {X : Cx}
theorem od_lt : OpR X (compareOp .Lt) (upO (Cx.ky X) fLt) := by
  intro pins s σ H x y v u Q I rx ry ⟨d, e, R, P, dm, r1, r2, h, k⟩
  cases cmpK h with
  | int i j hh => exact op_lt pins s σ H x y v u Q I rx ry ⟨i, j, r1, r2, k _ H (.p (.bool (decide (i < j)))) (Ext.refl H) rfl hh⟩
  | str i j hh => exact op_lt_str pins s σ H x y v u Q I rx ry ⟨i, j, r1, r2, k _ H (.p (.bool (ltS i j))) (Ext.refl H) rfl hh⟩
theorem od_le : OpR X (compareOp .LtE) (upO (Cx.ky X) fLe) := by
  intro pins s σ H x y v u Q I rx ry ⟨d, e, R, P, dm, r1, r2, h, k⟩
  cases cmpK h with
  | int i j hh => exact op_le pins s σ H x y v u Q I rx ry ⟨i, j, r1, r2, k _ H (.p (.bool (decide (i ≤ j)))) (Ext.refl H) rfl hh⟩
  | str i j hh => exact op_le_str pins s σ H x y v u Q I rx ry ⟨i, j, r1, r2, k _ H (.p (.bool (leS i j))) (Ext.refl H) rfl hh⟩
theorem od_gt : OpR X (compareOp .Gt) (upO (Cx.ky X) fGt) := by
  intro pins s σ H x y v u Q I rx ry ⟨d, e, R, P, dm, r1, r2, h, k⟩
  cases cmpK h with
  | int i j hh => exact op_gt pins s σ H x y v u Q I rx ry ⟨i, j, r1, r2, k _ H (.p (.bool (decide (j < i)))) (Ext.refl H) rfl hh⟩
  | str i j hh => exact op_gt_str pins s σ H x y v u Q I rx ry ⟨i, j, r1, r2, k _ H (.p (.bool (ltS j i))) (Ext.refl H) rfl hh⟩
theorem od_ge : OpR X (compareOp .GtE) (upO (Cx.ky X) fGe) := by
  intro pins s σ H x y v u Q I rx ry ⟨d, e, R, P, dm, r1, r2, h, k⟩
  cases cmpK h with
  | int i j hh => exact op_ge pins s σ H x y v u Q I rx ry ⟨i, j, r1, r2, k _ H (.p (.bool (decide (j ≤ i)))) (Ext.refl H) rfl hh⟩
  | str i j hh => exact op_ge_str pins s σ H x y v u Q I rx ry ⟨i, j, r1, r2, k _ H (.p (.bool (leS j i))) (Ext.refl H) rfl hh⟩
end

/-! ### == -/
mutual
theorem dp_of {K : PySem.W.Frag} {H : Hp} : ∀ {d : PyData} {v : V}, Rp K H d v → d.hasDict = false → Dp K H v d
  | .none, v, h, _ => by rw [show v = .non from h]; exact .non
  | .bool b, v, h, _ => by rw [show v = .bl b from h]; exact .bl b
  | .int i, v, h, _ => by rw [show v = .int i from h]; exact .int i
  | .str x, v, h, _ => by rw [show v = .str x from h]; exact .str x
  | .list ds, _, ⟨a, xs, e, q, r⟩, n => by rw [e]; exact .lst (SqL.of q) (dpA_of r n)
  | .tuple ds, _, ⟨a, xs, e, q, r⟩, n => by rw [e]; exact .tup q (dpA_of r n)
  | .dict _, _, _, n => by cases n
theorem dpA_of {K : PySem.W.Frag} {H : Hp} : ∀ {ds : List PyData} {vs : List V}, RpA K H ds vs → PyData.hasDictAll ds = false → DpAll K H vs ds
  | [], vs, h, _ => by rw [show vs = [] from h]; exact .nil
  | d :: ds, _, ⟨v, r, e, h, t⟩, n => by
    have n' : (PyData.hasDict d || PyData.hasDictAll ds) = false := n
    rw [Bool.or_eq_false_iff] at n'
    rw [e]
    exact .cons (dp_of h n'.1) (dpA_of t n'.2)
end
/-- data that == reads as it is -/
def plain (d : PyData) : Prop := d.hasDict = false ∧ SeqAt.shaped d = true
def fEq : F2 := fun d e R => asP d fun x => asP e fun y => plain x ∧ plain y ∧ R (.p (.bool (PyData.eqv x y)))
def fNe : F2 := fun d e R => asP d fun x => asP e fun y => plain x ∧ plain y ∧ R (.p (.bool (!PyData.eqv x y)))
section
variable {X : Cx}
theorem od_eq (hu : X.A.units + 64 < cLine) : OpR X (compareOp .Eq) (upO (Cx.ky X) fEq) := by
  intro pins s σ H x y v u Q I rx ry ⟨d, e, R, P, dm, r1, r2, h, k⟩
  obtain ⟨a, rfl, h0⟩ := asP_of h
  obtain ⟨b, rfl, h1, h2, h3⟩ := asP_of h0
  exact op_eqD hu pins s σ H x y v u Q I rx ry ⟨a, b, dp_of (rp_up r1) h1.1, dp_of (rp_up r2) h2.1, h1.2, h2.2, k _ H (.p (.bool (PyData.eqv a b))) (Ext.refl H) rfl h3⟩
theorem od_ne (hu : X.A.units + 64 < cLine) : OpR X (compareOp .NotEq) (upO (Cx.ky X) fNe) := by
  intro pins s σ H x y v u Q I rx ry ⟨d, e, R, P, dm, r1, r2, h, k⟩
  obtain ⟨a, rfl, h0⟩ := asP_of h
  obtain ⟨b, rfl, h1, h2, h3⟩ := asP_of h0
  exact op_neD hu pins s σ H x y v u Q I rx ry ⟨a, b, dp_of (rp_up r1) h1.1, dp_of (rp_up r2) h2.1, h1.2, h2.2, k _ H (.p (.bool (!PyData.eqv a b))) (Ext.refl H) rfl h3⟩
end

/-! ### built-ins -/
theorem CallR.imp {X : Cx} {f : Value} {r r' : List V → Hp → VK → Prop} (h : CallR X f r') (q : ∀ xs H Q, r xs H Q → r' xs H Q) : CallR X f r := fun pins s σ H xs us Q I rx z => h pins s σ H xs us Q I rx (q xs H Q z)
def tyD : PyData → String
  | .none => "NoneType" | .bool _ => "bool" | .int _ => "int" | .str _ => "str" | .list _ => "list" | .tuple _ => "tuple" | .dict _ => "dict"
theorem tyx_of {K : PySem.W.Frag} {H : Hp} {d : PyData} {v : V} (h : Rp K H d v) : TyX K H v (.type (tyD d)) := by
  cases d with
  | none => rw [show v = .non from h]; exact .base .non
  | bool b => rw [show v = .bl b from h]; exact .base (.bl b)
  | int i => rw [show v = .int i from h]; exact .base (.int i)
  | str x => rw [show v = .str x from h]; exact .base (.str x)
  | list ds =>
    obtain ⟨a, xs, e, q, _⟩ := h
    rw [e]
    exact .base (.lst q)
  | tuple ds =>
    obtain ⟨a, xs, e, q, _⟩ := h
    rw [e]
    rcases q with (q | ⟨o, q⟩) | ⟨o, its, n, q, c, _⟩
    · exact .base (.tup q)
    · exact .fTuple q
    · exact .kTuple q c
  | dict kvs =>
    obtain ⟨a, es, e, q, _⟩ := h
    rw [e]
    exact .base (.dK q)
def fIsi : FL := fun ds R => ∃ d T b, ds = [.p d, .raw (.ty T)] ∧ kitB (tyD d) T = some b ∧ R (.p (.bool b))
def lenD : PyData → Option Nat
  | .str x => some x.length
  | .list xs => some xs.length
  | .tuple xs => some xs.length
  | _ => none
def fLen : FL := fun ds R => ∃ d n, ds = [.p d] ∧ lenD d = some n ∧ n ≤ sizeLine ∧ R (.p (.int n))
def fAll : FL := fun ds R => ∃ bs : List Bool, ds = [.p (.list (bs.map .bool))] ∧ R (.p (.bool (bs.all id)))
def fAny : FL := fun ds R => ∃ bs : List Bool, ds = [.p (.list (bs.map .bool))] ∧ R (.p (.bool (bs.any id)))
def fOrd : FL := fun ds R => ∃ c : Nat, ds = [.p (.str ⟨#[c]⟩)] ∧ R (.p (.int c))
def fInt : FL := fun ds R => ∃ i : Int, ds = [.p (.int i)] ∧ R (.p (.int i))
def fList : FL := fun ds R => ∃ xs, (ds = [.p (.list xs)] ∨ ds = [.p (.tuple xs)]) ∧ R (.p (.list xs))
def fTuple : FL := fun ds R => ∃ xs, (ds = [.p (.list xs)] ∨ ds = [.p (.tuple xs)]) ∧ R (.p (.tuple xs))
def fMax : FL := fun ds R => ∃ i j : Int, ds = [.p (.int i), .p (.int j)] ∧ R (.p (.int (if j > i then j else i)))
def fMin : FL := fun ds R => ∃ i j : Int, ds = [.p (.int i), .p (.int j)] ∧ R (.p (.int (if j < i then j else i)))
theorem rpA_bools {K : PySem.W.Frag} {H : Hp} : ∀ {bs : List Bool} {vs : List V}, RpA K H (bs.map .bool) vs → vs = bs.map V.bl
  | [], _, h => h
  | b :: bs, _, ⟨v, r, e, h, t⟩ => by rw [e, show v = .bl b from h, rpA_bools t]; rfl
section
variable {X : Cx}
theorem cd_isi : CallR X (.builtin "isinstance") (upC (Cx.ky X) fIsi) := CallR.imp call_isi fun xs H Q ⟨ds, R, P, dm, r, ⟨d, T, b, e, hb, h⟩, k⟩ => by
  subst e
  obtain ⟨v, q, e1, r1, u, q2, e2, r2, r3⟩ := r
  have e3 : q2 = [] := r3
  subst e1 e2 e3
  exact ⟨v, u, _, _, b, rfl, by rw [show u = .ty T from r2]; exact .ty T, tyx_of (rp_up r1), kit_ty hb, k _ H (.p (.bool b)) (Ext.refl H) rfl h⟩
theorem cd_len : CallR X (.builtin "len") (upC (Cx.ky X) fLen) := CallR.imp call_len fun xs H Q ⟨ds, R, P, dm, r, ⟨d, n, e, hn, hz, h⟩, k⟩ => by
  subst e
  obtain ⟨v, rfl, r1⟩ := rvA1 r
  refine ⟨v, n, rfl, ?_, k _ H (.p (.int n)) (Ext.refl H) rfl h⟩
  cases d with
  | str x =>
    cases hn
    rw [show v = .str x from r1]
    exact ⟨hz, rfl⟩
  | list ds =>
    cases hn
    obtain ⟨a, xs, e, q, ra⟩ := r1
    subst e
    exact .inl ⟨xs, SqL.of ((hide_ext P H).lst q), ra.len⟩
  | tuple ds =>
    cases hn
    obtain ⟨a, xs, e, q, ra⟩ := r1
    subst e
    exact .inr ⟨xs, (hide_ext P H).seqT q, ra.len⟩
  | _ => cases hn
theorem cd_all (hc : X.calm = true) : CallR X (.builtin "all") (upC (Cx.ky X) fAll) := CallR.imp (cr_all hc) fun xs H Q ⟨ds, R, P, dm, r, ⟨bs, e, h⟩, k⟩ => by
  subst e
  obtain ⟨v, rfl, a, xs, e, q, ra⟩ := rvA1 r
  subst e
  have e2 := rpA_bools ra
  subst e2
  exact ⟨a, bs, rfl, SqL.of ((hide_ext P H).lst q), k _ H (.p (.bool (bs.all id))) (Ext.refl H) rfl h⟩
theorem cd_any (hc : X.calm = true) : CallR X (.builtin "any") (upC (Cx.ky X) fAny) := CallR.imp (cr_any hc) fun xs H Q ⟨ds, R, P, dm, r, ⟨bs, e, h⟩, k⟩ => by
  subst e
  obtain ⟨v, rfl, a, xs, e, q, ra⟩ := rvA1 r
  subst e
  have e2 := rpA_bools ra
  subst e2
  exact ⟨a, bs, rfl, SqL.of ((hide_ext P H).lst q), k _ H (.p (.bool (bs.any id))) (Ext.refl H) rfl h⟩
theorem cd_ord : CallR X (.builtin "ord") (upC (Cx.ky X) fOrd) := CallR.imp call_ord fun xs H Q ⟨ds, R, P, dm, r, ⟨c, e, h⟩, k⟩ => by
  subst e
  obtain ⟨v, rfl, r1⟩ := rvA1 r
  exact ⟨⟨#[c]⟩, by rw [show v = .str ⟨#[c]⟩ from r1], rfl, k _ H (.p (.int c)) (Ext.refl H) rfl h⟩
theorem cd_int : CallR X (.type "int") (upC (Cx.ky X) fInt) := CallR.imp call_int1 fun xs H Q ⟨ds, R, P, dm, r, ⟨i, e, h⟩, k⟩ => by
  subst e
  obtain ⟨v, rfl, r1⟩ := rvA1 r
  exact .inl ⟨i, by rw [show v = .int i from r1], k _ H (.p (.int i)) (Ext.refl H) rfl h⟩
theorem cd_list : CallR X (.type "list") (upC (Cx.ky X) fList) := CallR.imp call_list_of fun xs H Q ⟨ds, R, P, dm, r, ⟨zs, e, h⟩, k⟩ => by
  rcases e with e | e
  · subst e
    obtain ⟨v, rfl, a, xs, e, q, ra⟩ := rvA1 r
    subst e
    exact ⟨a, xs, rfl, .inl (SqL.of ((hide_ext P H).lst q)), fun l hl => k _ _ (.p (.list zs)) (Ext.new hl) (new_lst dm hl ra) h⟩
  · subst e
    obtain ⟨v, rfl, a, xs, e, q, ra⟩ := rvA1 r
    subst e
    exact ⟨a, xs, rfl, .inr ((hide_ext P H).seqT q), fun l hl => k _ _ (.p (.list zs)) (Ext.new hl) (new_lst dm hl ra) h⟩
theorem cd_tuple : CallR X (.type "tuple") (upC (Cx.ky X) fTuple) := CallR.imp call_tuple_of fun xs H Q ⟨ds, R, P, dm, r, ⟨zs, e, h⟩, k⟩ => by
  rcases e with e | e
  · subst e
    obtain ⟨v, rfl, a, xs, e, q, ra⟩ := rvA1 r
    subst e
    exact ⟨a, xs, rfl, .inl ⟨SqL.of ((hide_ext P H).lst q), fun l hl => k _ _ (.p (.tuple zs)) (Ext.new hl) (new_tup dm hl ra) h⟩⟩
  · subst e
    obtain ⟨v, rfl, r1⟩ := rvA1 r
    obtain ⟨a, xs, e, q, ra⟩ := id r1
    subst e
    exact ⟨a, xs, rfl, .inr ⟨(hide_ext P H).seqT q, k _ H (.p (.tuple zs)) (Ext.refl H) r1 h⟩⟩
theorem cd_max (hc : X.calm = true) : CallR X (.builtin "max") (upC (Cx.ky X) fMax) := CallR.imp (call_max2 hc) fun xs H Q ⟨ds, R, P, dm, r, ⟨i, j, e, h⟩, k⟩ => by
  subst e
  obtain ⟨v, u, rfl, r1, r2⟩ := rvA2 r
  exact ⟨i, j, by rw [show v = .int i from r1, show u = .int j from r2], k _ H (.p (.int (if j > i then j else i))) (Ext.refl H) rfl h⟩
theorem cd_min (hc : X.calm = true) : CallR X (.builtin "min") (upC (Cx.ky X) fMin) := CallR.imp (call_min2 hc) fun xs H Q ⟨ds, R, P, dm, r, ⟨i, j, e, h⟩, k⟩ => by
  subst e
  obtain ⟨v, u, rfl, r1, r2⟩ := rvA2 r
  exact ⟨i, j, by rw [show v = .int i from r1, show u = .int j from r2], k _ H (.p (.int (if j < i then j else i))) (Ext.refl H) rfl h⟩
end

/-! ### subscripts -/
def fIx : F2 := fun d e R => asI e fun i => match d with
  | .p (.list xs) => ∃ y, atI xs i = some y ∧ R (.p y)
  | .p (.tuple xs) => ∃ y, atI xs i = some y ∧ R (.p y)
  | .p (.str x) => x.length ≤ sizeLine ∧ ∃ c, atI x.cps.toList i = some c ∧ R (.p (.str ⟨#[c]⟩))
  | _ => False
theorem atI_get {K : PySem.W.Frag} {H : Hp} {ds : List PyData} {xs : List V} {i : Int} {y : PyData} (r : RpA K H ds xs) (h : atI ds i = some y) : ∃ v, atI xs i = some v ∧ Rp K H y v := by
  unfold atI at h ⊢
  rw [← r.len]
  cases e : ixN ds.length i with
  | none => rw [e] at h; cases h
  | some j =>
    rw [e] at h
    obtain ⟨v, e1, e2⟩ := r.get (show ds[j]? = some y from h)
    exact ⟨v, e1, e2⟩
section
variable {X : Cx}
theorem IxR.imp {r r' : R2} (h : IxR X r') (q : ∀ x y H Q, r x y H Q → r' x y H Q) : IxR X r := fun value slice pins s σ H x y v u Q I rx ry z hs => h value slice pins s σ H x y v u Q I rx ry (q x y H Q z) hs
theorem xd_ix : IxR X (upO (Cx.ky X) fIx) := by
  intro value slice pins s σ H x y v u Q I rx ry ⟨d, e, R, P, dm, r1, r2, h, k⟩ hs
  obtain ⟨i, rfl, h0⟩ := asI_of h
  cases d with
  | p d => cases d with
    | list ds =>
      obtain ⟨z, hz, h1⟩ := h0
      obtain ⟨a, xs, e, q, ra⟩ := r1
      obtain ⟨w, e1, e2⟩ := atI_get ra hz
      exact ix_list value slice pins s σ H x y v u Q I rx ry ⟨a, xs, i, w, e, r2, SqL.of ((hide_ext P H).lst q), e1, k w H (.p z) (Ext.refl H) e2 h1⟩ hs
    | tuple ds =>
      obtain ⟨z, hz, h1⟩ := h0
      obtain ⟨a, xs, e, q, ra⟩ := r1
      obtain ⟨w, e1, e2⟩ := atI_get ra hz
      exact ix_tup value slice pins s σ H x y v u Q I rx ry ⟨a, xs, i, w, e, r2, (hide_ext P H).seqT q, e1, k w H (.p z) (Ext.refl H) e2 h1⟩ hs
    | str z =>
      obtain ⟨hz, c, e1, h1⟩ := h0
      exact ix_str value slice pins s σ H x y v u Q I rx ry ⟨z, i, c, r1, r2, hz, e1, k _ H (.p (.str ⟨#[c]⟩)) (Ext.refl H) rfl h1⟩ hs
    | _ => exact h0.elim
  | _ => exact h0.elim
theorem de_ix {a b : Expr} {ta tb : TD} {pos : Pos} (ha : PE X a (up (Cx.ky X) ta)) (hb : PE X b (up (Cx.ky X) tb)) (hs : PlainIx b := by exact fun _ _ => rfl) : PE X (.Subscript a b pos) (up (Cx.ky X) (dOp fIx ta tb)) :=
  PE.imp (pe_ix xd_ix ha hb hs) fun _ _ _ h => up_op h
end
/-- a part of a slice -/
abbrev TDO := Dn → (Option Int → Prop) → Prop
def upP (κ : Ky) (t : TDO) : TO := fun σ H Q => ∃ δ R c L, ES κ c H L δ σ ∧ t δ R ∧ ∀ o H', Ext H H' → R o → Q o H'
def dNo : TDO := fun _ R => R none
def dPart (t : TD) : TDO := fun δ R => t δ fun d => asI d fun i => R (some i)
def cutD (xs : List PyData) (lo hi : Option Int) : List PyData := (xs.drop (HT.sIx xs.length 0 lo)).take (HT.sIx xs.length xs.length hi - HT.sIx xs.length 0 lo)
def sliceD (d : DV) (lo hi : Option Int) (R : DV → Prop) : Prop := match d with
  | .p (.list xs) => R (.p (.list (cutD xs lo hi)))
  | .p (.tuple xs) => R (.p (.tuple (cutD xs lo hi)))
  | .p (.str x) => x.length ≤ sizeLine ∧ R (.p (.str (cutS x lo hi)))
  | _ => False
def dSl (te : TD) (tl th : TDO) : TD := fun δ R => te δ fun d => tl δ fun lo => th δ fun hi => sliceD d lo hi R
theorem RpA.cut {K : PySem.W.Frag} {H : Hp} {ds : List PyData} {xs : List V} (r : RpA K H ds xs) (lo hi : Option Int) : RpA K H (cutD ds lo hi) (cutV xs lo hi) := by
  unfold cutD cutV
  rw [r.len]
  exact (r.drop _).take _
section
variable {X : Cx}
def upSl (κ : Ky) : V → Option Int → Option Int → Hp → VK → Prop := fun x lo hi H Q => ∃ d R P, Dom P H ∧ Rv κ (hide P H) d x ∧ sliceD d lo hi R ∧ ∀ v H' r, Ext H H' → Rv κ (hide P H') r v → R r → Q v H'
theorem xd_sl : SlR X (upSl (Cx.ky X)) := by
  intro pins s σ H x v vl vu lo hi sl Q I rx hs pl pu ⟨d, R, P, dm, r1, h, k⟩
  cases d with
  | p d => cases d with
    | list ds =>
      obtain ⟨a, xs, e, q, ra⟩ := r1
      exact sl_list pins s σ H x v vl vu lo hi sl Q I rx hs pl pu ⟨a, xs, e, SqL.of ((hide_ext P H).lst q), fun p hp => k _ _ (.p (.list (cutD ds lo hi))) (Ext.new hp) (new_lst dm hp (ra.cut lo hi)) h⟩
    | tuple ds =>
      obtain ⟨a, xs, e, q, ra⟩ := id r1
      refine sl_tupA pins s σ H x v vl vu lo hi sl Q I rx hs pl pu ⟨a, xs, e, (hide_ext P H).seqT q, fun ⟨e1, e2⟩ => ?_, fun _ p hp => k _ _ (.p (.tuple (cutD ds lo hi))) (Ext.new hp) (new_tup dm hp (ra.cut lo hi)) h⟩
      have ec : cutD ds lo hi = ds := by
        unfold cutD
        rw [ra.len, e1, e2, List.drop_zero, Nat.sub_zero, ← ra.len, List.take_length]
      exact k _ H (.p (.tuple (cutD ds lo hi))) (Ext.refl H) (by rw [ec, ← e]; exact r1) h
    | str z => exact sl_str pins s σ H x v vl vu lo hi sl Q I rx hs pl pu ⟨z, r1, h.1, k _ H (.p (.str (cutS z lo hi))) (Ext.refl H) rfl h.2⟩
    | _ => exact h.elim
  | _ => exact h.elim
theorem do_none : PO X none (upP (Cx.ky X) dNo) := ⟨fun pins s σ H Q I ⟨δ, R, c, L, es, h, k⟩ => po_none.run pins s σ H Q I (k none H (Ext.refl H) h)⟩
theorem do_some {e : Expr} {t : TD} (h : PE X e (up (Cx.ky X) t)) : PO X (some e) (upP (Cx.ky X) (dPart t)) := ⟨fun pins s σ H Q I ⟨δ, R, c, L, es, hh, k⟩ => (po_some h).run pins s σ H Q I ⟨δ, _, c, L, es, hh, fun v H1 d x1 r1 h1 => by
  obtain ⟨i, rfl, h2⟩ := asI_of h1
  exact ⟨i, r1, k (some i) H1 x1 h2⟩⟩⟩
theorem de_slice {e : Expr} {lo hi : Option Expr} {te : TD} {tl th : TDO} {p2 pos : Pos} (he : PE X e (up (Cx.ky X) te)) (hl : PO X lo (upP (Cx.ky X) tl)) (hh : PO X hi (upP (Cx.ky X) th)) : PE X (.Subscript e (.Slice lo hi none p2) pos) (up (Cx.ky X) (dSl te tl th)) := by
  refine PE.imp (pe_slice xd_sl he hl hh) fun σ H Q ⟨δ, R, c, L, es, h, k⟩ => ?_
  refine ⟨δ, _, c, L, es, h, fun v H1 d x1 r1 h1 => ⟨δ, _, c, L, es.on x1, h1, fun lo H2 x2 h2 => ⟨δ, _, c, L, es.on (x1.trans x2), h2, fun hi H3 x3 h3 => ?_⟩⟩⟩
  exact ⟨d, R, _, (es.on (x1.trans (x2.trans x3))).dom, r1.ext ((x2.trans x3).hide _), h3, fun u H4 r x4 r4 h4 => k u H4 r (x1.trans (x2.trans (x3.trans x4))) r4 h4⟩
end

/-! ### displays -/
def pyAll : List DV → (List PyData → Prop) → Prop
  | [], K => K []
  | d :: ds, K => asP d fun x => pyAll ds fun xs => K (x :: xs)
theorem pyAll_of : ∀ {ds : List DV} {K : List PyData → Prop}, pyAll ds K → ∃ xs, ds = xs.map .p ∧ K xs
  | [], _, h => ⟨[], rfl, h⟩
  | d :: ds, _, h => by
    obtain ⟨x, rfl, h1⟩ := asP_of h
    obtain ⟨xs, rfl, h2⟩ := pyAll_of h1
    exact ⟨x :: xs, rfl, h2⟩
theorem rvA_p {κ : Ky} {H : Hp} : ∀ {xs : List PyData} {vs : List V}, RvA κ H (xs.map .p) vs → RpA κ.K H xs vs
  | [], _, h => h
  | _ :: _, _, ⟨v, r, e, h, t⟩ => ⟨v, r, e, h, rvA_p t⟩
def dTup (t : TL) : TD := fun δ R => t δ fun ds => pyAll ds fun xs => xs.length ≤ sizeLine ∧ R (.p (.tuple xs))
def dLst (t : TL) : TD := fun δ R => t δ fun ds => pyAll ds fun xs => xs.length ≤ sizeLine ∧ R (.p (.list xs))
section
variable {X : Cx} {es : List Expr} {t : TL} {pos : Pos}
theorem de_tup {x1} (h : PA X es (upA (Cx.ky X) t)) : PE X (.Tuple es x1 pos) (up (Cx.ky X) (dTup t)) := by
  refine PE.imp (pe_tup h) fun σ H Q ⟨δ, R, c, L, es, h, k⟩ => ⟨δ, _, c, L, es, h, fun vs H1 ds x1 r1 h1 => ?_⟩
  obtain ⟨xs, rfl, hz, h2⟩ := pyAll_of h1
  have rp := rvA_p r1
  exact ⟨by rw [← rp.len]; exact hz, fun p hp => k _ _ (.p (.tuple xs)) (x1.trans (Ext.new hp)) (new_tup (es.on x1).dom hp rp) h2⟩
theorem de_lst (h : PA X es (upA (Cx.ky X) t)) : PE X (.List es pos) (up (Cx.ky X) (dLst t)) := by
  refine PE.imp (pe_lst h) fun σ H Q ⟨δ, R, c, L, es, h, k⟩ => ⟨δ, _, c, L, es, h, fun vs H1 ds x1 r1 h1 => ?_⟩
  obtain ⟨xs, rfl, hz, h2⟩ := pyAll_of h1
  have rp := rvA_p r1
  exact ⟨by rw [← rp.len]; exact hz, fun p hp => k _ _ (.p (.list xs)) (x1.trans (Ext.new hp)) (new_lst (es.on x1).dom hp rp) h2⟩
theorem not_well_nil : ¬ Well (.dK []) := fun ⟨_, _, e, _⟩ => by
  injection e with e
  cases e
/-- {} -/
theorem de_dict0 : PE X (.Dict [] [] pos) (up (Cx.ky X) (dC (.p (.dict [])))) := by
  refine PE.imp pe_dnewK fun σ H Q ⟨δ, R, c, L, es, h, k⟩ d hd => ?_
  exact k _ _ (.p (.dict [])) (Ext.new hd) ⟨d, [], rfl, fresh_at es.dom hd, not_well_nil, rfl⟩ h
end

/-! ### zip of two lists or two tuples, for a target a, b -/
def pairsD (xs ys : List PyData) : List PyData := List.zipWith (fun x y => .tuple [x, y]) xs ys
def dItZip (t : TL) : TDI := fun δ R => t δ fun ds => ∃ xs ys, (ds = [.p (.list xs), .p (.list ys)] ∨ ds = [.p (.tuple xs), .p (.tuple ys)]) ∧ R (pairsD xs ys)
theorem itk_zipL {κ : Ky} {a b : Addr} {xs ys : List PyData} : ItK κ (Itz κ.K a b) (pairsD xs ys) [.p (.list xs), .p (.list ys)] [.ref a, .ref b] where
  go := fun H P' i _ r hi => by
    obtain ⟨v, u, e, ⟨a', us, e1, q1, r1⟩, ⟨b', ws, e2, q2, r2⟩⟩ := rvA2 r
    cases e; cases e1; cases e2
    unfold pairsD at hi
    rw [List.length_zipWith] at hi
    obtain ⟨x, f1, _⟩ := r1.get (List.getElem?_eq_getElem (show i < xs.length by omega))
    obtain ⟨y, f2, _⟩ := r2.get (List.getElem?_eq_getElem (show i < ys.length by omega))
    exact ⟨us, ws, x, y, SqL.of ((hide_ext P' H).lst q1), SqL.of ((hide_ext P' H).lst q2), f1, f2⟩
  stop := fun H P' i _ r hi => by
    obtain ⟨v, u, e, ⟨a', us, e1, q1, r1⟩, ⟨b', ws, e2, q2, r2⟩⟩ := rvA2 r
    cases e; cases e1; cases e2
    unfold pairsD at hi
    rw [List.length_zipWith] at hi
    exact ⟨us, ws, SqL.of ((hide_ext P' H).lst q1), SqL.of ((hide_ext P' H).lst q2), by rw [← r1.len, ← r2.len]; omega⟩
  yld := fun H P' i x H2 dm r hi hy => by
    obtain ⟨v, u, e, ⟨a', us, e1, q1, r1⟩, ⟨b', ws, e2, q2, r2⟩⟩ := rvA2 r
    cases e; cases e1; cases e2
    obtain ⟨T, y1, y2, rfl, hT, rfl, f1, f2⟩ := hy
    obtain ⟨d1, g1, g2⟩ := r1.back (f1 us (SqL.of ((hide_ext P' H).lst q1)))
    obtain ⟨d2, g3, g4⟩ := r2.back (f2 ws (SqL.of ((hide_ext P' H).lst q2)))
    refine ⟨.tuple [d1, d2], ?_, Ext.new hT, ⟨T, [y1, y2], rfl, SqT.of (fresh_at dm hT), ?_⟩⟩
    · unfold pairsD
      rw [List.getElem?_zipWith, g1, g3]
    · exact ⟨y1, [y2], rfl, g2.ext ((Ext.new hT).hide P'), y2, [], rfl, g4.ext ((Ext.new hT).hide P'), rfl⟩
theorem itk_zipT {κ : Ky} {a b : Addr} {xs ys : List PyData} : ItK κ (RZ.ItzT κ.K a b) (pairsD xs ys) [.p (.tuple xs), .p (.tuple ys)] [.ref a, .ref b] where
  go := fun H P' i _ r hi => by
    obtain ⟨v, u, e, ⟨a', us, e1, q1, r1⟩, ⟨b', ws, e2, q2, r2⟩⟩ := rvA2 r
    cases e; cases e1; cases e2
    unfold pairsD at hi
    rw [List.length_zipWith] at hi
    obtain ⟨x, f1, _⟩ := r1.get (List.getElem?_eq_getElem (show i < xs.length by omega))
    obtain ⟨y, f2, _⟩ := r2.get (List.getElem?_eq_getElem (show i < ys.length by omega))
    exact ⟨us, ws, x, y, (hide_ext P' H).seqT q1, (hide_ext P' H).seqT q2, f1, f2⟩
  stop := fun H P' i _ r hi => by
    obtain ⟨v, u, e, ⟨a', us, e1, q1, r1⟩, ⟨b', ws, e2, q2, r2⟩⟩ := rvA2 r
    cases e; cases e1; cases e2
    unfold pairsD at hi
    rw [List.length_zipWith] at hi
    exact ⟨us, ws, (hide_ext P' H).seqT q1, (hide_ext P' H).seqT q2, by rw [← r1.len, ← r2.len]; omega⟩
  yld := fun H P' i x H2 dm r hi hy => by
    obtain ⟨v, u, e, ⟨a', us, e1, q1, r1⟩, ⟨b', ws, e2, q2, r2⟩⟩ := rvA2 r
    cases e; cases e1; cases e2
    obtain ⟨T, y1, y2, rfl, hT, rfl, f1, f2⟩ := hy
    obtain ⟨d1, g1, g2⟩ := r1.back (f1 us ((hide_ext P' H).seqT q1))
    obtain ⟨d2, g3, g4⟩ := r2.back (f2 ws ((hide_ext P' H).seqT q2))
    refine ⟨.tuple [d1, d2], ?_, Ext.new hT, ⟨T, [y1, y2], rfl, SqT.of (fresh_at dm hT), ?_⟩⟩
    · unfold pairsD
      rw [List.getElem?_zipWith, g1, g3]
    · exact ⟨y1, [y2], rfl, g2.ext ((Ext.new hT).hide P'), y2, [], rfl, g4.ext ((Ext.new hT).hide P'), rfl⟩
theorem di_zip {X : Cx} {e e2 : Expr} {t : TL} {p pos tpos : Pos} {elts : List Expr} {kk : Nat} (hg : Gl X "zip") (hm : X.mg "zip" = none) (ha : PA X [e, e2] (upA (Cx.ky X) t))
    (hs : starEach [e, e2] X.env = (false, eval e X.env) :: starEach [e2] X.env := by rfl) (hpl : (backTo pos (starEach [e2] X.env)).any (·.1) = false := by rfl) :
    PI X (.Tuple elts kk tpos) (.Call (.Name "zip" p) [e, e2] [] pos) (upI (Cx.ky X) (dItZip t)) := by
  refine PI.imp (RZ.pi_zipA hg hm ha hs hpl) fun σ H R ⟨δ, R', c, L, es, h, k⟩ => ⟨δ, _, c, L, es, h, fun vs H1 ds x1 r1 h1 => ?_⟩
  obtain ⟨xs, ys, e | e, h2⟩ := h1
  · subst e
    obtain ⟨v, u, e, ⟨a, us, e1, q1, ra⟩, ⟨b, ws, e2, q2, rb⟩⟩ := rvA2 r1
    subst e e1 e2
    exact ⟨a, b, us, ws, rfl, .inl ⟨SqL.of ((hide_ext _ _).lst q1), SqL.of ((hide_ext _ _).lst q2), k _ H1 (pairsD xs ys) [.p (.list xs), .p (.list ys)] [.ref a, .ref b] x1 r1 itk_zipL h2⟩⟩
  · subst e
    obtain ⟨v, u, e, ⟨a, us, e1, q1, ra⟩, ⟨b, ws, e2, q2, rb⟩⟩ := rvA2 r1
    subst e e1 e2
    exact ⟨a, b, us, ws, rfl, .inr ⟨(hide_ext _ _).seqT q1, (hide_ext _ _).seqT q2, k _ H1 (pairsD xs ys) [.p (.tuple xs), .p (.tuple ys)] [.ref a, .ref b] x1 r1 itk_zipT h2⟩⟩
end MR

/-! repr, methods of texts, membership, repetition by data. -/
namespace MR
open PySem PySem.Spec PyProof.Rows L2

/-! ### what stands in the heap, for repr -/
section
variable {X : Cx} {pins : List (Addr × Obj)} {σ : Sg} {H : Hp} {s : Shared} {P : Addr → Bool}
theorem ne_sys {a : Addr} {o : HO} (hp : P sysModules = true) (h : hide P H a = some o) : a ≠ sysModules := fun e => by
  subst e
  unfold hide at h
  rw [if_pos hp] at h
  cases h
theorem keys_read {K : Type} [DecidableEq K] {knd : PySem.KeyKind X.prog X.w K} {h : Heap} (f : K → PyData) (hf : ∀ k v, knd.is k v = true → Reads h v (f k) []) : ∀ {es : List DictEntry} {kvs : List (K × Value)}, PySem.Pairs knd es kvs → ReadsAll h (es.map (·.key)) (kvs.map fun p => f p.1) [] ∧ es.map (·.val) = kvs.map (·.2)
  | _, _, .nil => ⟨.nil, rfl⟩
  | _, _, .cons h1 h2 t => by
    obtain ⟨q1, q2⟩ := keys_read f hf t
    refine ⟨.cons (as := []) (bs := []) (hf _ _ h1) q1, ?_⟩
    rw [List.map_cons, List.map_cons, q2, h2]
theorem key_reads {h : Heap} : ∀ (k : Key) (v : Value), (mixKind X.prog X.w).is k v = true → Reads h v (keyD k) []
  | .inl i, v, q => by
    obtain ⟨t, rfl⟩ := Value.isInt_shape (k := i) (v := v) q
    exact .int i t
  | .inr x, v, q => by
    obtain ⟨t, rfl⟩ := Value.isStrOf_shape (x := x) (v := v) q
    exact .str x t
mutual
theorem rp_reads (hp : P sysModules = true) (I : Inv X pins σ H s) : ∀ {d : PyData} {v : V} {u : Value}, Rp X.K (hide P H) d v → RelV v u → ∃ as, Reads s.heap u d as ∧ sysModules ∉ as
  | .none, v, u, h, r => by
    rw [show v = .non from h] at r
    rw [show u = Value.none from r]
    exact ⟨_, .none, List.not_mem_nil⟩
  | .bool b, v, u, h, r => by
    rw [show v = .bl b from h] at r
    rw [show u = Value.bool b from r]
    exact ⟨_, .bool b, List.not_mem_nil⟩
  | .int i, v, u, h, r => by
    rw [show v = .int i from h] at r
    obtain ⟨t, rfl⟩ := r
    exact ⟨_, .int i t, List.not_mem_nil⟩
  | .str x, v, u, h, r => by
    rw [show v = .str x from h] at r
    obtain ⟨t, rfl⟩ := r
    exact ⟨_, .str x t, List.not_mem_nil⟩
  | .list ds, v, u, ⟨a, xs, e, q, ra⟩, r => by
    subst e
    rw [show u = Value.ref a from r]
    obtain ⟨its, rv, ⟨o, n, ho, hc, _, hd⟩, _⟩ := I.list (SqL.of ((hide_ext P H).lst q))
    obtain ⟨as, hr, hn⟩ := rpA_reads hp I ra rv
    exact ⟨_, .list ho hc hd hr, fun z => (List.mem_cons.mp z).elim (fun e => ne_sys hp q e.symm) hn⟩
  | .tuple ds, v, u, ⟨a, xs, e, q, ra⟩, r => by
    subst e
    rw [show u = Value.ref a from r]
    obtain ⟨its, rv, ⟨o, ho, hc, n, hd⟩, _⟩ := I.tuple ((hide_ext P H).seqT q)
    obtain ⟨as, hr, hn⟩ := rpA_reads hp I ra rv
    exact ⟨_, .tuple ho hc hd hr, hn⟩
  | .dict kvs, v, u, ⟨a, es, e, q, _, rk⟩, r => by
    subst e
    rw [show u = Value.ref a from r]
    have q' : H a = some (.dK es) := by
      unfold hide at q
      split at q
      · cases q
      · exact q
    obtain ⟨_, _, vs, kv, o, ds, ep, h1, h2, h3, _, h5, _⟩ := I.hok a _ q'
    obtain ⟨w1, w2⟩ := keys_read (h := s.heap) keyD key_reads h5
    obtain ⟨bs, hr, hn⟩ := rpK_reads hp I rk kv
    have ek : kvs.map (·.1) = vs.map fun p => keyD p.1 := rpK_keys rk kv
    refine ⟨a :: [] ++ bs, .dict h1 h2.1 h3 (by rw [ek]; exact w1) (by rw [w2]; exact hr), ?_⟩
    exact fun z => (List.mem_cons.mp z).elim (fun e => ne_sys hp q e.symm) hn
theorem rpA_reads (hp : P sysModules = true) (I : Inv X pins σ H s) : ∀ {ds : List PyData} {vs : List V} {us : List Value}, RpA X.K (hide P H) ds vs → Vals vs us → ∃ as, ReadsAll s.heap us ds as ∧ sysModules ∉ as
  | [], vs, us, h, r => by
    rw [show vs = [] from h] at r
    cases r
    exact ⟨_, .nil, List.not_mem_nil⟩
  | d :: ds, vs, us, ⟨v, q, e, h, t⟩, r => by
    rw [e] at r
    cases r with
    | cons r1 r2 =>
      obtain ⟨as, q1, n1⟩ := rp_reads hp I h r1
      obtain ⟨bs, q2, n2⟩ := rpA_reads hp I t r2
      exact ⟨_, .cons q1 q2, fun z => (List.mem_append.mp z).elim n1 n2⟩
theorem rpK_reads (hp : P sysModules = true) (I : Inv X pins σ H s) : ∀ {kvs : List (PyData × PyData)} {es : List (Key × V)} {vs : List (Key × Value)}, RpK X.K (hide P H) kvs es → KV es vs → ∃ as, ReadsAll s.heap (vs.map (·.2)) (kvs.map (·.2)) as ∧ sysModules ∉ as
  | [], es, vs, h, r => by
    rw [show es = [] from h] at r
    cases r
    exact ⟨_, .nil, List.not_mem_nil⟩
  | (k, d) :: kvs, es, vs, ⟨k', v, q, e, ek, h, t⟩, r => by
    rw [e] at r
    cases r with
    | cons r1 r2 =>
      obtain ⟨as, q1, n1⟩ := rp_reads hp I h r1.2
      obtain ⟨bs, q2, n2⟩ := rpK_reads hp I t r2
      exact ⟨_, .cons q1 q2, fun z => (List.mem_append.mp z).elim n1 n2⟩
theorem rpK_keys : ∀ {kvs : List (PyData × PyData)} {es : List (Key × V)} {vs : List (Key × Value)}, RpK X.K (hide P H) kvs es → KV es vs → kvs.map (·.1) = vs.map fun p => keyD p.1
  | [], es, vs, h, r => by
    rw [show es = [] from h] at r
    cases r
    rfl
  | (k, d) :: kvs, es, vs, ⟨k', v, q, e, ek, h, t⟩, r => by
    rw [e] at r
    cases r with
    | cons r1 r2 =>
      have e1 : k' = _ := r1.1
      rw [List.map_cons, List.map_cons, rpK_keys t r2, ek, e1]
end
end
/-- data whose text repr gives -/
structure Shows (d : PyData) : Prop where
  ok : d.showable = true
  len : d.shown.length ≤ sizeLine
  dep : d.depth ≤ 100
def fRepr : FL := fun ds R => ∃ d, ds = [.p d] ∧ Shows d ∧ R (.p (.str d.shown))
section
variable {X : Cx}
theorem cd_repr {k : Nat} (gd : X.A.guards = some []) (hr : Room k X.A) : CallR X (.builtin "repr") (upC (Cx.ky X) fRepr) := by
  intro pins s σ H xs us Q I rx ⟨ds, R, P, dm, r, ⟨d, e, sh, h⟩, k⟩
  subst e
  obtain ⟨v, rfl, r1⟩ := rvA1 r
  obtain ⟨u, rfl, ru⟩ := Vals.one rx
  have hz := sh.len
  cases d with
  | none =>
    rw [show v = .non from r1] at ru
    rw [show u = Value.none from ru]
    exact PySem.P.repr_of_none ⟨.str "None", H, I.tok _, ⟨_, rfl⟩, k _ H (.p (.str "None")) (Ext.refl H) rfl h⟩
  | bool b =>
    rw [show v = .bl b from r1] at ru
    rw [show u = Value.bool b from ru]
    exact PySem.P.repr_of_bool ⟨.str _, H, I.tok _, ⟨_, rfl⟩, k _ H (.p (.str _)) (Ext.refl H) rfl h⟩
  | int i =>
    rw [show v = .int i from r1] at ru
    obtain ⟨t, rfl⟩ := ru
    exact PySem.P.repr_of_int (of_decide_eq_true sh.ok) ⟨.str _, H, I.tok _, ⟨_, rfl⟩, k _ H (.p (.str _)) (Ext.refl H) rfl h⟩
  | str x =>
    rw [show v = .str x from r1] at ru
    obtain ⟨t, rfl⟩ := ru
    exact PySem.P.repr_of_str ⟨.str _, H, I.tok _, ⟨_, rfl⟩, k _ H (.p (.str _)) (Ext.refl H) rfl h⟩ hz
  | list xs =>
    obtain ⟨a, ys, e, q, ra⟩ := id r1
    subst e
    obtain rfl : u = Value.ref a := ru
    obtain ⟨as, hr2, hn⟩ := rp_reads dm.1 I r1 rfl
    exact repr_of_reads' hr2 sh.ok (fun _ => hn) gd (by have := hr.un; have := sh.dep; omega) (fun _ _ z => z) (fun h' t tk kp => ⟨.str _, H, I.kept kp, ⟨t, rfl⟩, k _ H (.p (.str _)) (Ext.refl H) rfl h⟩) hz
  | tuple xs =>
    obtain ⟨a, ys, e, q, ra⟩ := id r1
    subst e
    obtain rfl : u = Value.ref a := ru
    obtain ⟨as, hr2, hn⟩ := rp_reads dm.1 I r1 rfl
    exact repr_of_reads' hr2 sh.ok (fun _ => hn) gd (by have := hr.un; have := sh.dep; omega) (fun _ _ z => z) (fun h' t tk kp => ⟨.str _, H, I.kept kp, ⟨t, rfl⟩, k _ H (.p (.str _)) (Ext.refl H) rfl h⟩) hz
  | dict xs =>
    obtain ⟨a, ys, e, q, ra⟩ := id r1
    subst e
    obtain rfl : u = Value.ref a := ru
    obtain ⟨as, hr2, hn⟩ := rp_reads dm.1 I r1 rfl
    exact repr_of_reads' hr2 sh.ok (fun _ => hn) gd (by have := hr.un; have := sh.dep; omega) (fun _ _ z => z) (fun h' t tk kp => ⟨.str _, H, I.kept kp, ⟨t, rfl⟩, k _ H (.p (.str _)) (Ext.refl H) rfl h⟩) hz
end

/-! ### methods of texts -/
abbrev F1S := Str → DV → (DV → Prop) → Prop
def dM1 (f : F1S) (to te : TD) : TD := fun δ R => to δ fun d => asS d fun a => te δ fun e => f a e R
def dM0 (f : Str → (DV → Prop) → Prop) (to : TD) : TD := fun δ R => to δ fun d => asS d fun a => f a R
section
variable {X : Cx} {o e : Expr} {to te : TD}
theorem de_m1 {id : String} {name : Str} {apos pos : Pos} {r : V → List V → Hp → VK → Prop} {f : F1S} (slot : Slot "str" name id) (ty : typeOf (.builtin id) = pure (.type "method_descriptor")) (rule : MtR X id r)
    (hf : ∀ a y H Q, upO (Cx.ky X) (fun d e R => asS d fun a => f a e R) (.str a) y H Q → r (.str a) [y] H Q) (ho : PE X o (up (Cx.ky X) to)) (he : PE X e (up (Cx.ky X) te))
    (hs : starEach [e] X.env = [(false, eval e X.env)] := by rfl) (hbase : attributeBase o name X.env (eval o X.env) = eval o X.env := by rfl) (hline : (apos.endLine == pos.line) = true := by rfl) :
    PE X (.Call (.Attribute o name apos) [e] [] pos) (up (Cx.ky X) (dM1 f to te)) := by
  refine PE.imp (pe_m1 slot ty rule ho he hs hbase hline) fun σ H Q ⟨δ, R, c, L, es, h, k⟩ => ⟨δ, _, c, L, es, h, fun v H1 d x1 r1 h1 => ?_⟩
  obtain ⟨a, rfl, h2⟩ := asS_of h1
  have ev : v = .str a := r1
  subst ev
  refine ⟨⟨a, rfl⟩, ⟨δ, _, c, L, es.on x1, h2, fun u H2 e x2 r2 h3 => hf a u H2 Q ?_⟩⟩
  exact ⟨.p (.str a), e, R, _, (es.on (x1.trans x2)).dom, rfl, r2, h3, fun z H3 w x3 q1 q2 => k z H3 w (x1.trans (x2.trans x3)) q1 q2⟩
theorem de_m0 {id : String} {name : Str} {apos pos : Pos} {r : V → List V → Hp → VK → Prop} {f : Str → (DV → Prop) → Prop} (slot : Slot "str" name id) (ty : typeOf (.builtin id) = pure (.type "method_descriptor")) (rule : MtR X id r)
    (hf : ∀ a H Q, upU (Cx.ky X) (fun d R => asS d fun a => f a R) (.str a) H Q → r (.str a) [] H Q) (ho : PE X o (up (Cx.ky X) to))
    (hbase : attributeBase o name X.env (eval o X.env) = eval o X.env := by rfl) (hline : (apos.endLine == pos.line) = true := by rfl) :
    PE X (.Call (.Attribute o name apos) [] [] pos) (up (Cx.ky X) (dM0 f to)) := by
  refine PE.imp (pe_m0 slot ty rule ho hbase hline) fun σ H Q ⟨δ, R, c, L, es, h, k⟩ => ⟨δ, _, c, L, es, h, fun v H1 d x1 r1 h1 => ?_⟩
  obtain ⟨a, rfl, h2⟩ := asS_of h1
  have ev : v = .str a := r1
  subst ev
  exact ⟨⟨a, rfl⟩, hf a H1 Q ⟨.p (.str a), R, _, (es.on x1).dom, rfl, h2, fun z H3 w x3 q1 q2 => k z H3 w (x1.trans x3) q1 q2⟩⟩
/-- what a method of two texts asks, its answer by g -/
def fSS (g : Str → Str → PyData) : F1S := fun a e R => asS e fun b => R (.p (g a b))
theorem ss_of {κ : Ky} {g : Str → Str → PyData} {a : Str} {y : V} {H : Hp} {Q : VK} (h : upO κ (fun d e R => asS d fun a => fSS g a e R) (.str a) y H Q) : ∃ b, y = .str b ∧ ∀ v, Rv κ H (.p (g a b)) v → (∀ P, Rv κ (hide P H) (.p (g a b)) v) → Q v H := by
  obtain ⟨d, e, R, P, dm, r1, r2, h1, k⟩ := h
  obtain ⟨a', rfl, h2⟩ := asS_of h1
  obtain ⟨b, rfl, h3⟩ := asS_of h2
  have ea : V.str a = .str a' := r1
  cases ea
  exact ⟨b, r2, fun v _ q => k v H (.p (g a b)) (Ext.refl H) (q P) h3⟩
theorem de_startswith {apos pos : Pos} (ho : PE X o (up (Cx.ky X) to)) (he : PE X e (up (Cx.ky X) te)) (hs : starEach [e] X.env = [(false, eval e X.env)] := by rfl) (hbase : attributeBase o "startswith" X.env (eval o X.env) = eval o X.env := by rfl) (hline : (apos.endLine == pos.line) = true := by rfl) :
    PE X (.Call (.Attribute o "startswith" apos) [e] [] pos) (up (Cx.ky X) (dM1 (fSS fun a b => .bool (Txt.startswith a b)) to te)) :=
  de_m1 PySem.F.slot_str_startswith PySem.F.type_str_startswith mt_startswith (fun a y H Q h => by
    obtain ⟨b, e, k⟩ := ss_of h
    exact ⟨a, b, rfl, by rw [e], k _ rfl fun _ => rfl⟩) ho he hs hbase hline
theorem de_endswith {apos pos : Pos} (ho : PE X o (up (Cx.ky X) to)) (he : PE X e (up (Cx.ky X) te)) (hs : starEach [e] X.env = [(false, eval e X.env)] := by rfl) (hbase : attributeBase o "endswith" X.env (eval o X.env) = eval o X.env := by rfl) (hline : (apos.endLine == pos.line) = true := by rfl) :
    PE X (.Call (.Attribute o "endswith" apos) [e] [] pos) (up (Cx.ky X) (dM1 (fSS fun a b => .bool (Txt.endswith a b)) to te)) :=
  de_m1 PySem.F.slot_str_endswith PySem.F.type_str_endswith mt_endswith (fun a y H Q h => by
    obtain ⟨b, e, k⟩ := ss_of h
    exact ⟨a, b, rfl, by rw [e], k _ rfl fun _ => rfl⟩) ho he hs hbase hline
def fJoin : F1S := fun a e R => ∃ ys : List Str, (e = .p (.list (ys.map .str)) ∨ e = .p (.tuple (ys.map .str))) ∧ (ys.map (·.length)).sum + ys.length * a.length ≤ 16777216 ∧ R (.p (.str (Txt.join a ys)))
theorem rpA_strs {K : PySem.W.Frag} {H : Hp} : ∀ {ys : List Str} {vs : List V}, RpA K H (ys.map .str) vs → vs = ys.map V.str
  | [], _, h => h
  | b :: bs, _, ⟨v, r, e, h, t⟩ => by rw [e, show v = .str b from h, rpA_strs t]; rfl
theorem de_join {apos pos : Pos} (ho : PE X o (up (Cx.ky X) to)) (he : PE X e (up (Cx.ky X) te)) (hs : starEach [e] X.env = [(false, eval e X.env)] := by rfl) (hbase : attributeBase o "join" X.env (eval o X.env) = eval o X.env := by rfl) (hline : (apos.endLine == pos.line) = true := by rfl) :
    PE X (.Call (.Attribute o "join" apos) [e] [] pos) (up (Cx.ky X) (dM1 fJoin to te)) :=
  de_m1 PySem.F.slot_str_join PySem.F.type_str_join mt_join (fun a y H Q ⟨d, e, R, P, dm, r1, r2, h1, k⟩ => by
    obtain ⟨a', rfl, ys, he, hz, h3⟩ := asS_of h1
    have ea : V.str a = .str a' := r1
    cases ea
    rcases he with he | he
    · subst he
      obtain ⟨p, xs, e, q, ra⟩ := r2
      exact ⟨a, p, ys, rfl, by rw [e], .inl (SqL.of (by rw [← rpA_strs ra]; exact (hide_ext P H).lst q)), hz, k _ H (.p (.str (Txt.join a ys))) (Ext.refl H) rfl h3⟩
    · subst he
      obtain ⟨p, xs, e, q, ra⟩ := r2
      exact ⟨a, p, ys, rfl, by rw [e], .inr (by rw [← rpA_strs ra]; exact (hide_ext P H).seqT q), hz, k _ H (.p (.str (Txt.join a ys))) (Ext.refl H) rfl h3⟩) ho he hs hbase hline
end

/-! ### in -/
def flatD : PyData → Bool
  | .none => true | .bool _ => true | .int _ => true | .str _ => true
  | _ => false
/-- == of flat data -/
def eqF : PyData → PyData → Bool := PyData.eqv
def hasD (x : PyData) (ys : List PyData) : Bool := ys.any fun y => eqF y x
def fIn (neg : Bool) : F2 := fun d e R => asP d fun x => ∃ ys, (e = .p (.list ys) ∨ e = .p (.tuple ys)) ∧ flatD x = true ∧ ys.all flatD = true ∧ R (.p (.bool (if neg then !hasD x ys else hasD x ys)))
def vF : PyData → V
  | .none => .non | .bool b => .bl b | .int i => .int i | .str x => .str x
  | _ => .non
theorem rp_flat {K : PySem.W.Frag} {H : Hp} : ∀ {d : PyData} {v : V}, Rp K H d v → flatD d = true → v = vF d ∧ flatV v = true
  | .none, v, h, _ => by rw [show v = .non from h]; exact ⟨rfl, rfl⟩
  | .bool b, v, h, _ => by rw [show v = .bl b from h]; exact ⟨rfl, rfl⟩
  | .int i, v, h, _ => by rw [show v = .int i from h]; exact ⟨rfl, rfl⟩
  | .str x, v, h, _ => by rw [show v = .str x from h]; exact ⟨rfl, rfl⟩
  | .list _, _, _, f => Bool.noConfusion f
  | .tuple _, _, _, f => Bool.noConfusion f
  | .dict _, _, _, f => Bool.noConfusion f
theorem eqV_flat {x y : PyData} (fx : flatD x = true) (fy : flatD y = true) : eqV (vF x) (vF y) = eqF x y := by
  cases x <;> first
    | exact Bool.noConfusion fx
    | (cases y <;> first
        | exact Bool.noConfusion fy
        | rfl
        | simp [eqV, eqF, PyData.eqv, vF])
theorem rpA_flat {K : PySem.W.Frag} {H : Hp} : ∀ {ds : List PyData} {vs : List V}, RpA K H ds vs → ds.all flatD = true → vs = ds.map vF ∧ vs.all flatV = true
  | [], vs, h, _ => by rw [show vs = [] from h]; exact ⟨rfl, rfl⟩
  | d :: ds, _, ⟨v, r, e, h, t⟩, f => by
    rw [List.all_cons, Bool.and_eq_true] at f
    obtain ⟨a1, a2⟩ := rp_flat h f.1
    obtain ⟨b1, b2⟩ := rpA_flat t f.2
    rw [e, a1, b1, List.map_cons, List.all_cons, ← a1, ← b1, a2, b2]
    exact ⟨rfl, rfl⟩
theorem inV_flat {x : PyData} (fx : flatD x = true) : ∀ {ds : List PyData}, ds.all flatD = true → inV (vF x) (ds.map vF) = hasD x ds
  | [], _ => rfl
  | d :: ds, f => by
    rw [List.all_cons, Bool.and_eq_true] at f
    have q := inV_flat fx f.2
    unfold inV hasD at q ⊢
    rw [List.map_cons, List.any_cons, List.any_cons, q, eqV_flat f.1 fx]
section
variable {X : Cx}
theorem up_in {κ : Ky} {neg : Bool} {x y : V} {H : Hp} {Q : VK} (h : upO κ (fIn neg) x y H Q) : rIn κ.K neg x y H Q := by
  obtain ⟨d, e, R, P, dm, r1, r2, h1, k⟩ := h
  obtain ⟨a, rfl, ys, he, fx, fs, h2⟩ := asP_of h1
  obtain ⟨a1, a2⟩ := rp_flat r1 fx
  have fin : ∀ (p : Addr) (xs : List V), RpA κ.K (hide P H) ys xs → xs.all flatV = true ∧ Q (.bl (if neg then !inV x xs else inV x xs)) H := fun p xs ra => by
    obtain ⟨b1, b2⟩ := rpA_flat ra fs
    refine ⟨b2, ?_⟩
    rw [a1, b1, inV_flat fx fs]
    exact k _ H (.p (.bool (if neg then !hasD a ys else hasD a ys))) (Ext.refl H) rfl h2
  rcases he with he | he
  · subst he
    obtain ⟨p, xs, e, q, ra⟩ := r2
    exact ⟨p, xs, e, .inl (SqL.of ((hide_ext P H).lst q)), a2, fin p xs ra⟩
  · subst he
    obtain ⟨p, xs, e, q, ra⟩ := r2
    exact ⟨p, xs, e, .inr ((hide_ext P H).seqT q), a2, fin p xs ra⟩
theorem od_in : OpR X (compareOp .In) (upO (Cx.ky X) (fIn false)) := OpR.imp op_in_seq fun x y H Q h => up_in h
theorem od_notin : OpR X (compareOp .NotIn) (upO (Cx.ky X) (fIn true)) := OpR.imp op_notIn_seq fun x y H Q h => up_in h
/-- a text in a text -/
def inS (x y : Str) : Bool := !(Builtin.Str.occurrences y x 0 y.length 1).isEmpty
def fInS : F2 := fun d e R => asS d fun x => asS e fun y => R (.p (.bool (inS x y)))
theorem od_inS : OpR X (compareOp .In) (upO (Cx.ky X) fInS) := OpR.imp op_in_str fun x y H Q ⟨d, e, R, P, dm, r1, r2, h1, k⟩ => by
  obtain ⟨a, rfl, h2⟩ := asS_of h1
  obtain ⟨b, rfl, h3⟩ := asS_of h2
  exact ⟨a, b, r1, r2, k _ H (.p (.bool (inS a b))) (Ext.refl H) rfl h3⟩

/-! ### repetition of a text, of a tuple -/
def fRepS : F2 := fun d e R => asS d fun x => asI e fun i => x.length ≤ 16 ∧ -(2 ^ 63) ≤ i ∧ i ≤ 1048576 ∧ R (.p (.str (Txt.mul x i)))
theorem od_repS : OpR X (binaryOp .Mult) (upO (Cx.ky X) fRepS) := by
  intro pins s σ H x y v u Q I rx ry ⟨d, e, R, P, dm, r1, r2, h1, k⟩
  obtain ⟨a, rfl, h2⟩ := asS_of h1
  obtain ⟨i, rfl, z1, z2, z3, h3⟩ := asI_of h2
  rw [show x = .str a from r1] at rx
  rw [show y = .int i from r2] at ry
  obtain ⟨t, rfl⟩ := rx
  obtain ⟨t', rfl⟩ := ry
  exact PySem.W.KXi.mul rfl z1 z2 (by simpa using z3) fun u k' _ _ => ⟨.str (Txt.mul a i), H, I.tok _, ⟨u, rfl⟩, k _ H (.p (.str (Txt.mul a i))) (Ext.refl H) rfl h3⟩
end
end MR

/-! Sets of keys by data. -/
namespace MR
open PySem PySem.Spec PyProof.Rows L2

theorem setG_held {P : Program} {w : World} {H : Hp} {h : Heap} {a : Addr} {S : Key → Bool} {n : Nat} (R : SetG w h a S n) : ObjOk P w H h a (SetGO w a S n) := by
  obtain ⟨ob, el, ep, tb, ho, r⟩ := id R
  exact ⟨R, ⟨ob, ho⟩, fun h1 h2 p k => SetG.keeps p k⟩
theorem setG_get {X : Cx} {pins : List (Addr × Obj)} {σ : Sg} {H : Hp} {s : Shared} {a : Addr} {S : Key → Bool} {n : Nat} (I : Inv X pins σ H s) (h : H a = some (SetGO X.w a S n)) : SetG X.w s.heap a S n := (I.hok a _ h).1
/-- the keys of what a set is made from -/
def keysOf (d : PyData) (ks : List Key) : Prop := match d with
  | .str x => ks = x.cps.toList.map fun c => Sum.inr ⟨#[c]⟩
  | .list ds => ds = ks.map keyD
  | .tuple ds => ds = ks.map keyD
  | _ => False
def fSetOf : FL := fun ds R => ∃ d ks, ds = [.p d] ∧ keysOf d ks ∧ ks.length + 1 < scanBound ∧ R (.set ks)
theorem rp_key {K : PySem.W.Frag} {H : Hp} {k : Key} {v : V} (h : Rp K H (keyD k) v) : v = kV k := by
  cases k with
  | inl i => exact h
  | inr x => exact h
theorem rel_key {k : Key} {u : Value} (r : RelV (kV k) u) : kOf u = some k := by
  cases k with
  | inl i =>
    obtain ⟨t, rfl⟩ := r
    rfl
  | inr x =>
    obtain ⟨t, rfl⟩ := r
    rfl
theorem vals_keys {K : PySem.W.Frag} {H : Hp} : ∀ {ks : List Key} {vs : List V} {us : List Value}, RpA K H (ks.map keyD) vs → Vals vs us → ∀ (i : Nat) (u : Value), us[i]? = some u → ∃ k, ks[i]? = some k ∧ kOf u = some k
  | [], vs, us, h, r, i, u, e => by
    rw [show vs = [] from h] at r
    cases r
    cases e
  | k :: ks, vs, us, ⟨v, q, ev, h, t⟩, r, i, u, e => by
    rw [ev] at r
    cases r with
    | cons r1 r2 => cases i with
      | zero =>
        cases e
        rw [rp_key h] at r1
        exact ⟨k, rfl, rel_key r1⟩
      | succ i => exact vals_keys t r2 i u e
theorem vals_len {K : PySem.W.Frag} {H : Hp} {ks : List Key} {vs : List V} {us : List Value} (h : RpA K H (ks.map keyD) vs) (r : Vals vs us) : us.length = ks.length := by
  rw [← r.length, ← h.len, List.length_map]
section
variable {X : Cx}
theorem laid_set {pins : List (Addr × Obj)} {σ : Sg} {H : Hp} {s : Shared} {h' : Heap} {tk n : Nat} {S : Key → Bool} (I : Inv X pins σ H s) (R : SetG X.w h' s.heap.objs.size S n) (k : ∀ b o, s.heap.get? b = some o → h'.get? b = some o) :
    Inv X pins σ (upd H s.heap.objs.size (SetGO X.w s.heap.objs.size S n)) { s with heap := h', toks := tk } := I.laid k (Nat.le_refl _) (setG_held R)
theorem cd_set (hc : X.calm = true) : CallR X (.type "set") (upC (Cx.ky X) fSetOf) := by
  intro pins s σ H xs us Q I rx ⟨ds, R, P, dm, r, ⟨d, ks, e, hk, hb, h⟩, k⟩
  subst e
  obtain ⟨v, rfl, r1⟩ := rvA1 r
  obtain ⟨u, rfl, ru⟩ := Vals.one rx
  have hN : H s.heap.objs.size = none := I.hok.fresh (Nat.le_refl _)
  have fin : ∀ (h' : Heap) (tk c : Nat), SetG X.w h' s.heap.objs.size (fun j => hasK ks j) c → c ≤ ks.length → (∀ b o, s.heap.get? b = some o → h'.get? b = some o) → EP X pins σ Q (.ref s.heap.objs.size) { s with heap := h', toks := tk } := fun h' tk c g _ kp =>
    ⟨.ref s.heap.objs.size, _, laid_set I g kp, rfl, k _ _ (.set ks) (Ext.new hN) ⟨_, c, rfl, fresh_at dm hN⟩ h⟩
  cases d with
  | str x =>
    rw [show v = .str x from r1] at ru
    obtain ⟨t, rfl⟩ := ru
    cases ha : x.cps.all (· < 128) with
    | true => exact call_set_ascii ks (I.ok.hd hc) ha hk hb fin
    | false => exact call_set_wide ks (I.ok.hd hc) ha hk hb fin
  | list ds =>
    obtain ⟨a, ys, e, q, ra⟩ := r1
    subst e
    obtain rfl : u = Value.ref a := ru
    obtain ⟨its, rv, pl, _⟩ := I.list (SqL.of ((hide_ext P H).lst q))
    have hk' : ds = ks.map keyD := hk
    subst hk'
    exact call_set_list (items := its.toArray) ks (I.ok.hd hc) pl.isList (by rw [List.size_toArray]; exact vals_len ra rv) (fun i u e => vals_keys ra rv i u (by simpa using e)) hb fin
  | tuple ds =>
    obtain ⟨a, ys, e, q, ra⟩ := r1
    subst e
    obtain rfl : u = Value.ref a := ru
    obtain ⟨its, rv, pl, _⟩ := I.tuple ((hide_ext P H).seqT q)
    have hk' : ds = ks.map keyD := hk
    subst hk'
    exact call_set_tuple (items := its.toArray) ks (I.ok.hd hc) pl (by rw [List.size_toArray]; exact vals_len ra rv) (fun i u e => vals_keys ra rv i u (by simpa using e)) hb fin
  | _ => exact hk.elim
/-- k in a set -/
def fInK (neg : Bool) : F2 := fun d e R => ∃ k ks, d = .p (keyD k) ∧ e = .set ks ∧ R (.p (.bool (if neg then !hasK ks k else hasK ks k)))
theorem od_inK : OpR X (compareOp .In) (upO (Cx.ky X) (fInK false)) := by
  intro pins s σ H x y v u Q I rx ry ⟨d, e, R, P, dm, r1, r2, ⟨k, ks, e1, e2, h⟩, kk⟩
  subst e1 e2
  obtain ⟨a, n, rfl, ha⟩ := r2
  rw [rp_key r1] at rx
  obtain rfl : u = Value.ref a := ry
  have g := setG_get I (show H a = some (SetGO X.w a (hasK ks) n) from by
    unfold hide at ha
    split at ha
    · cases ha
    · exact ha)
  exact wpAny_inSet_of (knd := mixKind X.prog X.w) (kOf_is.mpr (rel_key rx)) (kOf_scan (rel_key rx)) g.toOf ⟨.bl (hasK ks k), H, I.tok _, rfl, kk _ H (.p (.bool (hasK ks k))) (Ext.refl H) rfl h⟩
theorem od_notinK : OpR X (compareOp .NotIn) (upO (Cx.ky X) (fInK true)) := by
  intro pins s σ H x y v u Q I rx ry ⟨d, e, R, P, dm, r1, r2, ⟨k, ks, e1, e2, h⟩, kk⟩
  subst e1 e2
  obtain ⟨a, n, rfl, ha⟩ := r2
  rw [rp_key r1] at rx
  obtain rfl : u = Value.ref a := ry
  have g := setG_get I (show H a = some (SetGO X.w a (hasK ks) n) from by
    unfold hide at ha
    split at ha
    · cases ha
    · exact ha)
  exact wpAny_notInSet_of (knd := mixKind X.prog X.w) (kOf_is.mpr (rel_key rx)) (kOf_scan (rel_key rx)) g.toOf ⟨.bl (!hasK ks k), H, I.tok _, rfl, kk _ H (.p (.bool (!hasK ks k))) (Ext.refl H) rfl h⟩
end

/-! ### sorted of a set of texts -/
/-- in order, each once -/
def RisS (xs : List Str) : Prop := xs.Pairwise fun a b => a.cps.toList < b.cps.toList
def fSortK : FL := fun ds R => ∃ ks : List Str, ds = [.set (ks.map Sum.inr)] ∧ ∀ zs, RisS zs → (∀ x, x ∈ zs ↔ x ∈ ks) → zs.length ≤ sizeLine → R (.p (.list (zs.map .str)))
theorem risS_of {ys : List Str} (nd : ys.Nodup) : RisS (ys.mergeSort (PySem.W.dataLe false PyData.str)) := by
  have e : (PySem.W.dataLe false PyData.str : Str → Str → Bool) = fun a b => decide (a.cps.toList ≤ b.cps.toList) := PySem.W.dataLe_str (β := Str) (fun b => b)
  rw [e]
  have s1 := List.pairwise_mergeSort (le := fun (a b : Str) => decide (a.cps.toList ≤ b.cps.toList)) (fun a b c h1 h2 => by
    have h1 := of_decide_eq_true h1
    have h2 := of_decide_eq_true h2
    exact decide_eq_true (Std.le_trans h1 h2)) (fun a b => by
    rcases Std.le_total (a := a.cps.toList) (b := b.cps.toList) with h | h
    · rw [decide_eq_true h]; rfl
    · rw [decide_eq_true h, Bool.or_true]) ys
  have nd2 : (ys.mergeSort fun (a b : Str) => decide (a.cps.toList ≤ b.cps.toList)).Nodup := (List.mergeSort_perm ys _).nodup_iff.mpr nd
  unfold RisS
  refine List.Pairwise.imp₂ (fun a b h1 h2 => ?_) s1 nd2
  have h1 := of_decide_eq_true h1
  exact Std.lt_of_le_of_ne h1 fun z => h2 (by
    cases a with | mk a => cases b with | mk b =>
    have z' : a.toList = b.toList := z
    rw [show a = b from Array.toList_inj.mp z'])
theorem each_vals : ∀ {us : List Value} {xs : List Str}, PySem.W.EachIs (fun v x => ∃ t, v = Value.str x t) us xs → Vals (xs.map V.str) us
  | _, _, .nil => .nil
  | _, _, .cons ⟨t, e⟩ r => .cons ⟨t, e⟩ (each_vals r)
theorem rpA_txt {K : PySem.W.Frag} {H : Hp} : ∀ xs : List Str, RpA K H (xs.map .str) (xs.map V.str)
  | [] => rfl
  | x :: xs => ⟨.str x, xs.map V.str, rfl, rfl, rpA_txt xs⟩
section
variable {X : Cx}
theorem cd_sortK {k : Nat} (hc : X.calm = true) (hr : Room k X.A) : CallR X (.builtin "sorted") (upC (Cx.ky X) fSortK) := by
  intro pins s σ H xs us Q I rx ⟨ds, R, P, dm, r, ⟨ks, e, h⟩, kk⟩
  subst e
  obtain ⟨v, q, e1, ⟨a, n, ev, ha⟩, e2⟩ := r
  have e3 : q = [] := e2
  subst e1 e3 ev
  obtain ⟨u, rfl, ru⟩ := Vals.one rx
  obtain rfl : u = Value.ref a := ru
  have g := setG_get I (show H a = some (SetGO X.w a (hasK (ks.map Sum.inr)) n) from by
    unfold hide at ha
    split at ha
    · cases ha
    · exact ha)
  refine sorted_setG g (I.ok.hd hc) (by have := hr.un; omega) (fun k hk => ?_) fun s' p out c zs kp hg ho hp hl each hz => ?_
  · obtain ⟨x, _, e⟩ := List.mem_map.mp (hasK_iff.mp hk)
    exact ⟨x, e.symm⟩
  · obtain ⟨ys, rfl, hyz, nd, mem⟩ := hz
    have hN : H p = none := I.hok.fresh hp
    have lenz : out.toList.length = (ys.mergeSort (PySem.W.dataLe false PyData.str)).length := each.length
    have hbd : (ys.mergeSort (PySem.W.dataLe false PyData.str)).length ≤ sizeLine := by
      rw [List.length_mergeSort]
      exact hyz
    have I2 : Inv X pins σ (upd H p (.lst ((ys.mergeSort (PySem.W.dataLe false PyData.str)).map V.str))) s' := by
      obtain ⟨h2, g2, d2, t2, o2⟩ := s'
      have eg : g2 = s.gens := hg
      have eo : o2 = s.os := ho
      subst eg eo
      have J := (I.laid (t' := t2) (o := .lst ((ys.mergeSort (PySem.W.dataLe false PyData.str)).map V.str)) kp hp ⟨by rw [List.length_map]; exact hbd, out.toList, c, each_vals each, by rw [Array.toArray_toList]; exact hl⟩)
      exact ⟨J.ok, J.os, J.bare, J.base, J.loc, J.cell, J.free, J.freeC, J.pin, J.hok, J.len⟩
    refine ⟨.ref p, _, I2, rfl, kk _ _ (.p (.list ((ys.mergeSort (PySem.W.dataLe false PyData.str)).map .str))) (Ext.new hN) (new_lst dm hN (rpA_txt _)) (h _ (risS_of nd) (fun x => ?_) hbd)⟩
    rw [(List.mergeSort_perm ys _).mem_iff, mem x, hasK_iff, List.mem_map]
    exact ⟨fun ⟨y, hy, e⟩ => Sum.inr.inj e ▸ hy, fun hx => ⟨x, hx, rfl⟩⟩
end
/-- such a list is the only one -/
theorem risS_one : ∀ {xs ys : List Str}, RisS xs → RisS ys → (∀ x, x ∈ xs ↔ x ∈ ys) → xs = ys := by
  intro xs
  induction xs with
  | nil =>
    intro ys _ _ h
    cases ys with
    | nil => rfl
    | cons y ys => exact absurd ((h y).mpr List.mem_cons_self) List.not_mem_nil
  | cons x xs ih =>
    intro ys hx hy h
    cases ys with
    | nil => exact absurd ((h x).mp List.mem_cons_self) List.not_mem_nil
    | cons y ys =>
      obtain ⟨x1, x2⟩ := List.pairwise_cons.mp hx
      obtain ⟨y1, y2⟩ := List.pairwise_cons.mp hy
      have irr : ∀ a : Str, ¬ a.cps.toList < a.cps.toList := fun a z => Std.lt_irrefl z
      have e : x = y := by
        rcases List.mem_cons.mp ((h x).mp List.mem_cons_self) with z | z
        · exact z
        · rcases List.mem_cons.mp ((h y).mpr List.mem_cons_self) with w | w
          · exact w.symm
          · exact absurd (Std.lt_trans (y1 x z) (x1 y w)) (irr y)
      subst e
      have t := ih x2 y2 fun z => by
        constructor
        · intro hz
          rcases List.mem_cons.mp ((h z).mp (List.mem_cons_of_mem _ hz)) with w | w
          · subst w
            exact absurd (x1 z hz) (irr z)
          · exact w
        · intro hz
          rcases List.mem_cons.mp ((h z).mpr (List.mem_cons_of_mem _ hz)) with w | w
          · subst w
            exact absurd (y1 z hz) (irr z)
          · exact w
      rw [t]
end MR

/-! Great ints, the script, the well of drawn numbers. -/
namespace MR
open PySem PySem.Spec PyProof.Rows L2

/-! ### bits -/
theorem Bd.mono {n m : Nat} {i : Int} (h : Bd n i) (l : n ≤ m) : Bd m i := let ⟨b, h0, h1, h2⟩ := h; ⟨b, h0, Nat.le_trans h1 l, h2⟩
theorem Bd.top {n : Nat} {i : Int} (h : Bd n i) : i.natAbs < 2 ^ n := let ⟨_, _, h1, h2⟩ := h; Nat.lt_of_lt_of_le h2 (Nat.pow_le_pow_right (by decide) h1)
theorem Bd.of {n : Nat} {i : Int} (h0 : 0 < n) (h : i.natAbs < 2 ^ n) : Bd n i := ⟨n, h0, Nat.le_refl _, h⟩
theorem Bd.mul {n m : Nat} {i j : Int} (h : Bd n i) (h' : Bd m j) : Bd (n + m) (i * j) := by
  obtain ⟨b, b0, b1, b2⟩ := h
  obtain ⟨c, c0, c1, c2⟩ := h'
  refine ⟨b + c, by omega, by omega, ?_⟩
  rw [Int.natAbs_mul, Nat.pow_add]
  exact Nat.mul_lt_mul'' b2 c2
theorem Bd.add {n : Nat} {i j : Int} (h : Bd n i) (h' : Bd n j) : Bd (n + 1) (i + j) := by
  obtain ⟨b, b0, b1, b2⟩ := h
  obtain ⟨c, c0, c1, c2⟩ := h'
  refine ⟨max b c + 1, by omega, by omega, ?_⟩
  have e1 : 2 ^ b ≤ 2 ^ max b c := Nat.pow_le_pow_right (by decide) (by omega)
  have e2 : 2 ^ c ≤ 2 ^ max b c := Nat.pow_le_pow_right (by decide) (by omega)
  have e3 := Int.natAbs_add_le i j
  rw [Nat.pow_succ]
  omega
theorem Bd.less {n : Nat} {i j : Int} (h : Bd n i) (l : j.natAbs ≤ i.natAbs) : Bd n j := let ⟨b, b0, b1, b2⟩ := h; ⟨b, b0, b1, Nat.lt_of_le_of_lt l b2⟩
theorem Bd.bits {n : Nat} {i : Int} (h : Bd n i) : Builtin.Int.intBits i ≤ n := let ⟨b, _, b1, b2⟩ := h; Nat.le_trans (intBits_le b2) b1
theorem Bd.ofBits {n : Nat} {i : Int} (h0 : 0 < n) (h : Builtin.Int.intBits i ≤ n) : Bd n i := by
  unfold Builtin.Int.intBits at h
  split at h
  · rename_i z
    have z' : i = 0 := by simpa using z
    exact ⟨1, by decide, h0, by rw [z']; decide⟩
  · exact ⟨i.natAbs.log2 + 1, by omega, by omega, Nat.lt_log2_self⟩
theorem Bd.mulOk {i j : Int} (h : Bd 30000000 i) (h' : Bd 30000000 j) : IntMulOk i j := by
  have a := h.bits
  have b := h'.bits
  unfold IntMulOk
  intro z
  rw [Bool.and_eq_true] at z
  have z2 := of_decide_eq_true (show decide (((Builtin.Int.intBits i + Builtin.Int.intBits j : Nat) : Int) > (bitsLine : Int)) = true from z.2)
  have e : bitsLine = 134217728 := by decide
  rw [e] at z2
  omega

/-! ### operations of great ints -/
abbrev CB (i j : Int) : Prop := Bd 30000000 i ∧ Bd 30000000 j
section
variable {X : Cx}
theorem od_mulB : OpR X (binaryOp .Mult) (upO (Cx.ky X) (fI CB fun i j => i * j)) := OpR.imp (opI (C := fun i j => CB i j) (g := fun i j => i * j) fun i j t u s Q E hc q => mul_int q (Bd.mulOk hc.1 hc.2)) fun x y H Q h => up_I h
abbrev CPw (i j : Int) : Prop := (j = 2 ∨ j = 3) ∧ Bd 40000000 i
theorem od_pow : OpR X (binaryOp .Pow) (upO (Cx.ky X) (fI CPw fun i j => i ^ j.toNat)) := OpR.imp (opI (C := fun i j => CPw i j) (g := fun i j => i ^ j.toNat) fun i j t u s Q E hc q => pow_int (by omega) (by
    have b := hc.2.bits
    rcases hc.1 with e | e <;> subst e <;> omega) q) fun x y H Q h => up_I h
end

/-! ### the script -/
def dScLen (t : TD) : TD := fun δ R => t δ fun d => ∃ ns, d = .scr ns ∧ R (.p (.int ns.length))
def fScIx : F2 := fun d e R => ∃ ns i y, d = .scr ns ∧ e = .p (.int i) ∧ atI ns i = some y ∧ R (.p (.int y))
def dItSc (t : TD) : TDI := fun δ R => t δ fun d => ∃ ns, d = .scr ns ∧ R (ns.map .int)
def fLenS : FL := fun ds R => ∃ ns, ds = [.scr ns] ∧ R (.p (.int ns.length))
theorem atI_map {α β : Type} {f : α → β} {xs : List α} {i : Int} {y : α} (h : atI xs i = some y) : atI (xs.map f) i = some (f y) := by
  unfold atI at h ⊢
  rw [List.length_map]
  cases e : ixN xs.length i with
  | none => rw [e] at h; cases h
  | some j =>
    rw [e] at h
    have h' : xs[j]? = some y := h
    show (xs.map f)[j]? = some (f y)
    rw [List.getElem?_map, h']
    rfl
section
variable {X : Cx} {tg e a b : Expr} {ta tb : TD} {pos : Pos}
theorem cd_lenS : CallR X (.builtin "len") (upC (Cx.ky X) fLenS) := CallR.imp call_len_seq fun xs H Q ⟨ds, R, P, dm, r, ⟨ns, e, h⟩, k⟩ => by
  subst e
  obtain ⟨v, q, e1, ⟨a, ev, hs⟩, e2⟩ := r
  have e3 : q = [] := e2
  subst e1 e3 ev
  exact ⟨a, ns.map V.int, rfl, .inl ((hide_ext P H).seqL hs), by rw [List.length_map]; exact k _ H (.p (.int ns.length)) (Ext.refl H) rfl h⟩
theorem de_ixS (ha : PE X a (up (Cx.ky X) ta)) (hb : PE X b (up (Cx.ky X) tb)) (hs : PlainIx b := by exact fun _ _ => rfl) : PE X (.Subscript a b pos) (up (Cx.ky X) (dOp fScIx ta tb)) :=
  PE.imp (pe_ix (IxR.imp (r := upO (Cx.ky X) fScIx) ix_list fun x y H Q ⟨d, e, R, P, dm, r1, r2, ⟨ns, i, z, e1, e2, hz, h⟩, k⟩ => by
    subst e1 e2
    obtain ⟨p, ev, hs⟩ := r1
    exact ⟨p, ns.map V.int, i, .int z, ev, r2, (hide_ext P H).seqL hs, atI_map hz, k _ H (.p (.int z)) (Ext.refl H) rfl h⟩) ha hb hs) fun _ _ _ h => up_op h
theorem itk_scr {κ : Ky} {a : Addr} {ns : List Int} : ItK κ (Itl κ.K a) (ns.map .int) [.scr ns] [.ref a] where
  go := fun H P' i _ r hi => by
    obtain ⟨v, r', e, ⟨a', ev, hq⟩, _⟩ := r
    cases e
    cases ev
    rw [List.length_map] at hi
    exact ⟨ns.map V.int, .int ns[i], (hide_ext P' H).seqL hq, by rw [List.getElem?_map, List.getElem?_eq_getElem hi]; rfl⟩
  stop := fun H P' i _ r hi => by
    obtain ⟨v, r', e, ⟨a', ev, hq⟩, _⟩ := r
    cases e
    cases ev
    exact ⟨ns.map V.int, (hide_ext P' H).seqL hq, by rw [List.length_map] at hi ⊢; exact hi⟩
  yld := fun H P' i x H2 _ r hi hy => by
    obtain ⟨v, r', e, ⟨a', ev, hq⟩, _⟩ := r
    cases e
    cases ev
    obtain ⟨rfl, f⟩ := hy
    have g := f _ ((hide_ext P' H2).seqL hq)
    rw [List.length_map] at hi
    rw [List.getElem?_map, List.getElem?_eq_getElem hi] at g
    cases g
    exact ⟨.int ns[i], by rw [List.getElem?_map, List.getElem?_eq_getElem hi]; rfl, Ext.refl _, rfl⟩
theorem di_scr (he : PE X e (up (Cx.ky X) ta)) : PI X tg e (upI (Cx.ky X) (dItSc ta)) := by
  refine PI.imp (pi_list he) fun σ H R ⟨δ, R', c, L, es, h, k⟩ => ⟨δ, _, c, L, es, h, fun v H1 d x1 r1 ⟨ns, e1, h2⟩ => ?_⟩
  subst e1
  obtain ⟨a, e, q⟩ := id r1
  subst e
  exact ⟨a, rfl, ⟨_, (hide_ext _ _).seqL q⟩, k _ H1 (ns.map .int) [.scr ns] [.ref a] x1 ⟨_, [], rfl, r1, rfl⟩ itk_scr h2⟩
end

/-! ### the well -/
def wellO (i j : Int) : HO := .dK [(.inr "digits", .int i), (.inr "mixed", .int j)]
abbrev WI (i : Int) : Prop := 0 ≤ i ∧ Bd 2000000 i
abbrev WJ (j : Int) : Prop := 0 ≤ j ∧ j < 4294967296
def dWell (t u : TD) : TD := fun δ R => t δ fun d => asI d fun i => u δ fun e => asI e fun j => WI i ∧ WJ j ∧ R .well
/-- what stands in the well: nothing more is told of it than that it is in bounds -/
def dDig (t : TD) : TD := fun δ R => t δ fun d => d = .well ∧ ∀ i, WI i → R (.p (.int i))
def dMix (t : TD) : TD := fun δ R => t δ fun d => d = .well ∧ ∀ j, WJ j → R (.p (.int j))
def dPutD (t u : TD) : TDS := fun E δ => u δ fun e => asI e fun i => t δ fun d => d = .well ∧ WI i ∧ E.nx δ
def dPutM (t u : TD) : TDS := fun E δ => u δ fun e => asI e fun j => t δ fun d => d = .well ∧ WJ j ∧ E.nx δ
theorem dig_mix : ¬ (("digits" : Str) = "mixed") := by decide +kernel
theorem mix_dig : ¬ (("mixed" : Str) = "digits") := by decide +kernel
theorem well_dig {i j : Int} : valV [((.inr "digits" : Key), V.int i), (.inr "mixed", .int j)] (.inr "digits") = some (.int i) := by
  unfold valV
  rw [List.find?_cons_of_pos (by exact decide_eq_true rfl)]
  rfl
theorem well_mix {i j : Int} : valV [((.inr "digits" : Key), V.int i), (.inr "mixed", .int j)] (.inr "mixed") = some (.int j) := by
  unfold valV
  rw [List.find?_cons_of_neg (by exact fun z => dig_mix (Sum.inr.inj (of_decide_eq_true z))), List.find?_cons_of_pos (by exact decide_eq_true rfl)]
  rfl
theorem well_putD {i j k : Int} : putK [((.inr "digits" : Key), V.int i), (.inr "mixed", .int j)] (.inr "digits") (.int k) = [((.inr "digits" : Key), V.int k), (.inr "mixed", .int j)] := by
  unfold putK
  rw [if_pos (by rw [List.any_cons, decide_eq_true rfl]; rfl), List.map_cons, List.map_cons, if_pos rfl, if_neg (fun z => mix_dig (Sum.inr.inj z))]
  rfl
theorem well_putM {i j k : Int} : putK [((.inr "digits" : Key), V.int i), (.inr "mixed", .int j)] (.inr "mixed") (.int k) = [((.inr "digits" : Key), V.int i), (.inr "mixed", .int k)] := by
  unfold putK
  rw [if_pos (by rw [List.any_cons, List.any_cons, decide_eq_true rfl, Bool.true_or, Bool.or_true]), List.map_cons, List.map_cons, if_neg (fun z => dig_mix (Sum.inr.inj z)), if_pos rfl]
  rfl
theorem well_in {κ : Ky} {P : Addr → Bool} {H : Hp} {v : V} (h : Rv κ (hide P H) .well v) : ∃ a i j, v = .ref a ∧ P a = false ∧ H a = some (wellO i j) ∧ WI i ∧ WJ j := by
  obtain ⟨a, o, e, h1, i, j, rfl, w⟩ := h
  unfold hide at h1
  split at h1
  · cases h1
  · rename_i n
    exact ⟨a, i, j, e, Bool.eq_false_iff.mpr n, h1, ⟨w.1, w.2.1⟩, w.2.2⟩
theorem well_mk {i j : Int} (h : WI i) (h' : WJ j) : Well (wellO i j) := ⟨i, j, rfl, h.1, h.2, h'.1, h'.2⟩
theorem ext_well {H : Hp} {a : Addr} {i j i' j' : Int} (h : H a = some (wellO i j)) (w : WI i) (w' : WJ j) (u : WI i') (u' : WJ j') : Ext H (upd H a (wellO i' j')) := fun b o e => by
  by_cases hb : b = a
  · subst hb
    rw [h] at e
    cases e
    exact .inr ⟨well_mk w w', _, upd_same, well_mk u u'⟩
  · exact .inl (by rw [upd_ne hb]; exact e)
section
variable {X : Cx} {e kd km : Expr} {t u : TD} {pos p1 p2 : Pos} {j1 j2 : _}
theorem de_dig (hu : X.A.units + 1 < cLine) (he : PE X e (up (Cx.ky X) t)) (hs : NoSl (.Constant (.str "digits") j1 p1) := by exact fun _ _ => rfl) : PE X (.Subscript e (.Constant (.str "digits") j1 p1) pos) (up (Cx.ky X) (dDig t)) := by
  refine PE.imp (pe_dget hu he pe_str hs) fun σ H Q ⟨δ, R, c, L, es, h, k⟩ => ⟨δ, _, c, L, es, h, fun v H1 d x1 r1 ⟨e1, h1⟩ => ?_⟩
  subst e1
  obtain ⟨a, i, j, ev, pa, ha, w, w'⟩ := well_in r1
  have g := DGet.k (k := .inr "digits") ha
  rw [well_dig] at g
  exact ⟨a, .int i, ev, g, k _ H1 (.p (.int i)) x1 rfl (h1 i w)⟩
theorem de_mix (hu : X.A.units + 1 < cLine) (he : PE X e (up (Cx.ky X) t)) (hs : NoSl (.Constant (.str "mixed") j1 p1) := by exact fun _ _ => rfl) : PE X (.Subscript e (.Constant (.str "mixed") j1 p1) pos) (up (Cx.ky X) (dMix t)) := by
  refine PE.imp (pe_dget hu he pe_str hs) fun σ H Q ⟨δ, R, c, L, es, h, k⟩ => ⟨δ, _, c, L, es, h, fun v H1 d x1 r1 ⟨e1, h1⟩ => ?_⟩
  subst e1
  obtain ⟨a, i, j, ev, pa, ha, w, w'⟩ := well_in r1
  have g := DGet.k (k := .inr "mixed") ha
  rw [well_mix] at g
  exact ⟨a, .int j, ev, g, k _ H1 (.p (.int j)) x1 rfl (h1 j w')⟩
theorem ds_putD {value : Expr} {pos' : Pos} (hu : X.A.units + 1 < cLine) (he : PE X e (up (Cx.ky X) t)) (hv : PE X value (up (Cx.ky X) u)) (hs : swapsWith value (some (.Subscript e (.Constant (.str "digits") j1 p1) pos')) pos.line X.env = pure false := by rfl) :
    PS X (.Assign [.Subscript e (.Constant (.str "digits") j1 p1) pos'] value pos) (upS (Cx.ky X) (dPutD t u)) := by
  refine PS.imp (ps_dput hu he pe_str hv hs) fun D σ H ⟨δ, E, c, L, es, h, f⟩ => ⟨δ, _, c, L, es, h, fun v H1 d x1 r1 h1 => ?_⟩
  obtain ⟨z, rfl, h2⟩ := asI_of h1
  refine ⟨δ, _, c, L, es.on x1, h2, fun w H2 d2 x2 r2 ⟨e2, wz, h3⟩ => ?_⟩
  subst e2
  obtain ⟨a, i, j, ev, pa, ha, wi, wj⟩ := well_in r2
  have ev2 : v = .int z := r1
  subst ev2
  have g := DPut.k (k := .inr "digits") (v := .int z) ha (by show 2 < sizeLine; decide)
  rw [well_putD] at g
  exact ⟨a, _, ev, g, f.nx δ σ _ L ((es.on (x1.trans x2)).on (ext_well ha wi wj wz wj)) h3⟩
theorem ds_putM {value : Expr} {pos' : Pos} (hu : X.A.units + 1 < cLine) (he : PE X e (up (Cx.ky X) t)) (hv : PE X value (up (Cx.ky X) u)) (hs : swapsWith value (some (.Subscript e (.Constant (.str "mixed") j1 p1) pos')) pos.line X.env = pure false := by rfl) :
    PS X (.Assign [.Subscript e (.Constant (.str "mixed") j1 p1) pos'] value pos) (upS (Cx.ky X) (dPutM t u)) := by
  refine PS.imp (ps_dput hu he pe_str hv hs) fun D σ H ⟨δ, E, c, L, es, h, f⟩ => ⟨δ, _, c, L, es, h, fun v H1 d x1 r1 h1 => ?_⟩
  obtain ⟨z, rfl, h2⟩ := asI_of h1
  refine ⟨δ, _, c, L, es.on x1, h2, fun w H2 d2 x2 r2 ⟨e2, wz, h3⟩ => ?_⟩
  subst e2
  obtain ⟨a, i, j, ev, pa, ha, wi, wj⟩ := well_in r2
  have ev2 : v = .int z := r1
  subst ev2
  have g := DPut.k (k := .inr "mixed") (v := .int z) ha (by show 2 < sizeLine; decide)
  rw [well_putM] at g
  exact ⟨a, _, ev, g, f.nx δ σ _ L ((es.on (x1.trans x2)).on (ext_well ha wi wj wi wz)) h3⟩
/-- {'digits': e, 'mixed': e2} -/
theorem de_well {e2 : Expr} (h1 : PE X e (up (Cx.ky X) t)) (h2 : PE X e2 (up (Cx.ky X) u)) : PE X (.Dict [some (.Constant (.str "digits") j1 p1), some (.Constant (.str "mixed") j2 p2)] [e, e2] pos) (up (Cx.ky X) (dWell t u)) := by
  refine PE.imp (pe_disp (pps_cons pe_str h1 (pps_cons pe_str h2 pps_nil)) (by rfl) (by rfl) (fun z => by cases z) (by show 2 ≤ 15; decide)) fun σ H Q ⟨δ, R, c, L, es, h, k⟩ p hp => ?_
  have x0 : Ext H (upd H p (.dK [])) := Ext.new hp
  show up (Cx.ky X) t σ (upd H p (.dK [])) _
  -- the new dict is kept for itself while the values are reckoned
  have pv0 : c.P p = false := by
    cases q : c.P p with
    | false => rfl
    | true => exact absurd hp (es.ext.some (es.pdom p q))
  refine ⟨δ, _, { c with bs := .p (.dict []) :: c.bs, us := .ref p :: c.us }, L, ?_, h, fun v Ha d xa ra ha => ?_⟩
  · have s := es.on x0
    exact ⟨s.len, s.val, s.own, s.sep, s.psys, s.pdom, s.ldom, s.ext, ⟨_, _, rfl, ⟨p, [], rfl, fresh_at es.dom hp, not_well_nil, rfl⟩, s.kept⟩⟩
  obtain ⟨i, rfl, ha2⟩ := asI_of ha
  have ea : Ha p = some (.dK []) := by
    rcases xa p _ upd_same with z | ⟨z, _⟩
    · exact z
    · exact absurd z not_well_nil
  show up (Cx.ky X) u σ Ha _
  refine ⟨δ, _, c, L, es.on (x0.trans xa), ha2, fun w Hb d2 xb rb hb => ?_⟩
  obtain ⟨j, rfl, wi, wj, hb2⟩ := asI_of hb
  have eb : Hb p = some (.dK []) := by
    rcases xb p _ ea with z | ⟨z, _⟩
    · exact z
    · exact absurd z not_well_nil
  have ev : v = .int i := ra
  have ew : w = .int j := rb
  subst ev ew
  refine ⟨eb, [(.inr "digits", .int i), (.inr "mixed", .int j)], rfl, by show 2 ≤ 15; decide, ?_⟩
  have em : mergeK [] [((.inr "digits" : Key), V.int i), (.inr "mixed", .int j)] = [((.inr "digits" : Key), V.int i), (.inr "mixed", .int j)] := by
    unfold mergeK
    rw [List.foldl_cons, List.foldl_cons, List.foldl_nil]
    have e1 : putK ([] : List (Key × V)) (.inr "digits") (.int i) = [(.inr "digits", .int i)] := rfl
    rw [e1]
    unfold putK
    rw [if_neg (by rw [List.any_cons, List.any_nil, Bool.or_false]; exact fun z => dig_mix (Sum.inr.inj (of_decide_eq_true z)))]
    rfl
  rw [em]
  have hP : oor c.P L p = false := by
    cases q : oor c.P L p with
    | false => rfl
    | true => exact absurd hp (es.dom.2 p q)
  refine k _ _ .well (fun b o e => ?_) ⟨p, wellO i j, rfl, ?_, well_mk wi wj⟩ hb2
  · have ne : b ≠ p := ne_of_none e hp
    rw [upd_ne ne]
    exact (x0.trans (xa.trans xb)) b o e
  · rw [hide_at hP]
    exact upd_same
end
end MR

/-! A law's end for promises by data. -/
namespace MR
open PySem PySem.Spec PyProof.Rows L2
/-- what law(script) promises -/
def fLaw : FL := fun ds R => ∃ ns, ds = [.scr ns] ∧ ns.length ≤ 63 ∧ (∀ n ∈ ns, Bd 1048576 n) ∧ R (.p (.bool true))
theorem law_goes {P : Program} {w : World} {K : PySem.W.Frag} {mg mb : Str → Option Value} {k : Nat} {fa a : Addr} {fd : FuncData} {s₁ : Shared} {vs : List Value} {ns : List Int}
    (inK : K.In s₁.heap) (main : s₁.heap.Ns mainGlobals mg) (blt : s₁.heap.Ns builtinsNs mb) (boot : ∀ x : Str, x ≠ "__name__" → mb x = bootBuiltins x) (limit : s₁.heap.NoLimit) (nogen : s₁.gens = #[])
    (sys : ∃ mm, s₁.heap.Ns sysModules mm) (offK : K.lookup sysModules = none)
    (there : s₁.heap.get? a = some { cls := .type "list", data := .seq vs.toArray }) (areI : IntsAre vs ns) (short : ns.length ≤ 63) (bits : ∀ z ∈ ns, Builtin.Int.intBits z ≤ 1048576) (room : Room k callerA)
    (F : ∀ base : Heap, K.In base → base.Ns mainGlobals mg → FnG P w K mg base CX0 k fa fd ["script"] (spD ⟨K, P, w⟩ fLaw)) (bind : ∀ (s : Shared) (u : Value), BindsTo s fd ⟨[u], []⟩ [("script", u)]) :
    codeAny (model P w) callerA (.call (.ref fa) ⟨[.ref a], []⟩) (fun r s' => r = .ok (.ret (.bool true)) ∧ OldK s₁.heap s'.heap ∧ s'.os = s₁.os ∧ AllBare s'.gens) s₁ := by
  obtain ⟨mm, osys, ess, eps, sysAt, sysD, _⟩ := sys
  have rel := vals_ints areI
  have lenV := areI.length
  have aS : a ≠ sysModules := fun e => by
    subst e
    rw [there] at sysAt
    cases sysAt
    cases sysD
  -- what is tracked: the table of modules, and the script where it is none of the module's own objects
  let scr : HO := .frz { cls := .type "list", data := .seq vs.toArray } (.lst (ns.map V.int))
  let H : Hp := fun b => if b = sysModules then some (.frz osys (.own 0)) else if b = a ∧ K.lookup a = none then some scr else none
  have hS : H sysModules = some (.frz osys (.own 0)) := if_pos rfl
  have cases_ : ∀ {b : Addr} {u : HO}, H b = some u → (b = sysModules ∧ u = .frz osys (.own 0)) ∨ (b = a ∧ K.lookup a = none ∧ u = scr) := fun {b u} e => by
    by_cases h1 : b = sysModules
    · have z := (if_pos h1).symm.trans e
      exact .inl ⟨h1, (Option.some.inj z).symm⟩
    · have z := (if_neg h1).symm.trans e
      by_cases h2 : b = a ∧ K.lookup a = none
      · have z2 := (if_pos h2).symm.trans z
        exact .inr ⟨h2.1, h2.2, (Option.some.inj z2).symm⟩
      · have z2 := (if_neg h2).symm.trans z
        cases z2
  have held : HOk P w H s₁.heap := fun b u e => by
    rcases cases_ e with ⟨rfl, rfl⟩ | ⟨rfl, _, rfl⟩
    · exact ⟨sysAt, osys, sysAt⟩
    · exact ⟨there, by rw [List.length_map]; exact Nat.le_trans short (by decide), vs, _, rel, there⟩
  have offD : ∀ {b : Addr} {o : Obj} {es : Array DictEntry} {ep : Nat}, b ≠ sysModules → s₁.heap.get? b = some o → o.data = .dict es ep → H b = none := fun {b o es ep} nb e d => by
    cases q : H b with
    | none => rfl
    | some u =>
      rcases cases_ q with ⟨z, _⟩ | ⟨z, _, _⟩
      · exact absurd z nb
      · subst z
        rw [there] at e
        cases e
        cases d
  have keepNs : ∀ {b : Addr} {m : Str → Option Value}, b ≠ sysModules → s₁.heap.Ns b m → (hidT s₁.heap H).Ns b m := fun {b m} nb ⟨o, es, ep, e, d, r⟩ => ⟨o, es, ep, hidT_get e (offD nb e d), d, r⟩
  have inB : K.In (hidT s₁.heap H) := fun b o e => hidT_get (inK b o e) (by
    cases q : H b with
    | none => rfl
    | some u =>
      rcases cases_ q with ⟨z, _⟩ | ⟨z, z2, _⟩
      · subst z
        rw [offK] at e
        cases e
      · subst z
        rw [z2] at e
        cases e)
  have modB : Mod K mg (hidT s₁.heap H) := ⟨inB, keepNs (by decide) main, ⟨mb, keepNs (by decide) blt, boot⟩, let ⟨mc, h1, h2⟩ := limit; ⟨mc, keepNs (by decide) h1, h2⟩⟩
  have env0 : Env0 P w K mg (hidT s₁.heap H) callerA [] s₁ H := ⟨rfl, modB, fun b o e => of_hidT e, Nat.le_of_eq (hidT_size _ _), trivial, fun b hb => absurd hb (by show b ∉ ([] : List Addr); exact List.not_mem_nil), held, .of_eq nogen⟩
  let Pv : Addr → Bool := fun b => decide (b = sysModules)
  have dm : Dom Pv H := ⟨decide_eq_true rfl, fun b e => by
    have e' : b = sysModules := of_decide_eq_true e
    rw [e', hS]
    exact Option.some_ne_none _⟩
  have hidA : hide Pv H a = H a := hide_at (decide_eq_false aS)
  have reads : SqL K (hide Pv H) a (ns.map V.int) := by
    cases hk : K.lookup a with
    | some o =>
      have e := inK a o hk
      rw [there] at e
      cases e
      exact .inr ⟨_, vs.toArray, _, hk, rfl, rfl, rfl, by rw [List.size_toArray, lenV]; exact Nat.le_trans short (by decide), by simpa using rel⟩
    | none =>
      refine .inl (.inr ⟨{ cls := .type "list", data := .seq vs.toArray }, ?_⟩)
      rw [hidA]
      show (if a = sysModules then _ else if a = a ∧ K.lookup a = none then some scr else none) = some scr
      rw [if_neg aS, if_pos ⟨rfl, hk⟩]
  have prom : spD ⟨K, P, w⟩ fLaw [.ref a] H (fun v _ => v = .bl true) (fun _ _ _ => False) :=
    ⟨[.scr ns], fun d => d = .p (.bool true), Pv, dm, ⟨.ref a, [], rfl, ⟨a, rfl, reads⟩, rfl⟩, ⟨ns, rfl, short, fun z hz => Bd.ofBits (by decide) (bits z hz), rfl⟩, fun v H' r _ q e => by
      subst e
      exact q⟩
  refine codeAny_mono ((F _ inB (keepNs (by decide) main)).go callerA rfl [] s₁ H ⟨[.ref a], []⟩ [.ref a] [.ref a] _ _ room env0 (bind s₁ (.ref a)) (.cons rfl .nil) prom) fun r s' h => ?_
  cases r with
  | error e => exact h.elim
  | ok fl =>
    cases fl with
    | next => exact h.elim
    | brk => exact h.elim
    | cont => exact h.elim
    | ret u =>
      obtain ⟨v, H', os, bare, un, held', r', q⟩ := h
      have q' : v = .bl true := q
      subst q'
      obtain rfl : u = Value.bool true := r'
      refine ⟨rfl, OldK.of_keep fun b o e => ?_, os, bare⟩
      cases q : H b with
      | none => exact un.keep b o e q (by show b ∉ ([] : List Addr); exact List.not_mem_nil) List.not_mem_nil
      | some x =>
        have fz : ∃ ob y, x = .frz ob y := by
          rcases cases_ q with ⟨_, z⟩ | ⟨_, _, z⟩
          · exact ⟨_, _, z⟩
          · exact ⟨_, _, z⟩
        obtain ⟨ob, y, rfl⟩ := fz
        have e1 := (held b _ q).1
        have e2 := (held' b _ (un.frzs b ob y q)).1
        rw [e] at e1
        cases e1
        exact e2
theorem walk_G {l : PySem.W.OpenLaw} {k : Nat} {q : Program} {loose : List Str} {XP : (Str → Option Value) → Heap → Prop} {YP : World → Heap → Prop} {d : DefRec} {K : Params → PySem.W.Frag}
    (hn : l.most = some 63) (hdf : d.params.defaults = []) (hq : importsNone q = true) (hr : Room k callerA) (hY : ∀ (w : World) (h : Heap), YP w h → (K w.params).In h)
    (F : ∀ (w : World) (mg : Str → Option Value) (fa : Addr) (h : Heap), (K w.params).In h → h.Ns mainGlobals mg → mg d.name = some (.ref fa) → (K w.params).lookup sysModules = none ∧
      ∃ fd : FuncData, (∀ (s : Shared) (u : Value), BindsTo s fd ⟨[u], []⟩ [("script", u)]) ∧
        ∀ base : Heap, (K w.params).In base → base.Ns mainGlobals mg → FnG l.prog w (K w.params) mg base CX0 k fa fd ["script"] (spD ⟨K w.params, l.prog, w⟩ fLaw)) :
    PySem.W.WalkO q loose XP YP l.row.toRowW d [] (fun f vs => PySem.call f vs) := by
  refine Att.attach_callB hn hdf fun w s₀ s₁ mg mb fa o pm cd doc a vs ns G Y ho hd hcd hmg hobj hints hlen hbits hg => ?_
  have KX := hY w _ Y
  obtain ⟨offK, fd, hb, hF⟩ := F w mg fa _ KX G.T.g hmg
  have sys := (G.T.seer hq).mods
  exact law_goes KX G.T.g G.T.b G.T.builtins G.T.nolimit hg (let ⟨mm, h1, _⟩ := sys; ⟨mm, h1⟩) offK hobj hints hlen hbits hr hF hb
end MR

/-! More statements; the rule for a def, the reading told behind the body. -/
namespace MR
open PySem PySem.Spec PyProof.Rows L2
section
variable {P : Program} {w : World} {K : PySem.W.Frag} {mg : Str → Option Value} {base : Heap}
theorem okB {x qual : Str} {st : Stmt} {f : Addr} {fd : FuncData} {N ps : List Str} {k : Nat} {g : FL} (F : Fun K x qual st f fd) (S : FnScope N ps (defScope st)) (len : ∀ ds R, g ds R → ds.length = ps.length)
    (hb : ∀ (cdv : Value) (A : Around), A.guards = some [] → ∀ (outer : List PySem.Env) (s : Shared) (H : Hp) (E : XK), Room k (A.deeper (envOfC qual (defScope st) s.heap.objs.size f cdv)) →
      ∃ t, PSs (cxOf CX0 P w K mg base N qual (defScope st) f cdv A outer s H E).nox (defBody st) (upS ⟨K, P, w⟩ t) ∧ ∀ ds R, g ds R → t { nx := fun _ => R (.p .none), rt := R } (startD N ds)) : FnG P w K mg base CX0 (k + 1) f fd ps (spD ⟨K, P, w⟩ g) := by
  refine fnG_of F S (fun vs H Q E ⟨ds, R, P, d, r, h, q⟩ => by rw [← r.len]; exact len ds R h) fun cdv A gd outer s H vs Q E room ⟨ds, R, P', d, r, h, q⟩ => ?_
  obtain ⟨t, ht, hr⟩ := hb cdv A gd outer s H E room
  refine ⟨_, ht.nox, startD N ds, _, ⟨H, P', [], []⟩, _, es_start d r, hr ds R h, ⟨fun δ σ H' L es h' => ?_, fun v H' d' x r' h' => ?_, fun _ _ _ _ _ z => z.elim, fun _ _ _ _ _ z => z.elim⟩⟩
  · exact q .non H' (.p .none) es.ext rfl h'
  · exact q v H' d' x r' h'
/-- a def's promise from a weaker one -/
theorem FnG.impD {k : Nat} {f : Addr} {fd : FuncData} {ps : List Str} {κ : Ky} {g g' : FL} (F : FnG P w K mg base CX0 k f fd ps (spD κ g)) (h : ∀ ds R, g' ds R → g ds R) : FnG P w K mg base CX0 k f fd ps (spD κ g') :=
  F.imp fun vs H Q E ⟨ds, R, Pv, dm, r, q, kk⟩ => ⟨ds, R, Pv, dm, r, h ds R q, kk⟩
end
section
variable {X : Cx} {a b e : Expr} {ta tb : TD} {pos : Pos}
theorem ud_neg : UnR X (unaryOp .USub) (upU (Cx.ky X) fun d R => asI d fun i => R (.p (.int (-i)))) := by
  intro pins s σ H x v Q I rx ⟨d, R, P, dm, r1, h, k⟩
  obtain ⟨i, rfl, h2⟩ := asI_of h
  exact un_neg pins s σ H x v Q I rx ⟨i, r1, k _ H (.p (.int (-i))) (Ext.refl H) rfl h2⟩
/-- a, b = x, y -/
def dPar (i j : Nat) (t : TL) : TDS := fun E δ => t δ fun ds => ∃ d e, ds = [d, e] ∧ E.nx ((δ.set i (.v d)).set j (.v e))
theorem ds_par {i j : Nat} {x y : Str} {t : TL} {px py pt : Pos} {kt k2 pt2} (hc : X.calm = true) (hN : X.N.Nodup) (hi : X.N[i]? = some x) (hj : X.N[j]? = some y) (hij : i ≠ j) (hx : X.env.scope.names.lookup x = some .local) (hy : X.env.scope.names.lookup y = some .local)
    (ha : PA X [a, b] (upA (Cx.ky X) t)) (h : ∀ {ta : TA}, PA X [a, b] ta → PS X (.Assign [.Tuple [.Name x px, .Name y py] kt pt] (.Tuple [a, b] k2 pt2) pos) (tPar i j ta)) : PS X (.Assign [.Tuple [.Name x px, .Name y py] kt pt] (.Tuple [a, b] k2 pt2) pos) (upS (Cx.ky X) (dPar i j t)) := by
  refine PS.imp (h ha) fun D σ H ⟨δ, E, c, L, es, hh, f⟩ => ⟨δ, _, c, L, es, hh, fun vs H1 ds x1 r1 ⟨d, e, e1, h2⟩ => ?_⟩
  subst e1
  obtain ⟨v, q, e1, r2, u, q2, e2, r3, e3⟩ := r1
  have e4 : q2 = [] := e3
  subst e4 e2 e1
  exact ⟨v, u, rfl, f.nx _ _ H1 L (((es.on x1).set r2).set r3) h2⟩
end
end MR

/-! More operations: == of what holds no dict, == with an empty list, small powers. -/
namespace MR
open PySem PySem.Spec PyProof.Rows L2
/-- d == e where no dict lies within -/
def fEqQ (neg : Bool) : F2 := fun d e R => asP d fun x => asP e fun y => x.plain = true ∧ y.plain = true ∧ min x.depth y.depth ≤ 60 ∧ R (.p (.bool (if neg then !PyData.eqv x y else PyData.eqv x y)))
/-- xs == [] -/
def fEqE (neg : Bool) : F2 := fun d e R => asL d fun xs => e = .p (.list []) ∧ R (.p (.bool (if neg then !xs.isEmpty else xs.isEmpty)))
abbrev CPwS (i j : Int) : Prop := 0 ≤ j ∧ j ≤ 100 ∧ i.natAbs ≤ 16
section
variable {X : Cx}
theorem od_eqQ (hu : X.A.units + 64 < cLine) : OpR X (compareOp .Eq) (upO (Cx.ky X) (fEqQ false)) := by
  intro pins s σ H x y v u Q I rx ry ⟨d, e, R, P, dm, r1, r2, h, k⟩
  obtain ⟨a, rfl, h0⟩ := asP_of h
  obtain ⟨b, rfl, h1, h2, h3, h4⟩ := asP_of h0
  obtain ⟨as, ra, _⟩ := rp_reads dm.1 I r1 rx
  obtain ⟨bs, rb, _⟩ := rp_reads dm.1 I r2 ry
  exact SeqAt.eq_plain ra rb h1 h2 (by omega) ⟨.bl _, H, I, rfl, k _ H (.p (.bool (PyData.eqv a b))) (Ext.refl H) rfl h4⟩
theorem od_neQ (hu : X.A.units + 64 < cLine) : OpR X (compareOp .NotEq) (upO (Cx.ky X) (fEqQ true)) := by
  intro pins s σ H x y v u Q I rx ry ⟨d, e, R, P, dm, r1, r2, h, k⟩
  obtain ⟨a, rfl, h0⟩ := asP_of h
  obtain ⟨b, rfl, h1, h2, h3, h4⟩ := asP_of h0
  obtain ⟨as, ra, _⟩ := rp_reads dm.1 I r1 rx
  obtain ⟨bs, rb, _⟩ := rp_reads dm.1 I r2 ry
  exact SeqAt.ne_plain ra rb h1 h2 (by omega) ⟨.bl _, H, I, rfl, k _ H (.p (.bool (!PyData.eqv a b))) (Ext.refl H) rfl h4⟩
theorem od_eqE (hu : X.A.units < cLine) : OpR X (compareOp .Eq) (upO (Cx.ky X) (fEqE false)) := by
  intro pins s σ H x y v u Q I rx ry ⟨d, e, R, P, dm, r1, r2, h, k⟩
  obtain ⟨xs, rfl, rfl, h1⟩ := asL_of h
  obtain ⟨as, ra, _⟩ := rp_reads dm.1 I r1 rx
  obtain ⟨bs, rb, _⟩ := rp_reads dm.1 I r2 ry
  have hq : EP X pins σ Q (.bool xs.isEmpty) s := ⟨.bl _, H, I, rfl, k _ H (.p (.bool xs.isEmpty)) (Ext.refl H) rfl h1⟩
  cases ra with
  | list a1 a2 a3 a4 => cases rb with
    | list b1 b2 b3 b4 =>
      have n1 := SeqAt.ReadsAll.length _ _ _ a4
      have n2 := SeqAt.ReadsAll.length _ _ _ b4
      rw [Array.length_toList] at n1 n2
      rw [List.length_nil] at n2
      cases xs with
      | nil =>
        rw [List.length_nil] at n1
        exact SeqAt.RcAt.lists (e := fun _ => true) ⟨_, a1, a2, _, a3⟩ ⟨_, b1, b2, _, b3⟩ (by omega) hu (fun j h1 h2 => absurd h1 (by omega)) _ _ _ _ (by rw [List.all_eq_true.mpr fun _ _ => rfl]; exact hq)
      | cons z zs =>
        rw [List.length_cons] at n1
        exact SeqAt.RcAt.lists_lengths ⟨_, a1, a2, _, a3⟩ ⟨_, b1, b2, _, b3⟩ (by simp; omega) hu _ _ _ _ hq
theorem od_neE (hu : X.A.units < cLine) : OpR X (compareOp .NotEq) (upO (Cx.ky X) (fEqE true)) := by
  intro pins s σ H x y v u Q I rx ry ⟨d, e, R, P, dm, r1, r2, h, k⟩
  obtain ⟨xs, rfl, rfl, h1⟩ := asL_of h
  obtain ⟨as, ra, _⟩ := rp_reads dm.1 I r1 rx
  obtain ⟨bs, rb, _⟩ := rp_reads dm.1 I r2 ry
  have hq : EP X pins σ Q (.bool (!xs.isEmpty)) s := ⟨.bl _, H, I, rfl, k _ H (.p (.bool (!xs.isEmpty))) (Ext.refl H) rfl h1⟩
  cases ra with
  | list a1 a2 a3 a4 => cases rb with
    | list b1 b2 b3 b4 =>
      have n1 := SeqAt.ReadsAll.length _ _ _ a4
      have n2 := SeqAt.ReadsAll.length _ _ _ b4
      rw [Array.length_toList] at n1 n2
      rw [List.length_nil] at n2
      cases xs with
      | nil =>
        rw [List.length_nil] at n1
        exact SeqAt.RcNeAt.lists (e := fun _ => true) ⟨_, a1, a2, _, a3⟩ ⟨_, b1, b2, _, b3⟩ (by omega) hu (fun j h1 h2 => absurd h1 (by omega)) _ _ _ _ (by rw [List.all_eq_true.mpr fun _ _ => rfl]; exact hq)
      | cons z zs =>
        rw [List.length_cons] at n1
        exact SeqAt.RcNeAt.lists_lengths ⟨_, a1, a2, _, a3⟩ ⟨_, b1, b2, _, b3⟩ (by simp; omega) hu _ _ _ _ hq
theorem od_powC : OpR X (binaryOp .Pow) (upO (Cx.ky X) (fI CPwS fun i j => i ^ j.toNat)) := OpR.imp (opI (C := fun i j => CPwS i j) (g := fun i j => i ^ j.toNat) fun i j t u s Q E hc q => pow_int hc.1 (by
    have b : Builtin.Int.intBits i ≤ 5 := Bd.bits (Bd.of (by decide) (Nat.lt_of_le_of_lt hc.2.2 (by decide)))
    have h1 := hc.1
    have h2 := hc.2.1
    have : (Builtin.Int.intBits i : Int) * j ≤ 5 * 100 := Int.mul_le_mul (by omega) h2 h1 (by decide)
    omega) q) fun x y H Q h => up_I h
end
section
variable {X : Cx} {a b c : Expr} {ta tb tc : TD} {pos : Pos}
theorem up_chain {κ : Ky} {f f' : F2} {σ : Sg} {H : Hp} {Q : VK} (h : up κ (dChain f f' ta tb tc) σ H Q) : tChain (upO κ f) (upO κ f') (up κ ta) (up κ tb) (up κ tc) σ H Q := by
  obtain ⟨δ, R, c, L, es, h, k⟩ := h
  refine ⟨δ, _, c, L, es, h, fun v H1 d x1 r1 h1 => ⟨δ, _, c, L, es.on x1, h1, fun u H2 e x2 r2 h2 => ?_⟩⟩
  refine ⟨d, e, _, _, (es.on (x1.trans x2)).dom, r1.ext (x2.hide _), r2, h2, fun z H3 r x3 q1 q2 => ?_⟩
  obtain ⟨b, rfl, q3⟩ := asB_of q2
  cases b with
  | true =>
    refine ⟨true, q1, ⟨δ, _, c, L, es.on (x1.trans (x2.trans x3)), q3, fun y H4 g x4 r4 h4 => ?_⟩⟩
    exact ⟨e, g, R, _, (es.on (x1.trans (x2.trans (x3.trans x4)))).dom, r2.ext ((x3.trans x4).hide _), r4, h4, fun z' H5 r' x5 q5 q6 => k z' H5 r' (x1.trans (x2.trans (x3.trans (x4.trans x5)))) q5 q6⟩
  | false => exact ⟨false, q1, k (.bl false) H3 (.p (.bool false)) (x1.trans (x2.trans x3)) rfl q3⟩
theorem dt_chain {op op' : CmpOp} {f f' : F2} (ho : OpR X (compareOp op) (upO (Cx.ky X) f)) (ho' : OpR X (compareOp op') (upO (Cx.ky X) f')) (ha : PE X a (up (Cx.ky X) ta)) (hb : PE X b (up (Cx.ky X) tb)) (hc : PE X c (up (Cx.ky X) tc)) (hm : lastMarks [op, op'] [b, c] = false := by with_unfolding_all rfl) :
    PT X (.Compare a [op, op'] [b, c] pos) (upT (Cx.ky X) (dB (dChain f f' ta tb tc))) := by
  refine PT.imp (pt_chain ho ho' ha hb hc hm) fun σ H Q ⟨δ, R, c, L, es, h, k⟩ => ?_
  refine up_chain ⟨δ, _, c, L, es, h, fun v H' d x r hd => ?_⟩
  obtain ⟨b, rfl, q⟩ := asB_of hd
  exact ⟨b, r, k b H' x q⟩
end
end MR

/-! Reading: the formulas of data, unfolded; walks with invariants; bounds of data. -/
namespace MR
open PySem PySem.Spec PyProof.Rows L2
theorem u1 {k : Nat} {A : Around} (hr : Room k A) : A.units + 1 < cLine := by
  have := hr.un
  omega
/-! ### isinstance, len -/
def isT (d : PyData) : Bool := match d with | .tuple _ => true | _ => false
def isS (d : PyData) : Bool := match d with | .str _ => true | _ => false
theorem isi_tuple {d : PyData} {R : DV → Prop} (h : R (.p (.bool (isT d)))) : fIsi [.p d, .raw (.ty "tuple")] R := ⟨d, "tuple", isT d, rfl, by cases d <;> rfl, h⟩
theorem isi_str {d : PyData} {R : DV → Prop} (h : R (.p (.bool (isS d)))) : fIsi [.p d, .raw (.ty "str")] R := ⟨d, "str", isS d, rfl, by cases d <;> rfl, h⟩
theorem len_str {x : Str} {R : DV → Prop} (hz : x.length ≤ sizeLine) (h : R (.p (.int x.length))) : fLen [.p (.str x)] R := ⟨_, _, rfl, rfl, hz, h⟩
theorem len_lst {x : List PyData} {R : DV → Prop} (hz : x.length ≤ sizeLine) (h : R (.p (.int x.length))) : fLen [.p (.list x)] R := ⟨_, _, rfl, rfl, hz, h⟩
theorem len_tup {x : List PyData} {R : DV → Prop} (hz : x.length ≤ sizeLine) (h : R (.p (.int x.length))) : fLen [.p (.tuple x)] R := ⟨_, _, rfl, rfl, hz, h⟩
theorem all_of {bs : List Bool} {R : DV → Prop} (h : R (.p (.bool (bs.all id)))) : fAll [.p (.list (bs.map .bool))] R := ⟨bs, rfl, h⟩
/-! ### walks -/
/-- a comprehension whose part is a function of the element -/
theorem lc_fm {g : TDG} {tt : TB} {te : TD} {δ : Dn} {fin : List PyData → Prop} (f : PyData → Option PyData) : ∀ (ds acc : List PyData),
    (∀ d ∈ ds, ∀ (K1 : PyData → Prop) (K2 : Prop), (match f d with | some z => K1 z | none => K2) → g (.p d) δ fun δ2 => tt δ2 fun b => if b = true then te δ2 fun y => asP y K1 else K2) →
    fin (acc ++ ds.filterMap f) → lcL g tt te δ fin ds acc
  | [], acc, _, h => by rw [List.filterMap_nil, List.append_nil] at h; exact h
  | d :: ds, acc, hd, h => by
    refine hd d List.mem_cons_self _ _ ?_
    cases e : f d with
    | some z => exact lc_fm f ds (acc ++ [z]) (fun d' m => hd d' (List.mem_cons_of_mem _ m)) (by rw [List.filterMap_cons_some e] at h; rw [List.append_assoc]; exact h)
    | none => exact lc_fm f ds acc (fun d' m => hd d' (List.mem_cons_of_mem _ m)) (by rw [List.filterMap_cons_none e] at h; exact h)
theorem lc_map {g : TDG} {te : TD} {δ : Dn} {fin : List PyData → Prop} (f : PyData → PyData) {ds : List PyData}
    (hd : ∀ d ∈ ds, ∀ (K1 : PyData → Prop), K1 (f d) → g (.p d) δ fun δ2 => te δ2 fun y => asP y K1) (h : fin (ds.map f)) : lcL g dYes te δ fin ds [] := by
  refine lc_fm (fun d => some (f d)) ds [] (fun d m K1 K2 hk => hd d m K1 hk) ?_
  rw [List.nil_append, List.filterMap_eq_map']
  exact h
/-- one whose part is any of some -/
theorem lc_rel {g : TDG} {te : TD} {δ : Dn} {fin : List PyData → Prop} (p : PyData → Prop) : ∀ (ds acc : List PyData),
    (∀ d ∈ ds, ∀ (K1 : PyData → Prop), (∀ z, p z → K1 z) → g (.p d) δ fun δ2 => te δ2 fun y => asP y K1) →
    (∀ zs : List PyData, zs.length = ds.length → (∀ z ∈ zs, p z) → fin (acc ++ zs)) → lcL g dYes te δ fin ds acc
  | [], acc, _, h => by have := h [] rfl (by simp); rw [List.append_nil] at this; exact this
  | d :: ds, acc, hd, h => by
    refine hd d List.mem_cons_self _ fun z hz => ?_
    exact lc_rel p ds (acc ++ [z]) (fun d' m => hd d' (List.mem_cons_of_mem _ m)) fun zs e hp => by
      rw [List.append_assoc]
      exact h (z :: zs) (by simp [e]) fun y hy => by
        rcases List.mem_cons.mp hy with e | m
        · rw [e]; exact hz
        · exact hp y m
/-- for, what stays -/
theorem for_inv {E : DE} {g : TDG} {tb : TDS} (I : Dn → Prop) : ∀ (ds : List PyData) (δ : Dn), I δ → (∀ d ∈ ds, ∀ δ', I δ' → ∀ (E' : DE), E'.rt = E.rt → (∀ δ2, I δ2 → E'.nx δ2) → (∀ δ2, I δ2 → E'.ct δ2) → (∀ δ2, E.nx δ2 → E'.bk δ2) → g (.p d) δ' fun δ2 => tb E' δ2) → (∀ δ', I δ' → E.nx δ') → forL E g tb ds δ
  | [], δ, h, _, he => he δ h
  | d :: ds, δ, h, hb, he => hb d List.mem_cons_self δ h _ rfl (fun δ2 h2 => for_inv I ds δ2 h2 (fun d' m => hb d' (List.mem_cons_of_mem _ m)) he) (fun δ2 h2 => for_inv I ds δ2 h2 (fun d' m => hb d' (List.mem_cons_of_mem _ m)) he) (fun _ h => h)
end MR

/-! A text compared with anything; tuples of texts; small repetitions; more built-ins. -/
namespace MR
open PySem PySem.Spec PyProof.Rows L2
section
open PySem.SeqAt PySem.MeetsSeq
theorem dict_no_str (l : Addr) (es : Array DictEntry) (ep : Nat) (dd : Option Addr) (sl : Array (Option Value)) (b : Str) (u : Tok) :
    Meets (Builtin.«dict.__eq__» ⟨[.ref l, .str b u], []⟩) (fun _ R s => s.heap.get? l = some { cls := .type "dict", dict := dd, data := .dict es ep, slots := sl } ∧ R (.ok (.ret .notImplemented)) s) :=
  .of_wp fun prog w A R s h => by obtain ⟨hp, g, d, tk, os⟩ := s; obtain ⟨hl, h⟩ := h; have f1 := F.sub_str_dict; wp_walk using wpAny_loadPart' hl, wpAny_load hl; exact ⟨_, rfl, h⟩
theorem str_no_dict (b : Str) (u : Tok) (l : Addr) (es : Array DictEntry) (ep : Nat) (dd : Option Addr) (sl : Array (Option Value)) :
    Meets (Builtin.«str.__eq__» ⟨[.str b u, .ref l], []⟩) (fun _ R s => s.heap.get? l = some { cls := .type "dict", dict := dd, data := .dict es ep, slots := sl } ∧ R (.ok (.ret .notImplemented)) s) :=
  .of_wp fun prog w A R s h => by obtain ⟨hp, g, d, tk, os⟩ := s; obtain ⟨hl, h⟩ := h; wp_walk using wpAny_loadPart' hl, wpAny_load hl; exact ⟨_, rfl, h⟩
variable {A : Around} {s : Shared}
theorem rc_dict_str {l : Addr} {o : Obj} {es : Array DictEntry} {ep : Nat} (b : Str) (u : Tok) (ho : s.heap.get? l = some o) (hc : o.cls = .type "dict") (hd : o.data = .dict es ep) (hu : A.units < cLine) : RcAt A s (.ref l) (.str b u) false := fun prog w E Q h => by
  obtain ⟨cls, dd, data, sl⟩ := o
  simp only at hc hd
  subst hc hd
  exact rc_eq_decline_or (k := false) ⟨_, ho, rfl⟩ (typeIs_str s b u) (by decide) F.sub_str_dict F.slot_dict_eq F.slot_str_eq_refl
    (fun _ hq => call_meets F.slot_dict_eq ⟨_, ho, rfl⟩ F.entry_dict_eq (F.args_dict_eq_2 _ _) (dict_no_str l es ep dd sl b u) ⟨ho, hq⟩)
    (fun _ hq => call_meets F.slot_str_eq_refl (typeIs_str s b u) F.entry_str_eq (F.args_str_eq_2 _ _) (str_no_dict b u l es ep dd sl) ⟨ho, hq⟩)
    (fun _ hq => wpAny_of_eq (rfl : isSame (.ref l) (.str b u) = pure false) hq) (.inr hu) h
theorem rc_str_dict {l : Addr} {o : Obj} {es : Array DictEntry} {ep : Nat} (b : Str) (u : Tok) (ho : s.heap.get? l = some o) (hc : o.cls = .type "dict") (hd : o.data = .dict es ep) (hu : A.units < cLine) : RcAt A s (.str b u) (.ref l) false := fun prog w E Q h => by
  obtain ⟨cls, dd, data, sl⟩ := o
  simp only at hc hd
  subst hc hd
  exact rc_eq_decline_or (k := false) (typeIs_str s b u) ⟨_, ho, rfl⟩ (by decide) F.sub_dict_str F.slot_str_eq F.slot_dict_eq_refl
    (fun _ hq => call_meets F.slot_str_eq (typeIs_str s b u) F.entry_str_eq (F.args_str_eq_2 _ _) (str_no_dict b u l es ep dd sl) ⟨ho, hq⟩)
    (fun _ hq => call_meets F.slot_dict_eq_refl ⟨_, ho, rfl⟩ F.entry_dict_eq (F.args_dict_eq_2 _ _) (dict_no_str l es ep dd sl b u) ⟨ho, hq⟩)
    (fun _ hq => wpAny_of_eq (rfl : isSame (.str b u) (.ref l) = pure false) hq) (.inr hu) h
theorem eq_str_dict {l : Addr} {o : Obj} {es : Array DictEntry} {ep : Nat} (b : Str) (u : Tok) (ho : s.heap.get? l = some o) (hc : o.cls = .type "dict") (hd : o.data = .dict es ep) (hu : A.units < cLine) : EqAt A s (.str b u) (.ref l) false := fun prog w E Q h => by
  unfold eqBool
  refine wpAny_holding ?_
  refine wpAny_ite_split (fun hab => absurd (eq_of_beq hab) nofun) (fun _ => ?_)
  exact wpAny_bind (rc_str_dict b u ho hc hd hu prog w E _ (wpAny_truthy_bool h))
/-- data == a text -/
def eqW (x : PyData) (y : Str) : Bool := match x with
  | .str z => decide (z = y)
  | _ => false
theorem eqv_sw {x : PyData} {y : Str} : PyData.eqv x (.str y) = eqW x y := by
  cases x with
  | str z =>
    simp only [PyData.eqv, eqW]
    by_cases h : z = y
    · subst h; rw [decide_eq_true rfl]; exact beq_self_eq_true z
    · rw [decide_eq_false h]; exact beq_eq_false_iff_ne.mpr h
  | _ => simp only [PyData.eqv, eqW]
theorem eqv_ws {x : PyData} {y : Str} : PyData.eqv (.str y) x = eqW x y := by
  cases x with
  | str z =>
    simp only [PyData.eqv, eqW]
    by_cases h : z = y
    · subst h; rw [decide_eq_true rfl]; exact beq_self_eq_true z
    · rw [decide_eq_false h]; exact beq_eq_false_iff_ne.mpr (Ne.symm h)
  | _ => simp only [PyData.eqv, eqW]
theorem rc_word {x : PyData} {v : Value} {as : List Addr} (y : Str) (t : Tok) (r : Reads s.heap v x as) (hu : A.units + 64 < cLine) : RcAt A s v (.str y t) (eqW x y) := by
  have ry : Reads s.heap (.str y t) (.str y) [] := .str y t
  cases r with
  | list h1 h2 h3 h4 => exact RcAt.list_str y t ⟨_, h1, h2, _, h3⟩ (by omega)
  | tuple h1 h2 h3 h4 => exact RcAt.tuple_str y t ⟨_, h1, h2, _, h3⟩ (by omega)
  | dict h1 h2 h3 h4 h5 => exact rc_dict_str y t h1 h2 h3 (by omega)
  | none => rw [← eqv_sw]; exact rcAt_plain (as := []) (bs := []) .none ry rfl rfl (by show A.units + min 0 0 < cLine; omega)
  | bool b => rw [← eqv_sw]; exact rcAt_plain (as := []) (bs := []) (.bool b) ry rfl rfl (by show A.units + min 0 0 < cLine; omega)
  | int i u => rw [← eqv_sw]; exact rcAt_plain (as := []) (bs := []) (.int i u) ry rfl rfl (by show A.units + min 0 0 < cLine; omega)
  | str z u => rw [← eqv_sw]; exact rcAt_plain (as := []) (bs := []) (.str z u) ry rfl rfl (by show A.units + min 0 0 < cLine; omega)
theorem eq_word {x : PyData} {v : Value} {as : List Addr} (y : Str) (t : Tok) (r : Reads s.heap v x as) (hu : A.units + 64 < cLine) : EqAt A s (.str y t) v (eqW x y) := by
  have ry : Reads s.heap (.str y t) (.str y) [] := .str y t
  cases r with
  | list h1 h2 h3 h4 => exact EqAt.str_list y t ⟨_, h1, h2, _, h3⟩ (by omega)
  | tuple h1 h2 h3 h4 => exact EqAt.str_tuple y t ⟨_, h1, h2, _, h3⟩ (by omega)
  | dict h1 h2 h3 h4 h5 => exact eq_str_dict y t h1 h2 h3 (by omega)
  | none => rw [← eqv_ws]; exact eqAt_plain _ _ _ _ _ _ [] [] ry .none rfl rfl (by show A.units + min 0 0 < cLine; omega)
  | bool b => rw [← eqv_ws]; exact eqAt_plain _ _ _ _ _ _ [] [] ry (.bool b) rfl rfl (by show A.units + min 0 0 < cLine; omega)
  | int i u => rw [← eqv_ws]; exact eqAt_plain _ _ _ _ _ _ [] [] ry (.int i u) rfl rfl (by show A.units + min 0 0 < cLine; omega)
  | str z u => rw [← eqv_ws]; exact eqAt_plain _ _ _ _ _ _ [] [] ry (.str z u) rfl rfl (by show A.units + min 0 0 < cLine; omega)
end
/-- == a text, whatever stands on the left -/
def fEqW : F2 := fun d e R => asP d fun x => asS e fun y => R (.p (.bool (eqW x y)))
/-- in a tuple of texts -/
def inW (x : PyData) (ys : List Str) : Bool := ys.any fun y => eqW x y
def fInW (neg : Bool) : F2 := fun d e R => asP d fun x => ∃ ys : List Str, e = .p (.tuple (ys.map .str)) ∧ R (.p (.bool (if neg then !inW x ys else inW x ys)))
theorem strs_vals {K : PySem.W.Frag} {H : Hp} : ∀ {ys : List Str} {vs : List V} {us : List Value}, RpA K H (ys.map .str) vs → Vals vs us → PySem.W.EachIs (fun v x => ∃ t, v = Value.str x t) us ys
  | [], vs, us, h, r => by
    rw [show vs = [] from h] at r
    cases r
    exact .nil
  | y :: ys, vs, us, ⟨v, q, e, h, t⟩, r => by
    rw [e] at r
    cases r with
    | cons r1 r2 =>
      rw [show v = .str y from h] at r1
      exact .cons r1 (strs_vals t r2)
def strOf (v : Value) : Str := match v with
  | .str x _ => x
  | _ => Str.empty
theorem each_mem {P : Value → Prop} : ∀ {us : List Value} {ys : List Str}, PySem.W.EachIs (fun v x => ∃ t, v = Value.str x t) us ys → (∀ x t, P (.str x t)) → ∀ u ∈ us, P u
  | _, _, .nil, _, u, h => absurd h List.not_mem_nil
  | _, _, .cons ⟨t, e⟩ r, hp, u, h => by
    rcases List.mem_cons.mp h with z | m
    · rw [z, e]; exact hp _ _
    · exact each_mem r hp u m
theorem each_any {x : PyData} : ∀ {us : List Value} {ys : List Str}, PySem.W.EachIs (fun v x => ∃ t, v = Value.str x t) us ys → (us.any fun u => eqW x (strOf u)) = inW x ys
  | _, _, .nil => rfl
  | _, _, .cons ⟨t, e⟩ r => by
    have ih := each_any (x := x) r
    unfold inW at ih ⊢
    rw [List.any_cons, List.any_cons, ih, e]
    rfl
section
variable {X : Cx}
theorem od_eqW (hu : X.A.units + 64 < cLine) : OpR X (compareOp .Eq) (upO (Cx.ky X) fEqW) := by
  intro pins s σ H x y v u Q I rx ry ⟨d, e, R, P, dm, r1, r2, h, k⟩
  obtain ⟨a, rfl, h0⟩ := asP_of h
  obtain ⟨b, rfl, h1⟩ := asS_of h0
  obtain ⟨as, ra, _⟩ := rp_reads dm.1 I r1 rx
  rw [show y = .str b from r2] at ry
  obtain ⟨t, rfl⟩ := ry
  exact rc_word b t ra hu _ _ _ _ ⟨.bl _, H, I, rfl, k _ H (.p (.bool (eqW a b))) (Ext.refl H) rfl h1⟩
theorem od_inW (hu : X.A.units + 66 < cLine) : OpR X (compareOp .In) (upO (Cx.ky X) (fInW false)) := by
  intro pins s σ H x y v u Q I rx ry ⟨d, e, R, P, dm, r1, r2, h, k⟩
  obtain ⟨a, rfl, ys, rfl, h1⟩ := asP_of h
  obtain ⟨as, ra, _⟩ := rp_reads dm.1 I r1 rx
  obtain ⟨p, xs, e, q, rp⟩ := r2
  subst e
  obtain rfl : u = Value.ref p := ry
  obtain ⟨its, rv, tl, _⟩ := I.tuple ((hide_ext P H).seqT q)
  have each := strs_vals rp rv
  refine SeqAt.in_tupleAt (fun u => eqW a (strOf u)) tl (fun z hz => ?_) ?_
  · exact each_mem (P := fun z => SeqAt.EqAt X.A.in1 s z v (eqW a (strOf z))) each (fun x t => eq_word x t ra (by show X.A.units + 1 + 64 < cLine; omega)) z (by simpa using hz)
  · have e : (its.toArray.any fun u => eqW a (strOf u)) = inW a ys := by rw [List.any_toArray]; exact each_any each
    rw [e]
    exact ⟨.bl _, H, I, rfl, k _ H (.p (.bool (inW a ys))) (Ext.refl H) rfl h1⟩
theorem od_notinW (hu : X.A.units + 66 < cLine) : OpR X (compareOp .NotIn) (upO (Cx.ky X) (fInW true)) := by
  intro pins s σ H x y v u Q I rx ry ⟨d, e, R, P, dm, r1, r2, h, k⟩
  obtain ⟨a, rfl, ys, rfl, h1⟩ := asP_of h
  obtain ⟨as, ra, _⟩ := rp_reads dm.1 I r1 rx
  obtain ⟨p, xs, e, q, rp⟩ := r2
  subst e
  obtain rfl : u = Value.ref p := ry
  obtain ⟨its, rv, tl, _⟩ := I.tuple ((hide_ext P H).seqT q)
  have each := strs_vals rp rv
  refine SeqAt.notIn_tupleAt (fun u => eqW a (strOf u)) tl (fun z hz => ?_) ?_
  · exact each_mem (P := fun z => SeqAt.EqAt X.A.in1 s z v (eqW a (strOf z))) each (fun x t => eq_word x t ra (by show X.A.units + 1 + 64 < cLine; omega)) z (by simpa using hz)
  · have e : (its.toArray.any fun u => eqW a (strOf u)) = inW a ys := by rw [List.any_toArray]; exact each_any each
    rw [e]
    exact ⟨.bl _, H, I, rfl, k _ H (.p (.bool (!inW a ys))) (Ext.refl H) rfl h1⟩
end
end MR

/-! tuple * int; int of a truth value; max of a list of ints; == (). -/
namespace MR
open PySem PySem.Spec PyProof.Rows L2
theorem tuple_mul0 (l : Addr) (items : Array Value) (n : Nat) (dd : Option Addr) (sl : Array (Option Value)) (x : Int) (u : Tok) (c0 : (decide (x < -(2 ^ 63)) || decide (x ≥ 2 ^ 63)) = false) (c1 : (items.isEmpty || x == 1) = false) (c2 : (decide (x ≤ 0) || items.isEmpty) = true) :
    Meets (Builtin.«tuple.__mul__» ⟨[.ref l, .int x u], []⟩) (fun _ R s => s.heap.get? l = some { cls := .type "tuple", dict := dd, data := .seq items n, slots := sl } ∧
      R (.ok (.ret (Value.ref s.heap.objs.size))) { s with heap := s.heap.push { cls := Value.type "tuple", data := Data.seq #[] }, toks := s.toks }) :=
  .of_wp fun prog w A R s h => by
    obtain ⟨hp, g, d, tk, os⟩ := s
    obtain ⟨hl, h⟩ := h
    have f1 := AutoSeq1.idx_int
    wp_walk using AutoSeq1.wpAny_loadPart' hl
    repeat (first
      | (refine wpAny_ite_false (decide_eq_false (by rw [c0]; exact Bool.false_ne_true)) ?_; wp_walk using AutoSeq1.wpAny_loadPart' hl)
      | (refine wpAny_ite_false (decide_eq_false (by rw [c1]; exact Bool.false_ne_true)) ?_; wp_walk using AutoSeq1.wpAny_loadPart' hl)
      | (refine wpAny_ite_true (decide_eq_true c2) ?_; wp_walk using AutoSeq1.wpAny_loadPart' hl))
    exact ⟨_, rfl, h⟩
/-- t * 0 -/
theorem op_repT0 {X : Cx} : OpR X (binaryOp .Mult) (fun x y H Q => ∃ l xs, x = .ref l ∧ y = .int 0 ∧ SqT X.K H l xs ∧ xs ≠ [] ∧ ∀ p, H p = none → Q (.ref p) (upd H p (.tup []))) := by
  intro pins s σ H x y v u Q I rx ry h
  obtain ⟨l, xs, rfl, rfl, hT, hne, q⟩ := h
  cases rx
  obtain ⟨t, rfl⟩ := ry
  obtain ⟨its, r, ⟨⟨cls, dd, data, sl⟩, ho, hc, n, hd⟩, hs⟩ := I.tuple hT
  simp only at hc hd
  subst hc hd
  have hle : its.length = xs.length := r.length.symm
  have hn : its ≠ [] := fun e => hne (by
    rw [e] at hle
    exact List.eq_nil_of_length_eq_zero hle.symm)
  have hi : its.toArray.isEmpty = false := by
    cases its with
    | nil => exact absurd rfl hn
    | cons a b => rfl
  have c0 : (decide ((0 : Int) < -(2 ^ 63)) || decide ((0 : Int) ≥ 2 ^ 63)) = false := by decide
  have c1 : (its.toArray.isEmpty || (0 : Int) == 1) = false := by rw [hi]; rfl
  have c2 : (decide ((0 : Int) ≤ 0) || its.toArray.isEmpty) = true := by rw [hi]; rfl
  refine wpAny_binaryOp_repeat_ref (T := "tuple") (U := "int") (by decide) ⟨_, ho, rfl⟩ (fun s' => typeIs_int s' 0 t) noFill_tuple_mul F.fills_int_mul F.slot_int_rmul repeat_tuple F.slot_int_index.lookup
    (call_meets F.slot_int_rmul (typeIs_int s 0 t) F.entry_int_rmul (F.args_int_rmul_2 _ _) (int_rmul_tuple 0 t l its.toArray n dd sl)
      ⟨ho, rfl, ⟨_, ho, rfl⟩, call_meets F.slot_tuple_mul ⟨_, ho, rfl⟩ F.entry_tuple_mul (F.args_tuple_mul_2 _ _) (tuple_mul0 l its.toArray n dd sl 0 t c0 c1 c2) ⟨ho, ?_⟩⟩)
  refine ⟨.ref s.heap.objs.size, _, I.laid (t' := s.toks) (o := .tup []) (fun b ob q => Heap.get?_push_of_some _ q) (Nat.le_refl _) ?_, rfl, q _ (I.hok.fresh (Nat.le_refl _))⟩
  exact ⟨Nat.zero_le _, [], .nil, IsTup.new _ _⟩
def fRepT : F2 := fun d e R => asU d fun xs => asI e fun k => xs ≠ [] ∧ (k = 0 ∨ 2 ≤ k) ∧ k ≤ 1000 ∧ xs.length ≤ 1000 ∧ R (.p (.tuple (List.replicate k.toNat xs).flatten))
theorem RpA.rep {K : PySem.W.Frag} {H : Hp} {ds : List PyData} {vs : List V} (r : RpA K H ds vs) : ∀ n : Nat, RpA K H (List.replicate n ds).flatten (List.replicate n vs).flatten
  | 0 => rfl
  | n + 1 => by
    rw [List.replicate_succ, List.replicate_succ, List.flatten_cons, List.flatten_cons]
    exact r.app (RpA.rep r n)
section
variable {X : Cx}
theorem od_repT : OpR X (binaryOp .Mult) (upO (Cx.ky X) fRepT) := by
  intro pins s σ H x y v u Q I rx ry ⟨d, e, R, P, dm, r1, r2, h, k⟩
  obtain ⟨ds, rfl, h0⟩ := asU_of h
  obtain ⟨i, rfl, hne, h1, h2, h3, h4⟩ := asI_of h0
  obtain ⟨a, xs, ev, q, ra⟩ := r1
  have ne : xs ≠ [] := fun e => hne (List.eq_nil_of_length_eq_zero (by rw [ra.len, e]; rfl))
  rcases h1 with e0 | h1
  · subst e0
    exact op_repT0 pins s σ H x y v u Q I rx ry ⟨a, xs, ev, r2, (hide_ext P H).seqT q, ne, fun p hp => k _ _ (.p (.tuple [])) (Ext.new hp) (new_tup dm hp rfl) h4⟩
  · exact op_repT pins s σ H x y v u Q I rx ry ⟨a, i, xs, ev, r2, (hide_ext P H).seqT q, ne, h1, h2, by rw [← ra.len]; exact h3, fun p hp => k _ _ (.p (.tuple (List.replicate i.toNat ds).flatten)) (Ext.new hp) (new_tup dm hp (ra.rep i.toNat)) h4⟩
/-- int of a truth value -/
def fIntB : FL := fun ds R => ∃ b : Bool, ds = [.p (.bool b)] ∧ R (.p (.int (if b then 1 else 0)))
theorem cd_intB : CallR X (.type "int") (upC (Cx.ky X) fIntB) := CallR.imp call_int1 fun xs H Q ⟨ds, R, P, dm, r, ⟨b, e, h⟩, k⟩ => by
  subst e
  obtain ⟨v, rfl, r1⟩ := rvA1 r
  exact .inr ⟨b, by rw [show v = .bl b from r1], k _ H (.p (.int (if b then 1 else 0))) (Ext.refl H) rfl h⟩
/-- t == () -/
def fEqU (neg : Bool) : F2 := fun d e R => asU d fun xs => e = .p (.tuple []) ∧ R (.p (.bool (if neg then !xs.isEmpty else xs.isEmpty)))
theorem od_eqU (hu : X.A.units < cLine) : OpR X (compareOp .Eq) (upO (Cx.ky X) (fEqU false)) := by
  intro pins s σ H x y v u Q I rx ry ⟨d, e, R, P, dm, r1, r2, h, k⟩
  obtain ⟨xs, rfl, rfl, h1⟩ := asU_of h
  obtain ⟨as, ra, _⟩ := rp_reads dm.1 I r1 rx
  obtain ⟨bs, rb, _⟩ := rp_reads dm.1 I r2 ry
  have hq : EP X pins σ Q (.bool xs.isEmpty) s := ⟨.bl _, H, I, rfl, k _ H (.p (.bool xs.isEmpty)) (Ext.refl H) rfl h1⟩
  cases ra with
  | tuple a1 a2 a3 a4 => cases rb with
    | tuple b1 b2 b3 b4 =>
      have n1 := SeqAt.ReadsAll.length _ _ _ a4
      have n2 := SeqAt.ReadsAll.length _ _ _ b4
      rw [Array.length_toList] at n1 n2
      rw [List.length_nil] at n2
      refine SeqAt.RcAt.tuples (e := fun _ => true) ⟨_, a1, a2, _, a3⟩ ⟨_, b1, b2, _, b3⟩ hu (fun j h1 h2 => absurd h2 (by omega)) _ _ _ _ ?_
      rw [n1, n2, Nat.min_zero]
      have e : ((List.range 0).all (fun _ => true) && xs.length == 0) = xs.isEmpty := by cases xs <;> rfl
      rw [e]
      exact hq
end
end MR

/-! Lists that one slot alone holds: made, appended to, given up. -/
namespace MR
open PySem PySem.Spec PyProof.Rows L2
section
variable {κ : Ky} {c : Sc} {H : Hp} {L : Addr → Bool} {δ : Dn} {σ : Sg}
theorem set_get_own {i j : Nat} {s : Sl} {ds : List PyData} (h : (δ.set i s)[j]? = some (Sl.own ds)) : (j = i ∧ s = .own ds ∧ i < δ.length) ∨ (j ≠ i ∧ δ[j]? = some (.own ds)) := by
  by_cases hj : j = i
  · subst hj
    have hl : j < δ.length := by
      have := (List.getElem?_eq_some_iff.mp h).1
      rw [List.length_set] at this
      exact this
    rw [List.getElem?_set_self hl] at h
    exact .inl ⟨rfl, Option.some.inj h, hl⟩
  · rw [List.getElem?_set_ne (Ne.symm hj)] at h
    exact .inr ⟨hj, h⟩
theorem set_get_v {i j : Nat} {s : Sl} {d : DV} (h : (δ.set i s)[j]? = some (Sl.v d)) : (j = i ∧ s = .v d ∧ i < δ.length) ∨ (j ≠ i ∧ δ[j]? = some (.v d)) := by
  by_cases hj : j = i
  · subst hj
    have hl : j < δ.length := by
      have := (List.getElem?_eq_some_iff.mp h).1
      rw [List.length_set] at this
      exact this
    rw [List.getElem?_set_self hl] at h
    exact .inl ⟨rfl, Option.some.inj h, hl⟩
  · rw [List.getElem?_set_ne (Ne.symm hj)] at h
    exact .inr ⟨hj, h⟩
/-- appended to -/
theorem ES.put (s : ES κ c H L δ σ) {i : Nat} {ds ds' : List PyData} {a : Addr} {xs' : List V} (ho : δ[i]? = some (.own ds)) (ha : σ[i]? = some (some (V.ref a))) (r : RpA κ.K (hide (oor c.P L) H) ds' xs') :
    ES κ c (upd H a (.lst xs')) L (δ.set i (.own ds')) σ := by
  obtain ⟨a', xs, e1, la, _, _⟩ := s.own i ds ho
  rw [ha] at e1
  cases e1
  have oa : oor c.P L a = true := by unfold oor; rw [la, Bool.or_true]
  have eh : hide (oor c.P L) (upd H a (.lst xs')) = hide (oor c.P L) H := hide_same oa
  have ha0 := (s.ldom a la).2
  refine ⟨by rw [List.length_set]; exact s.len, fun j d e => ?_, fun j es e => ?_, fun j k es fs b n h1 h2 h3 => ?_, s.psys, s.pdom, fun b hb => ⟨?_, (s.ldom b hb).2⟩, fun b o e => ?_, ?_⟩
  · rw [eh]
    rcases set_get_v e with ⟨_, z, _⟩ | ⟨_, z⟩
    · cases z
    · exact s.val j d z
  · rw [eh]
    rcases set_get_own e with ⟨rfl, z, _⟩ | ⟨nj, z⟩
    · cases z
      exact ⟨a, xs', ha, la, upd_same, r⟩
    · obtain ⟨b, ys, q1, q2, q3, q4⟩ := s.own j es z
      have ne : b ≠ a := fun z2 => by
        subst z2
        exact s.sep i j ds es b (Ne.symm nj) ho z ha q1
      exact ⟨b, ys, q1, q2, by rw [upd_ne ne]; exact q3, q4⟩
  · have f : ∀ {j : Nat} {es : List PyData}, (δ.set i (.own ds'))[j]? = some (Sl.own es) → ∃ fs, δ[j]? = some (.own fs) := fun {j es} h => by
      rcases set_get_own h with ⟨rfl, _, _⟩ | ⟨_, z⟩
      · exact ⟨_, ho⟩
      · exact ⟨_, z⟩
    obtain ⟨_, z1⟩ := f h1
    obtain ⟨_, z2⟩ := f h2
    exact s.sep j k _ _ b n z1 z2 h3
  · by_cases hb2 : b = a
    · rw [hb2, upd_same]
      exact Option.some_ne_none _
    · rw [upd_ne hb2]
      exact (s.ldom b hb).1
  · rw [upd_ne (ne_of_none e ha0)]
    exact s.ext b o e
  · rw [eh]
    exact s.kept
/-- given up: data from now on -/
theorem ES.frz (s : ES κ c H L δ σ) {i : Nat} {ds : List PyData} (ho : δ[i]? = some (.own ds)) : ∃ L', ES κ c H L' (δ.set i (.v (.p (.list ds)))) σ := by
  obtain ⟨a, xs, e1, la, ea, ra⟩ := s.own i ds ho
  let L' : Addr → Bool := fun b => L b && !decide (b = a)
  have sub : ∀ b, oor c.P L' b = true → oor c.P L b = true := fun b h => by
    unfold oor at h ⊢
    rw [Bool.or_eq_true] at h ⊢
    exact h.imp id fun z => by
      have z' : (L b && !decide (b = a)) = true := z
      rw [Bool.and_eq_true] at z'
      exact z'.1
  have hx : Ext (hide (oor c.P L) H) (hide (oor c.P L') H) := hide_less H sub
  have off : oor c.P L' a = false := by
    unfold oor
    have h1 : c.P a = false := by
      cases q : c.P a with
      | false => rfl
      | true => exact absurd (s.ldom a la).2 (s.pdom a q)
    have h2 : L' a = false := by show (L a && !decide (a = a)) = false; rw [decide_eq_true rfl, Bool.not_true, Bool.and_false]
    rw [h1, h2]
    rfl
  refine ⟨L', by rw [List.length_set]; exact s.len, fun j d e => ?_, fun j es e => ?_, fun j k es fs b n h1 h2 h3 => ?_, s.psys, s.pdom, fun b hb => ?_, s.ext, s.kept.ext hx⟩
  · rcases set_get_v e with ⟨rfl, z, _⟩ | ⟨_, z⟩
    · cases z
      exact ⟨.ref a, e1, a, xs, rfl, by rw [hide_at off]; exact ea, ra.ext hx⟩
    · obtain ⟨v, q1, q2⟩ := s.val j d z
      exact ⟨v, q1, q2.ext hx⟩
  · rcases set_get_own e with ⟨_, z, _⟩ | ⟨nj, z⟩
    · cases z
    · obtain ⟨b, ys, q1, q2, q3, q4⟩ := s.own j es z
      have ne : b ≠ a := fun z2 => by
        subst z2
        exact s.sep i j ds es b (Ne.symm nj) ho z e1 q1
      exact ⟨b, ys, q1, by show (L b && !decide (b = a)) = true; rw [q2, decide_eq_false ne]; rfl, q3, q4.ext hx⟩
  · rcases set_get_own h1 with ⟨_, z, _⟩ | ⟨_, z1⟩
    · cases z
    · rcases set_get_own h2 with ⟨_, z, _⟩ | ⟨_, z2⟩
      · cases z
      · exact s.sep j k es fs b n z1 z2 h3
  · have hb' : (L b && !decide (b = a)) = true := hb
    rw [Bool.and_eq_true] at hb'
    exact s.ldom b hb'.1
/-- a new list in a slot -/
theorem ES.own1 {H' : Hp} (s : ES κ c H L δ σ) {i : Nat} {ds : List PyData} {p : Addr} {xs : List V} (x : Ext H H') (hp : H p = none) (ep : H' p = some (.lst xs)) (r : RpA κ.K (hide (oor c.P (plus L p)) H') ds xs) :
    ES κ c H' (plus L p) (δ.set i (.own ds)) (σ.set i (some (.ref p))) := by
  have hp0 : c.H0 p = none := s.ext.none hp
  have xD : Ext (hide (oor c.P L) H) (hide (oor c.P (plus L p)) H') := fun a o e => by
    unfold hide at e ⊢
    split at e
    · cases e
    · rename_i n
      have ne : a ≠ p := ne_of_none e hp
      rw [oor_ne ne, if_neg n]
      exact x a o e
  have notp : ∀ {j : Nat} {es : List PyData} {a : Addr}, δ[j]? = some (Sl.own es) → σ[j]? = some (some (V.ref a)) → a ≠ p := fun {j es a} e1 e2 e3 => by
    obtain ⟨b, ys, q1, q2, q3, _⟩ := s.own j es e1
    rw [e2] at q1
    cases q1
    rw [e3, hp] at q3
    cases q3
  refine ⟨by rw [List.length_set, List.length_set]; exact s.len, fun j d e => ?_, fun j es e => ?_, fun j k es fs b n h1 h2 h3 => ?_, s.psys, s.pdom, fun b hb => ?_, s.ext.trans x, s.kept.ext xD⟩
  · rcases set_get_v e with ⟨_, z, _⟩ | ⟨nj, z⟩
    · cases z
    · obtain ⟨v, q1, q2⟩ := s.val j d z
      exact ⟨v, by rw [List.getElem?_set_ne (Ne.symm nj)]; exact q1, q2.ext xD⟩
  · rcases set_get_own e with ⟨rfl, z, hl⟩ | ⟨nj, z⟩
    · cases z
      exact ⟨p, xs, List.getElem?_set_self (by rw [← s.len]; exact hl), plus_at, ep, r⟩
    · obtain ⟨b, ys, q1, q2, q3, q4⟩ := s.own j es z
      refine ⟨b, ys, by rw [List.getElem?_set_ne (Ne.symm nj)]; exact q1, plus_of q2, x.lst q3, q4.ext xD⟩
  · rcases set_get_own h1 with ⟨rfl, z, hl⟩ | ⟨nj, z1⟩
    · rcases set_get_own h2 with ⟨rfl, _, _⟩ | ⟨nk, z2⟩
      · exact absurd rfl n
      · rw [List.getElem?_set_self (by rw [← s.len]; exact hl)] at h3
        cases h3
        rw [List.getElem?_set_ne (Ne.symm nk)]
        exact fun z3 => notp z2 z3 rfl
    · rw [List.getElem?_set_ne (Ne.symm nj)] at h3
      rcases set_get_own h2 with ⟨rfl, _, hl⟩ | ⟨nk, z2⟩
      · rw [List.getElem?_set_self (by rw [← s.len]; exact hl)]
        exact fun z3 => by
          cases z3
          exact notp z1 h3 rfl
      · rw [List.getElem?_set_ne (Ne.symm nk)]
        exact s.sep j k es fs b n z1 z2 h3
  · by_cases hb2 : b = p
    · rw [hb2, ep]
      exact ⟨Option.some_ne_none _, hp0⟩
    · rw [plus_ne hb2] at hb
      exact ⟨x.some (s.ldom b hb).1, (s.ldom b hb).2⟩
end
/-! ### expressions that make a new list -/
def upF (κ : Ky) (t : TD) : TE := fun σ H Q => ∃ δ R c L, ES κ c H L δ σ ∧ t δ R ∧ ∀ p H' ds xs, Ext H H' → H p = none → H' p = some (.lst xs) → RpA κ.K (hide (oor c.P (plus L p)) H') ds xs → R (.p (.list ds)) → Q (.ref p) H'
/-- x = a new list -/
def dSetO (i : Nat) (t : TD) : TDS := fun E δ => t δ fun d => asL d fun ds => E.nx (δ.set i (.own ds))
/-- x.append(e) -/
def dApp (i : Nat) (t : TD) : TDS := fun E δ => match δ.getD i .un with
  | .own ds => t δ fun d => asP d fun z => ds.length < sizeLine ∧ E.nx (δ.set i (.own (ds ++ [z])))
  | _ => False
/-- from here on slot i is data -/
def dFrz (i : Nat) (t : TDS) : TDS := fun E δ => match δ.getD i .un with
  | .own ds => t E (δ.set i (.v (.p (.list ds))))
  | _ => False
theorem getD_own {δ : Dn} {i : Nat} {ds : List PyData} (h : δ.getD i .un = .own ds) : δ[i]? = some (.own ds) := by
  rw [List.getD_eq_getElem?_getD] at h
  cases e : δ[i]? with
  | none => rw [e] at h; cases h
  | some s => rw [e] at h; cases h; rfl
theorem xplus {κ : Ky} {c : Sc} {L : Addr → Bool} {H1 : Hp} {p : Addr} {o : HO} (hp : H1 p = none) : Ext (hide (oor c.P L) H1) (hide (oor c.P (plus L p)) (upd H1 p o)) := fun a u e => by
  unfold hide at e ⊢
  split at e
  · cases e
  · rename_i n
    have ne : a ≠ p := ne_of_none e hp
    rw [oor_ne ne, if_neg n, upd_ne ne]
    exact .inl e
section
variable {X : Cx} {e a b : Expr} {es : List Expr} {ta tb te : TD} {t : TL} {pos : Pos}
theorem df_lst (h : PA X es (upA (Cx.ky X) t)) : PE X (.List es pos) (upF (Cx.ky X) (dLst t)) := by
  refine PE.imp (pe_lst h) fun σ H Q ⟨δ, R, c, L, es, h, k⟩ => ⟨δ, _, c, L, es, h, fun vs H1 ds x1 r1 h1 => ?_⟩
  obtain ⟨xs, rfl, hz, h2⟩ := pyAll_of h1
  have rp := rvA_p r1
  exact ⟨by rw [← rp.len]; exact hz, fun p hp => k p _ xs vs (x1.trans (Ext.new hp)) (x1.none hp) upd_same (rp.ext (xplus (κ := Cx.ky X) (c := c) hp)) h2⟩
/-- xs + ys -/
def fCat : F2 := fun d e R => asL d fun xs => asL e fun ys => xs.length + ys.length ≤ sizeLine ∧ R (.p (.list (xs ++ ys)))
theorem df_cat (ha : PE X a (up (Cx.ky X) ta)) (hb : PE X b (up (Cx.ky X) tb)) : PE X (.BinOp a .Add b pos) (upF (Cx.ky X) (dOp fCat ta tb)) := by
  refine PE.imp (pe_op op_cat ha hb) fun σ H Q ⟨δ, R, c, L, es, h, k⟩ => ⟨δ, _, c, L, es, h, fun v H1 d x1 r1 h1 => ⟨δ, _, c, L, es.on x1, h1, fun u H2 e x2 r2 h2 => ?_⟩⟩
  obtain ⟨xs, rfl, h3⟩ := asL_of h2
  obtain ⟨ys, rfl, hz, h4⟩ := asL_of h3
  obtain ⟨p, us, e1, q1, ra⟩ := r1
  obtain ⟨q, ws, e2, q2, rb⟩ := r2
  have q1' := (x2.hide (oor c.P L)).lst q1
  have ra' := ra.ext (x2.hide (oor c.P L))
  refine ⟨p, q, us, ws, e1, e2, (hide_ext _ _).lst q1', (hide_ext _ _).lst q2, by rw [← ra.len, ← rb.len]; exact hz, fun n hn => ?_⟩
  exact k n _ (xs ++ ys) (us ++ ws) (x1.trans (x2.trans (Ext.new hn))) ((x1.trans x2).none hn) upd_same ((ra'.app rb).ext (xplus (κ := Cx.ky X) (c := c) hn)) h4
theorem ds_setO {i : Nat} {x : Str} {pos' : Pos} (hN : X.N.Nodup) (hi : X.N[i]? = some x) (hx : Loc X.env.scope x) (he : PE X e (upF (Cx.ky X) te)) (hs : swapsWith e (some (.Name x pos')) pos.line X.env = pure false := by rfl) (hf : X.fn x = true ∨ X.env.scope.names.lookup x = some .local := by first | exact .inl rfl | exact .inr rfl | assumption) : PS X (.Assign [.Name x pos'] e pos) (upS (Cx.ky X) (dSetO i te)) := by
  refine PS.imp (ps_set hN hi hx he hs hf) fun D σ H ⟨δ, E, c, L, es, h, f⟩ => ⟨δ, _, c, L, es, h, fun p H1 ds xs x1 hp ep r h1 => ?_⟩
  exact f.nx _ _ H1 _ (es.own1 x1 hp ep r) h1
theorem ds_app {i : Nat} {x : Str} {apos cpos npos : Pos} (hv : PE X (.Name x npos) (tVar i)) (he : PE X e (up (Cx.ky X) te))
    (h : ∀ {ta : TA}, PA X [e] ta → PS X (.Expr (.Call (.Attribute (.Name x npos) "append" apos) [e] [] cpos) pos) (tDrop (tBM X.K "list" rAppend (tVar i) ta)))
    (hs : starEach [e] X.env = (false, eval e X.env) :: starEach [] X.env := by rfl) : PS X (.Expr (.Call (.Attribute (.Name x npos) "append" apos) [e] [] cpos) pos) (upS (Cx.ky X) (dApp i te)) := by
  refine PS.imp (h (da_cons he da_nil hs)) fun D σ H ⟨δ, E, c, L, es, h, f⟩ => ?_
  unfold dApp at h
  cases q : δ.getD i .un with
  | un => rw [q] at h; exact h.elim
  | v d => rw [q] at h; exact h.elim
  | own ds =>
    rw [q] at h
    have ho := getD_own q
    obtain ⟨a, xs, e1, la, ea, ra⟩ := es.own i ds ho
    refine ⟨.ref a, e1, .inl ⟨rfl, _, .inl (.inl ea)⟩, δ, fun ds' => (match ds' with | [d] => asP d fun z => ds.length < sizeLine ∧ E.nx (δ.set i (.own (ds ++ [z]))) | _ => False), c, L, es, h, fun vs H1 ds' x1 r1 h1 => ?_⟩
    · obtain ⟨z, rfl, hz, h2⟩ : ∃ z, ds' = [.p z] ∧ ds.length < sizeLine ∧ E.nx (δ.set i (.own (ds ++ [z]))) := by
        match ds', h1 with
        | [d], h1 =>
          obtain ⟨z, rfl, h2⟩ := asP_of h1
          exact ⟨z, rfl, h2⟩
      obtain ⟨v, rfl, rv⟩ := rvA1 r1
      have es1 := es.on x1
      exact ⟨a, xs, v, rfl, rfl, x1.lst ea, by rw [← ra.len]; exact hz, f.nx _ _ _ L (es1.put ho e1 ((ra.ext (x1.hide _)).app (show RpA X.K _ [z] [v] from ⟨v, [], rfl, rv, rfl⟩))) h2⟩
theorem ds_frz {i : Nat} {st : Stmt} {u : TDS} (h : PS X st (upS (Cx.ky X) u)) : PS X st (upS (Cx.ky X) (dFrz i u)) := by
  refine PS.imp h fun D σ H ⟨δ, E, c, L, es, h, f⟩ => ?_
  unfold dFrz at h
  cases q : δ.getD i .un with
  | un => rw [q] at h; exact h.elim
  | v d => rw [q] at h; exact h.elim
  | own ds =>
    rw [q] at h
    obtain ⟨L', es'⟩ := es.frz (getD_own q)
    exact ⟨_, E, c, L', es', h, f⟩
end
end MR

/-! list * int, max of a list of ints, tuples of texts as constants of a module. -/
namespace MR
open PySem PySem.Spec PyProof.Rows L2
def fRepL : F2 := fun d e R => asL d fun xs => asI e fun k => 0 ≤ k ∧ k ≤ 1000 ∧ xs.length ≤ 1000 ∧ R (.p (.list (List.replicate k.toNat xs).flatten))
def fMaxL : FL := fun ds R => ∃ ns : List Int, ds = [.p (.list (ns.map .int))] ∧ 0 < ns.length ∧ ∀ m ∈ ns, (∀ y ∈ ns, y ≤ m) → R (.p (.int m))
def fMinL : FL := fun ds R => ∃ ns : List Int, ds = [.p (.list (ns.map .int))] ∧ 0 < ns.length ∧ ∀ m ∈ ns, (∀ y ∈ ns, m ≤ y) → R (.p (.int m))
theorem rpA_ints {K : PySem.W.Frag} {H : Hp} : ∀ {ns : List Int} {vs : List V}, RpA K H (ns.map .int) vs → vs = ns.map V.int
  | [], _, h => h
  | b :: bs, _, ⟨v, r, e, h, t⟩ => by rw [e, show v = .int b from h, rpA_ints t]; rfl
section
variable {X : Cx}
theorem od_repL : OpR X (binaryOp .Mult) (upO (Cx.ky X) fRepL) := by
  intro pins s σ H x y v u Q I rx ry ⟨d, e, R, P, dm, r1, r2, h, k⟩
  obtain ⟨ds, rfl, h0⟩ := asL_of h
  obtain ⟨i, rfl, h1, h2, h3, h4⟩ := asI_of h0
  obtain ⟨a, xs, ev, q, ra⟩ := r1
  refine op_rep pins s σ H x y v u Q I rx ry ⟨a, i, xs, ev, r2, (hide_ext P H).lst q, by omega, by omega, ?_, fun p hp => k _ _ (.p (.list (List.replicate i.toNat ds).flatten)) (Ext.new hp) (new_lst dm hp (ra.rep i.toNat)) h4⟩
  rw [← ra.len]
  exact Nat.le_trans (Nat.mul_le_mul h3 (show i.toNat ≤ 1000 by omega)) (by decide)
theorem cd_maxL (hc : X.calm = true) : CallR X (.builtin "max") (upC (Cx.ky X) fMaxL) := CallR.imp (cr_max hc) fun xs H Q ⟨ds, R, P, dm, r, ⟨ns, e, h0, h⟩, k⟩ => by
  subst e
  obtain ⟨v, rfl, a, xs, e, q, ra⟩ := rvA1 r
  subst e
  have e2 := rpA_ints ra
  subst e2
  exact ⟨a, ns, rfl, SqL.of ((hide_ext P H).lst q), h0, fun m hm hle => k _ H (.p (.int m)) (Ext.refl H) rfl (h m hm hle)⟩
theorem cd_minL (hc : X.calm = true) : CallR X (.builtin "min") (upC (Cx.ky X) fMinL) := CallR.imp (cr_min hc) fun xs H Q ⟨ds, R, P, dm, r, ⟨ns, e, h0, h⟩, k⟩ => by
  subst e
  obtain ⟨v, rfl, a, xs, e, q, ra⟩ := rvA1 r
  subst e
  have e2 := rpA_ints ra
  subst e2
  exact ⟨a, ns, rfl, SqL.of ((hide_ext P H).lst q), h0, fun m hm hle => k _ H (.p (.int m)) (Ext.refl H) rfl (h m hm hle)⟩
end
/-- two texts in a tuple that the module wrote -/
def Wtn (K : PySem.W.Frag) (u : Value) (ys : List Str) : Prop := ∃ a, u = .ref a ∧ ∀ H, SqT K H a (ys.map V.str)
theorem wtn_rv {κ : Ky} {u : Value} {ys : List Str} (h : Wtn κ.K u ys) : ∃ v, RelV v u ∧ ∀ H, Rv κ H (.p (.tuple (ys.map .str))) v := by
  obtain ⟨a, rfl, h⟩ := h
  exact ⟨.ref a, rfl, fun H => ⟨a, ys.map V.str, rfl, h H, rpA_txt ys⟩⟩
theorem de_globT {X : Cx} {x : Str} {u : Value} {ys : List Str} {pos : Pos} (hg : Gl X x) (hm : X.mg x = some u) (h : Wtn X.K u ys) (hd : (x == ("__debug__" : Str)) = false := by decide) : PE X (.Name x pos) (up (Cx.ky X) (dC (.p (.tuple (ys.map .str))))) := by
  obtain ⟨v, r, q⟩ := wtn_rv (κ := Cx.ky X) h
  exact de_glob hg hm r q hd
end MR

/-! < of alike data, while, rstrip, index, displays with stars, lists turned round, pop, sorted lists of texts. -/
namespace MR
open PySem PySem.Spec PyProof.Rows L2
section
variable {X : Cx}
/-- a < b, alike data -/
def fLtA : F2 := fun d e R => asP d fun x => asP e fun y => PySem.W.alike x y = true ∧ x ≠ .none ∧ min x.depth y.depth ≤ 60 ∧ R (.p (.bool (PySem.W.dataLt x y)))
theorem od_ltA (hu : X.A.units + 64 < cLine) : OpR X (compareOp .Lt) (upO (Cx.ky X) fLtA) := by
  intro pins s σ H x y v u Q I rx ry ⟨d, e, R, P, dm, r1, r2, h, k⟩
  obtain ⟨a, rfl, h0⟩ := asP_of h
  obtain ⟨b, rfl, h1, h2, h3, h4⟩ := asP_of h0
  obtain ⟨as, ra, _⟩ := rp_reads dm.1 I r1 rx
  obtain ⟨bs, rb, _⟩ := rp_reads dm.1 I r2 ry
  exact PySem.W.lt_data ra rb h1 h2 (by omega) ⟨.bl _, H, I, rfl, k _ H (.p (.bool (PySem.W.dataLt a b))) (Ext.refl H) rfl h4⟩
end
/-! ### while -/
def dWhile (tc : TB) (tb : TDS) : TDS := fun E δ => ∃ W : Nat → Dn → Prop, (∃ m, W m δ) ∧ ∀ m δ, W m δ → tc δ fun b => if b = true then ∃ N : Dn → Prop, (∀ δ', N δ' → ∃ m', m' < m ∧ W m' δ') ∧ tb { E with nx := N, ct := N, bk := E.nx } δ else E.nx δ
section
variable {X : Cx} {c : Expr} {body : List Stmt} {tc : TB} {tb : TDS} {pos : Pos}
theorem ds_while (hp : PassesOwn (model X.prog X.w) X.A X.env X.xe) (hc : PT X c (upT (Cx.ky X) tc)) (hb : PSs X body (upS (Cx.ky X) tb)) : PS X (.While c body [] pos) (upS (Cx.ky X) (dWhile tc tb)) := by
  refine PS.imp (ps_while hp hc hb) fun D σ H ⟨δ, E, c, L, es, ⟨W, ⟨m0, w0⟩, turn⟩, f⟩ => ?_
  refine ⟨fun m σ H => ∃ δ L, ES (Cx.ky X) c H L δ σ ∧ W m δ, ⟨m0, δ, L, es, w0⟩, fun m σ1 H1 ⟨δ1, L1, es1, w1⟩ => ?_⟩
  refine ⟨δ1, _, c, L1, es1, turn m δ1 w1, fun b H2 x2 h2 => ?_⟩
  cases b with
  | true =>
    rw [if_pos rfl] at h2 ⊢
    obtain ⟨N, hN, h3⟩ := h2
    refine ⟨fun σ' H' => ∃ δ' L', ES (Cx.ky X) c H' L' δ' σ' ∧ N δ', fun σ' H' ⟨δ', L', es', n'⟩ => ?_, ?_⟩
    · obtain ⟨m', hm, w'⟩ := hN δ' n'
      exact ⟨m', hm, δ', L', es', w'⟩
    · exact ⟨δ1, _, c, L1, es1.on x2, h3, ⟨fun δ' σ' H' L' e' n' => ⟨δ', L', e', n'⟩, f.rt, fun δ' σ' H' L' e' n' => f.nx δ' σ' H' L' e' n', fun δ' σ' H' L' e' n' => ⟨δ', L', e', n'⟩⟩⟩
  | false =>
    rw [if_neg Bool.false_ne_true] at h2 ⊢
    exact f.nx δ1 σ1 H2 L1 (es1.on x2) h2
end
/-! ### texts -/
section
variable {X : Cx} {o e : Expr} {to te : TD}
def fRst : F1S := fun a e R => asS e fun b => a.length ≤ sizeLine ∧ R (.p (.str (Txt.rstripChars a b)))
def fSix : F1S := fun a e R => asS e fun b => ∃ i rest, Builtin.Str.occurrences a b 0 a.length 1 = i :: rest ∧ R (.p (.int ((i : Nat) : Int)))
theorem de_rstrip {apos pos : Pos} (ho : PE X o (up (Cx.ky X) to)) (he : PE X e (up (Cx.ky X) te)) (hs : starEach [e] X.env = [(false, eval e X.env)] := by rfl) (hbase : attributeBase o "rstrip" X.env (eval o X.env) = eval o X.env := by rfl) (hline : (apos.endLine == pos.line) = true := by rfl) :
    PE X (.Call (.Attribute o "rstrip" apos) [e] [] pos) (up (Cx.ky X) (dM1 fRst to te)) :=
  de_m1 PySem.F.slot_str_rstrip PySem.F.type_str_rstrip mt_rstripChars (fun a y H Q h => by
    obtain ⟨d, e, R, P, dm, r1, r2, h1, k⟩ := h
    obtain ⟨a', rfl, h2⟩ := asS_of h1
    obtain ⟨b, rfl, hz, h3⟩ := asS_of h2
    have ea : V.str a = .str a' := r1
    cases ea
    exact ⟨a, b, rfl, by rw [show y = .str b from r2], hz, k _ H (.p (.str (Txt.rstripChars a b))) (Ext.refl H) rfl h3⟩) ho he hs hbase hline
theorem de_index {apos pos : Pos} (ho : PE X o (up (Cx.ky X) to)) (he : PE X e (up (Cx.ky X) te)) (hs : starEach [e] X.env = [(false, eval e X.env)] := by rfl) (hbase : attributeBase o "index" X.env (eval o X.env) = eval o X.env := by rfl) (hline : (apos.endLine == pos.line) = true := by rfl) :
    PE X (.Call (.Attribute o "index" apos) [e] [] pos) (up (Cx.ky X) (dM1 fSix to te)) :=
  de_m1 PySem.F.slot_str_index PySem.F.type_str_index mt_sindex (fun a y H Q h => by
    obtain ⟨d, e, R, P, dm, r1, r2, h1, k⟩ := h
    obtain ⟨a', rfl, h2⟩ := asS_of h1
    obtain ⟨b, rfl, i, rest, ho, h3⟩ := asS_of h2
    have ea : V.str a = .str a' := r1
    cases ea
    exact ⟨a, b, i, rest, rfl, by rw [show y = .str b from r2], ho, k _ H (.p (.int ((i : Nat) : Int))) (Ext.refl H) rfl h3⟩) ho he hs hbase hline
end
/-! ### displays with stars -/
theorem rvA_of {κ : Ky} {H : Hp} : ∀ {xs : List PyData} {vs : List V}, RpA κ.K H xs vs → RvA κ H (xs.map .p) vs
  | [], _, h => h
  | _ :: _, _, ⟨v, r, e, h, t⟩ => ⟨v, r, e, h, rvA_of t⟩
def dStar (te : TD) (t : TL) : TL := fun δ R => te δ fun d => asP d fun z => ∃ zs, (z = .tuple zs ∨ z = .list zs) ∧ t δ fun ds => R (zs.map .p ++ ds)
section
variable {X : Cx} {e : Expr} {es : List Expr} {te : TD} {t : TL} {p : Pos}
theorem da_star (he : PE X e (up (Cx.ky X) te)) (hr : PA X es (upA (Cx.ky X) t)) (hs : starEach (.Starred e p :: es) X.env = (true, eval e X.env) :: starEach es X.env := by rfl) : PA X (.Starred e p :: es) (upA (Cx.ky X) (dStar te t)) := by
  refine PA.imp (StX.pa_star he hr hs) fun σ H Q ⟨δ, R, c, L, es, h, k⟩ => ⟨δ, _, c, L, es, h, fun v H1 d x1 r1 h1 => ?_⟩
  obtain ⟨z, rfl, zs, hz, h2⟩ := asP_of h1
  have key : ∃ p xs, v = V.ref p ∧ (SqT X.K H1 p xs ∨ SqL X.K H1 p xs) ∧ RpA X.K (hide (oor c.P L) H1) zs xs := by
    rcases hz with rfl | rfl
    · obtain ⟨a, xs, e, q, ra⟩ := r1
      exact ⟨a, xs, e, .inl ((hide_ext _ _).seqT q), ra⟩
    · obtain ⟨a, xs, e, q, ra⟩ := r1
      exact ⟨a, xs, e, .inr (SqL.of ((hide_ext _ _).lst q)), ra⟩
  obtain ⟨a, xs, e, q, ra⟩ := key
  exact ⟨a, xs, e, q, δ, _, c, L, es.on x1, h2, fun vs H2 ds x2 r2 h3 => k _ H2 _ (x1.trans x2) ((rvA_of (ra.ext (x2.hide _))).app r2) h3⟩
end
/-! ### xs[::-1] -/
theorem RpA.rev {K : PySem.W.Frag} {H : Hp} : ∀ {ds : List PyData} {vs : List V}, RpA K H ds vs → RpA K H ds.reverse vs.reverse
  | [], vs, h => by rw [show vs = [] from h]; rfl
  | d :: ds, _, ⟨v, r, e, h, t⟩ => by
    rw [e, List.reverse_cons, List.reverse_cons]
    exact RpA.app (RpA.rev t) ⟨v, [], rfl, h, rfl⟩
theorem vals_rev : ∀ {xs : List V} {us : List Value}, Vals xs us → Vals xs.reverse us.reverse
  | _, _, .nil => .nil
  | _, _, .cons r t => by
    rw [List.reverse_cons, List.reverse_cons]
    exact (vals_rev t).append (.cons r .nil)
def dRev (te : TD) (ts : TDO) : TD := fun δ R => te δ fun d => asL d fun xs => ts δ fun o => o = some (-1) ∧ R (.p (.list xs.reverse))
section
variable {X : Cx} {e st : Expr} {te : TD} {ts : TDO} {p2 pos : Pos}
theorem de_rev (he : PE X e (up (Cx.ky X) te)) (hst : PO X (some st) (upP (Cx.ky X) ts)) : PE X (.Subscript e (.Slice none none (some st) p2) pos) (up (Cx.ky X) (dRev te ts)) := by
  refine ⟨fun pins s σ H Q I ⟨δ, R, c, L, es, h, k⟩ => ?_⟩
  refine Subscript_ (thn (he.run pins s σ H (fun x H1 => ∃ xs, Ext H H1 ∧ Rp X.K (hide (oor c.P L) H1) (.list xs) x ∧ ts δ fun o => o = some (-1) ∧ R (.p (.list xs.reverse))) I ⟨δ, _, c, L, es, h, fun v H1 d x1 r1 h1 => ?_⟩) fun v s1 ⟨x, H1, I1, r1, q1⟩ => ?_)
  · obtain ⟨xs, rfl, h2⟩ := asL_of h1
    exact ⟨xs, x1, r1, h2⟩
  obtain ⟨xs, x1, rx, h2⟩ := q1
  refine wpAny_Slice ?_
  rw [evalPart_none]
  refine wpAny_pure ?_
  refine wpAny_pure ?_
  refine thn (hst.run pins s1 σ H1 (fun o H2 => Ext H1 H2 ∧ o = some (-1) ∧ R (.p (.list xs.reverse))) I1 ⟨δ, _, c, L, es.on x1, h2, fun o H2 x2 h3 => ⟨x2, h3⟩⟩) fun vs s3 ⟨o, H3, I3, ps, x3, eo, q3⟩ => ?_
  subst eo
  have I4 : Inv X pins σ H3 { s3 with heap := s3.heap.push { cls := .type "slice", data := .fields #[.none, .none, vs] } } := I3.kept (t' := s3.toks) fun b ob q => Heap.get?_push_of_some _ q
  obtain ⟨a, us, e1, q, ra⟩ := rx.ext (x3.hide (oor c.P L))
  subst e1
  cases r1
  have q' : SqL X.K H3 a us := SqL.of ((hide_ext _ _).lst q)
  obtain ⟨its, rv, hl, hz⟩ := I4.list q'
  have hlen := rv.length
  show wpAny (model X.prog X.w) X.A (subscriptTail e (.Slice none none (some st) p2) (.ref a) (.ref s3.heap.objs.size)) (EP X pins σ Q) X.xe { s3 with heap := s3.heap.push { cls := .type "slice", data := .fields #[.none, .none, vs] } }
  refine tail_any (ops := [.ref a, .ref s3.heap.objs.size]) hl.isList.typeIs slot_list_getitem.lookup ?_ (by with_unfolding_all rfl)
  refine wpAny_getItem_list_slice hl.isList (Heap.IsSliceOf.new ..) .none .none ps (by decide) ?_ (by rw [List.size_toArray] <;> omega)
  rw [PySem.W.krv_pick]
  have hf : H3 { s3 with heap := s3.heap.push { cls := .type "slice", data := .fields #[.none, .none, vs] } }.heap.objs.size = none := I4.hok.fresh (Nat.le_refl _)
  refine ⟨.ref _, upd H3 _ (.lst us.reverse), I4.laid (t' := s3.toks) (o := .lst us.reverse) (fun b ob q => Heap.get?_push_of_some _ q) (Nat.le_refl _) ?_, rfl, ?_⟩
  · exact ⟨by rw [List.length_reverse]; exact hz, its.reverse, 0, vals_rev rv, Heap.get?_push_size _ rfl⟩
  · exact k _ _ (.p (.list xs.reverse)) (x1.trans (x3.trans (Ext.new hf))) (new_lst (es.on (x1.trans x3)).dom hf ra.rev) q3
end
/-! ### sorted(xs), fewer than 64 texts -/
def fSortL : FL := fun ds R => ∃ xs : List Str, ds = [.p (.list (xs.map .str))] ∧ xs.length < 64 ∧ ∀ ys : List Str, ys.Perm xs → sortedS ys = true → R (.p (.list (ys.map .str)))
section
variable {X : Cx}
theorem cd_sortL : CallR X (.builtin "sorted") (upC (Cx.ky X) fSortL) := CallR.imp cr_sortedS fun xs H Q ⟨ds, R, P, dm, r, ⟨ys, e, hz, h⟩, k⟩ => by
  subst e
  obtain ⟨v, rfl, a, us, rfl, q, ra⟩ := rvA1 r
  have eu := rpA_strs ra
  subst eu
  exact ⟨a, ys, rfl, SqL.of ((hide_ext P H).lst q), hz, fun zs p hp hs hn => k _ _ (.p (.list (zs.map .str))) (Ext.new hn) (new_lst dm hn (rpA_txt _)) (h zs hp hs)⟩
end
/-! ### lists of one slot: their length, joined, popped from -/
def dLenO (i : Nat) : TD := fun δ R => match δ.getD i .un with
  | .own ds => ds.length ≤ sizeLine ∧ R (.p (.int (ds.length : Int)))
  | _ => False
def dCatO (i : Nat) (tb : TD) : TD := fun δ R => match δ.getD i .un with
  | .own ds => tb δ fun e => asL e fun ys => ds.length + ys.length ≤ sizeLine ∧ R (.p (.list (ds ++ ys)))
  | _ => False
def dPop (i : Nat) (t : TD) : TDS := fun E δ => match δ.getD i .un with
  | .own ds => t δ fun d => asI d fun z => ∃ k, seqIndex? z ds.length = some k ∧ k < ds.length ∧ 0 ≤ z ∧ z < 2 ^ 62 ∧ E.nx (δ.set i (.own (ds.eraseIdx k)))
  | _ => False
theorem RpA.erase {K : PySem.W.Frag} {H : Hp} : ∀ {ds : List PyData} {vs : List V} (n : Nat), RpA K H ds vs → RpA K H (ds.eraseIdx n) (vs.eraseIdx n)
  | [], vs, n, h => by rw [show vs = [] from h]; rfl
  | _ :: _, _, 0, ⟨v, r, e, h, t⟩ => by rw [e]; exact t
  | _ :: _, _, n + 1, ⟨v, r, e, h, t⟩ => by rw [e]; exact ⟨v, _, rfl, h, RpA.erase n t⟩
section
variable {X : Cx} {e a b : Expr} {ta tb te : TD} {pos p npos : Pos} {x y : Str} {i : Nat}
theorem de_lenO (hv : PE X (.Name x npos) (tVar i)) (hg : Gl X "len") (hm : X.mg "len" = none) : PE X (.Call (.Name "len" p) [.Name x npos] [] pos) (up (Cx.ky X) (dLenO i)) := by
  refine PE.imp (pe_callB call_len hg hm (by decide +kernel) (pa_cons hv pa_nil)) fun σ H Q ⟨δ, R, c, L, es, h, k⟩ => ?_
  unfold dLenO at h
  cases q : δ.getD i .un with
  | un => rw [q] at h; exact h.elim
  | v d => rw [q] at h; exact h.elim
  | own ds =>
    rw [q] at h
    obtain ⟨a, xs, e1, la, ea, ra⟩ := es.own i ds (getD_own q)
    exact ⟨.ref a, e1, .ref a, ds.length, rfl, .inl ⟨xs, SqL.of ea, ra.len⟩, k _ H (.p (.int ds.length)) (Ext.refl H) rfl h.2⟩
theorem df_catO (ha : PE X a (tVar i)) (hb : PE X b (up (Cx.ky X) tb)) : PE X (.BinOp a .Add b pos) (upF (Cx.ky X) (dCatO i tb)) := by
  refine PE.imp (pe_op op_cat ha hb) fun σ H Q ⟨δ, R, c, L, es, h, k⟩ => ?_
  unfold dCatO at h
  cases q : δ.getD i .un with
  | un => rw [q] at h; exact h.elim
  | v d => rw [q] at h; exact h.elim
  | own ds =>
    rw [q] at h
    obtain ⟨a, xs, e1, la, ea, ra⟩ := es.own i ds (getD_own q)
    refine ⟨.ref a, e1, δ, _, c, L, es, h, fun u H2 e x2 r2 h2 => ?_⟩
    obtain ⟨ys, rfl, hz, h4⟩ := asL_of h2
    obtain ⟨q, ws, e2, q2, rb⟩ := r2
    have ra' := ra.ext (x2.hide (oor c.P L))
    refine ⟨a, q, xs, ws, rfl, e2, x2.lst ea, (hide_ext _ _).lst q2, by rw [← ra.len, ← rb.len]; exact hz, fun n hn => ?_⟩
    exact k n _ (ds ++ ys) (xs ++ ws) (x2.trans (Ext.new hn)) (x2.none hn) upd_same ((ra'.app rb).ext (xplus (κ := Cx.ky X) (c := c) hn)) h4
theorem ds_pop {apos cpos : Pos} (hv : PE X (.Name x npos) (tVar i)) (he : PE X e (up (Cx.ky X) te))
    (h : ∀ {ta : TA}, PA X [e] ta → PS X (.Expr (.Call (.Attribute (.Name x npos) "pop" apos) [e] [] cpos) pos) (tDrop (tBM X.K "list" rPopAt (tVar i) ta)))
    (hs : starEach [e] X.env = (false, eval e X.env) :: starEach [] X.env := by rfl) : PS X (.Expr (.Call (.Attribute (.Name x npos) "pop" apos) [e] [] cpos) pos) (upS (Cx.ky X) (dPop i te)) := by
  refine PS.imp (h (da_cons he da_nil hs)) fun D σ H ⟨δ, E, c, L, es, h, f⟩ => ?_
  unfold dPop at h
  cases q : δ.getD i .un with
  | un => rw [q] at h; exact h.elim
  | v d => rw [q] at h; exact h.elim
  | own ds =>
    rw [q] at h
    have ho := getD_own q
    obtain ⟨a, xs, e1, la, ea, ra⟩ := es.own i ds ho
    refine ⟨.ref a, e1, .inl ⟨rfl, _, .inl (.inl ea)⟩, δ, fun ds' => (match ds' with | [d] => asI d fun z => ∃ k, seqIndex? z ds.length = some k ∧ k < ds.length ∧ 0 ≤ z ∧ z < 2 ^ 62 ∧ E.nx (δ.set i (.own (ds.eraseIdx k))) | _ => False), c, L, es, h, fun vs H1 ds' x1 r1 h1 => ?_⟩
    obtain ⟨z, rfl, k, hk, hlt, h0, hz, h2⟩ : ∃ z, ds' = [.p (.int z)] ∧ ∃ k, seqIndex? z ds.length = some k ∧ k < ds.length ∧ 0 ≤ z ∧ z < 2 ^ 62 ∧ E.nx (δ.set i (.own (ds.eraseIdx k))) := by
      match ds', h1 with
      | [d], h1 =>
        obtain ⟨z, rfl, h2⟩ := asI_of h1
        exact ⟨z, rfl, h2⟩
    obtain ⟨v, rfl, rv⟩ := rvA1 r1
    have ev : v = .int z := rv
    subst ev
    have es1 := es.on x1
    have hl := ra.len
    obtain ⟨w, hw⟩ : ∃ w, xs[k]? = some w := ⟨_, List.getElem?_eq_getElem (by omega)⟩
    exact ⟨a, xs, z, k, w, rfl, rfl, x1.lst ea, by omega, by omega, by rw [← hl]; exact hk, hw, f.nx _ _ _ L (es1.put ho e1 ((ra.ext (x1.hide _)).erase k)) h2⟩
end
end MR

/-! Sets of things that lie on the heap and have a hash (tuples of texts, of numbers, of both), fewer than 64 of them. -/
namespace MR
open PySem PySem.Spec PyProof.Rows L2
structure SKind (P : Program) (w : World) (K : Type) [DecidableEq K] extends HeapKind P w K where
  cls0 : ∀ {A : Around} {E : Value → Shared → Prop} {s : Shared} {k : K} {a : Addr} {Q : Bool → Shared → Prop}, is s.heap k a → Q false s → wpAny (model P w) A (ofAClassStatement 8 (.ref a)) Q E s
  hby : ∀ {A : Around} {E : Value → Shared → Prop} {s : Shared} {k : K} {a : Addr} {Q : Bool → Shared → Prop}, is s.heap k a → (∀ b, Q b s) → wpAny (model P w) A (hashByValue 8 (.ref a)) Q E s
  stays : ∀ {h h' : Heap} {k : K} {b a : Addr} {o : Obj} {es : Array (Int × Value)} {ep : Nat} {t : SetTable}, is h k b → h.get? a = some o → o.data = .set es ep t → Heap.SameBut a h h' → is h' k b
  keep : ∀ {h h' : Heap} {k : K} {b : Addr}, is h k b → (∀ c o, h.get? c = some o → h'.get? c = some o) → is h' k b
section
variable {P : Program} {w : World} {K : Type} [DecidableEq K]
def cells (kd : SKind P w K) (L : List (Addr × K)) : List (Int × Value) := L.map fun p => (kd.hash p.2, Value.ref p.1)
structure HSet (kd : SKind P w K) (h : Heap) (a : Addr) (L : List (Addr × K)) (es : Array (Int × Value)) (ep : Nat) (t : SetTable) : Prop where
  at_ : ∃ o, h.get? a = some o ∧ o.ExactSet ∧ o.data = .set es ep t
  row : es.toList = cells kd L
  tb : TabOk t (L.map fun p => kd.hash p.2)
  one : (L.map Prod.snd).Nodup
  ink : ∀ p ∈ L, kd.is h p.2 p.1
  ld : w.params.followText "set-order" = true ∨ t.led = true
  roomy : L.length * 5 < t.mask * 3
  few : L.length < 64
theorem cells_len (kd : SKind P w K) (L : List (Addr × K)) : (cells kd L).length = L.length := List.length_map _
theorem cells_at (kd : SKind P w K) {L : List (Addr × K)} {i : Nat} {p : Addr × K} (h : L[i]? = some p) : (cells kd L)[i]? = some (kd.hash p.2, Value.ref p.1) := by
  unfold cells
  rw [List.getElem?_map, h]
  rfl
variable {kd : SKind P w K} {A : Around} {E : Value → Shared → Prop} {s : Shared} {a : Addr} {L : List (Addr × K)} {es : Array (Int × Value)} {ep : Nat} {t : SetTable}
theorem HSet.many (S : HSet kd s.heap a L es ep t) : es.size = L.length := by rw [← Array.length_toList, S.row, cells_len]
theorem HSet.cell (S : HSet kd s.heap a L es ep t) {i : Nat} {p : Addr × K} (h : L[i]? = some p) : es[i]? = some (kd.hash p.2, Value.ref p.1) := by rw [← Array.getElem?_toList, S.row, cells_at kd h]
theorem HSet.placed (S : HSet kd s.heap a L es ep t) : t.place.toList.length = L.length := by rw [Array.length_toList, S.tb.sz, List.length_map]
theorem HSet.fit (S : HSet kd s.heap a L es ep t) : t.fits es.size = true := by
  have c1 : t.place.size = es.size := by rw [S.many, ← S.placed, Array.length_toList]
  have c2 := S.roomy
  have c3 := S.many
  unfold SetTable.fits SetTable.fill
  rw [S.tb.dm, Bool.and_eq_true, beq_iff_eq, decide_eq_true_eq]
  exact ⟨c1, by show t.place.size + 0 ≤ t.mask; omega⟩
theorem HSet.stands (S : HSet kd s.heap a L es ep t) : ¬ t.gaveWay = true := by
  unfold SetTable.gaveWay
  rw [mask_odd S.tb.mok]
  exact Bool.false_ne_true
/-- looking a thing up among such things can't be seen -/
theorem unseen {k : K} {b : Addr} {Q : Bool → Shared → Prop} (hb : kd.is s.heap k b) {ys : List Value} (hy : ∀ y ∈ ys, ∃ j c, y = Value.ref c ∧ kd.is s.heap j c) (h : Q false s) : wpAny (model P w) A (searchCouldBeSeen (.ref b) ys) Q E s := by
  unfold searchCouldBeSeen
  refine wpAny_bind (wpAny_forIn_list _ (fun rest r z => r.1 = none ∧ z = s ∧ ∀ y ∈ rest, ∃ j c, y = Value.ref c ∧ kd.is s.heap j c) _ ?turn ?stop _ _ ⟨rfl, rfl, hy⟩)
  case stop =>
    rintro ⟨r1, r2⟩ z ⟨e, rfl, _⟩
    cases e
    exact wpAny_pure h
  case turn =>
    rintro v rest r z ⟨_, rfl, all⟩
    obtain ⟨j, c, rfl, hc⟩ := all v List.mem_cons_self
    have later : ∀ y ∈ rest, ∃ j c, y = Value.ref c ∧ kd.is z.heap j c := fun u m => all u (List.mem_cons_of_mem _ m)
    dsimp only
    by_cases q : (b == c || (carriedByValue (.ref b) && carriedByValue (.ref c))) = true
    · exact wp_if_pos q (wpAny_pure ⟨rfl, rfl, later⟩)
    · refine wp_if_neg q (wpAny_bind (kd.quiet hb ?_))
      simp only [Bool.not_true, Bool.false_eq_true, if_false]
      refine wpAny_bind (kd.quiet hc ?_)
      simp only [Bool.not_true, Bool.false_eq_true, if_false]
      refine wpAny_bind (kd.cls0 hb ?_)
      simp only [Bool.false_eq_true, if_false]
      refine wpAny_bind (kd.cls0 hc ?_)
      simp only [Bool.false_eq_true, if_false]
      exact wpAny_pure ⟨rfl, rfl, later⟩
abbrev stp (t : SetTable) (z : Int) (c : Nat) : SetTable.Probe := nth t.mask (t.probeStart z) c
theorem stp_j (t : SetTable) (z : Int) (c : Nat) : (stp t z c).j = way t.mask z c := rfl
theorem stp_on (t : SetTable) (z : Int) (c q : Nat) : nth t.mask (stp t z c) q = stp t z (c + q) := (nth_add t.mask c _ q).symm
theorem stp_dm (t : SetTable) (z : Int) (c : Nat) : (stp t z c).dummy = none := by
  have key : ∀ (n : Nat) (p : SetTable.Probe), p.dummy = none → (nth t.mask p n).dummy = none := by
    intro n
    induction n with
    | zero => exact fun p h => h
    | succ n ih =>
      intro p h
      refine ih (adv t.mask p) ?_
      unfold adv
      split
      · exact h
      · exact h
  exact key c _ rfl
/-- the walk along a thing's way, from its c-th step -/
theorem HSet.seek (S : HSet kd s.heap a L es ep t) {x : Addr} {k : K} (hx : kd.is s.heap k x) (hr : kd.room A) {N : Nat} (hN : N < 10 * SetTable.turns t.mask) (free : way t.mask (kd.hash k) N ∉ t.place.toList)
    (full : ∀ c, c < N → way t.mask (kd.hash k) c ∈ t.place.toList) {Q : SetFound → Shared → Prop} (yes : k ∈ L.map Prod.snd → Q (.there none) s) (no : k ∉ L.map Prod.snd → Q (.free (way t.mask (kd.hash k) N) false) s) :
    ∀ (f c : Nat) (o : Option SetTable.Probe), o.getD (t.probeStart (kd.hash k)) = stp t (kd.hash k) c → c ≤ N → N - c < f → (∀ (i : Nat) (p : Addr × K), L[i]? = some p → p.2 = k → ∃ d, c ≤ d ∧ d < N ∧ t.place.toList[i]? = some (way t.mask (kd.hash k) d)) →
      wpAny (model P w) A (setSearchFrom a (.ref x) (kd.hash k) true f o) Q E s
  | 0, c, o, _, _, hf, _ => absurd hf (Nat.not_lt_zero _)
  | f + 1, c, o, ho, hc, hf, ahead => by
    generalize hz : kd.hash k = z at free full ho ahead yes no ⊢
    obtain ⟨ob, h1, h2, h3⟩ := S.at_
    rw [setSearchFrom_succ]
    refine wpAny_bind (wpAny_setState_of h1 h3 S.fit ?_)
    dsimp only
    refine wp_if_neg S.stands ?_
    try refine wpAny_bind (wpAny_pure ?_)
    have hs : ∀ (i : Nat) (p : Addr × K), L[i]? = some p → (es[i]?.map (·.1)).getD 0 = kd.hash p.2 := fun i p hp => by
      rw [S.cell hp]
      rfl
    have spec := go_spec t S.tb.ris S.tb.dm (fun i => (es[i]?.map (·.1)).getD 0) z (10 * SetTable.turns t.mask) (N - c) (stp t z c) (stp_dm t z c) (by omega)
      (fun q hq => by rw [stp_on, stp_j]; exact full (c + q) (by omega)) (by rw [stp_on, stp_j, Nat.add_sub_of_le hc]; exact free)
    simp only [stp_on, stp_j] at spec
    rw [Nat.add_sub_of_le hc] at spec
    rcases spec with ⟨q, i, hq, hi, hh, before, pr⟩ | ⟨before, pr⟩
    · have hil : i < L.length := by rw [← S.placed]; exact (List.getElem?_eq_some_iff.mp hi).1
      obtain ⟨p, hp⟩ : ∃ p, L[i]? = some p := ⟨_, List.getElem?_eq_getElem hil⟩
      have mem : p ∈ L := List.mem_of_getElem? hp
      have live : t.slot (way t.mask z (c + q)) = .live i := slot_live S.tb.ris hi
      have pr2 : t.probe (fun i => (es[i]?.map (·.1)).getD 0) z (o.getD (t.probeStart z)) = some (.candidate (way t.mask z (c + q)) i (stp t z (c + (q + 1)))) := by
        rw [ho]
        exact pr
      rw [pr2]
      dsimp only
      have go : wpAny (model P w) A (searchRest a (.ref x) z true f es t (way t.mask z (c + q)) i (stp t z (c + (q + 1)))) Q E s := by
        unfold searchRest
        rw [S.cell hp]
        refine wpAny_bind (wpAny_holding (kd.eqBool hr (S.ink p mem) hx (wpAny_bind (wpAny_setState_of h1 h3 S.fit ?_))))
        dsimp only
        by_cases same : p.2 = k
        · exact wp_if_pos (by rw [decide_eq_true same]; rfl) (wpAny_pure (yes (List.mem_map.mpr ⟨p, mem, same⟩)))
        · refine wp_if_neg (by rw [decide_eq_false same]; exact Bool.false_ne_true) ?_
          try refine wpAny_bind (wpAny_pure ?_)
          rw [sameMem]
          simp only [if_true, live, S.cell hp]
          refine wpAny_bind (wpAny_isSame_ref_self (wpAny_bind (wpAny_pure ?_)))
          simp only [if_true]
          refine wp_if_neg (by rw [decide_eq_false same]; exact Bool.false_ne_true) ?_
          rw [← hz]
          refine HSet.seek S hx hr hN (by rw [hz]; exact free) (by rw [hz]; exact full) yes (by rw [hz]; exact no) f (c + (q + 1)) _ (by rw [hz]; rfl) (by omega) (by omega) fun j u hu eu => ?_
          rw [hz]
          obtain ⟨d, d1, d2, d3⟩ := ahead j u hu eu
          refine ⟨d, ?_, d2, d3⟩
          have hash_u : (es[j]?.map (·.1)).getD 0 = z := by rw [hs j u hu, eu, hz]
          have far : ¬ d < c + q := fun m => before (d - c) j (by omega) (by rw [show c + (d - c) = d by omega]; exact d3) hash_u
          have apart : d ≠ c + q := fun m => by
            rw [m] at d3
            have l2 := slot_live S.tb.ris d3
            rw [live] at l2
            cases l2
            rw [hp] at hu
            cases hu
            exact same eu
          omega
      by_cases led : t.led = true
      · refine wp_if_neg (by rw [led]; exact Bool.false_ne_true) ?_
        try refine wpAny_bind (wpAny_pure ?_)
        exact go
      · refine wp_if_pos (by rw [Bool.eq_false_iff.mpr led]; rfl) (wpAny_bind (unseen hx (fun y hy => ?_) ?_))
        · obtain ⟨e, he, rfl⟩ := List.mem_map.mp hy
          have me : e ∈ es.toList := by
            have := Array.mem_toList_iff.mp he
            simp at this
            simpa using this.1
          rw [S.row] at me
          obtain ⟨u, mu, rfl⟩ := List.mem_map.mp me
          exact ⟨u.2, u.1, rfl, S.ink u mu⟩
        · refine wp_if_neg Bool.false_ne_true ?_
          try refine wpAny_bind (wpAny_pure ?_)
          exact go
    · have pr2 : t.probe (fun i => (es[i]?.map (·.1)).getD 0) z (o.getD (t.probeStart z)) = some (.empty (way t.mask z N) none) := by
        rw [ho]
        exact pr
      rw [pr2]
      refine wpAny_pure (no fun m => ?_)
      obtain ⟨u, mu, eu⟩ := List.mem_map.mp m
      obtain ⟨j, hj, ej⟩ := List.getElem_of_mem mu
      have hu : L[j]? = some u := by rw [List.getElem?_eq_getElem hj, ej]
      obtain ⟨d, d1, d2, d3⟩ := ahead j u hu eu
      exact before (d - c) j (by omega) (by rw [show c + (d - c) = d by omega]; exact d3) (by rw [hs j u hu, eu, hz])
/-- the search that adding makes -/
theorem HSet.search (S : HSet kd s.heap a L es ep t) {x : Addr} {k : K} (hx : kd.is s.heap k x) (hr : kd.room A) {Q : SetFound → Shared → Prop} (yes : k ∈ L.map Prod.snd → Q (.there none) s)
    (no : ∀ N, k ∉ L.map Prod.snd → way t.mask (kd.hash k) N ∉ t.place.toList → (∀ c, c < N → way t.mask (kd.hash k) c ∈ t.place.toList) → Q (.free (way t.mask (kd.hash k) N) false) s) : wpAny (model P w) A (setSearch a (.ref x) (kd.hash k) true) Q E s := by
  obtain ⟨N, n1, n2, n3⟩ := S.tb.first (by have := S.roomy; rw [List.length_map]; omega) (kd.hash k)
  have short : 10 * SetTable.turns t.mask ≤ 1420 := by
    unfold SetTable.turns
    rcases S.tb.mok with m | m | m <;> omega
  unfold setSearch
  refine S.seek hx hr n1 n2 n3 yes (fun z => no N z n2 n3) 100000 0 none rfl (Nat.zero_le _) (by omega) fun i p hp e => ?_
  have at1 : (L.map fun p => kd.hash p.2)[i]? = some (kd.hash k) := by
    rw [List.getElem?_map, hp, ← e]
    rfl
  have at2 : i < t.place.toList.length := by rw [S.placed]; exact (List.getElem?_eq_some_iff.mp hp).1
  obtain ⟨d, d1, d2⟩ := S.tb.before n2 at1 (List.getElem?_eq_getElem at2)
  exact ⟨d, Nat.zero_le _, d1, by rw [List.getElem?_eq_getElem at2, d2]⟩
theorem HSet.other (S : HSet kd s.heap a L es ep t) {h' : Heap} {k : K} {b : Addr} (hb : kd.is s.heap k b) (m : Heap.SameBut a s.heap h') : kd.is h' k b := by
  obtain ⟨ob, h1, _, h3⟩ := S.at_
  exact kd.stays hb h1 h3 m
theorem cells_put (kd : SKind P w K) (L : List (Addr × K)) (n : Nat) (x : Addr) (k : K) : cells kd (L.take n ++ (x, k) :: L.drop n) = (cells kd L).take n ++ (kd.hash k, Value.ref x) :: (cells kd L).drop n := by
  simp only [cells, List.map_append, List.map_cons, List.map_take, List.map_drop]
/-- the rows in another order -/
theorem cells_order (kd : SKind P w K) {L : List (Addr × K)} {es : Array (Int × Value)} {ord : Array Nat} (row : es.toList = cells kd L) (pm : ord.toList.Perm (List.range L.length)) :
    ∃ M, (ord.filterMap fun i => es[i]?).toList = cells kd M ∧ M.Perm L ∧ (ord.toList.map fun i => (es.map (·.1)).getD i 0) = M.map fun p => kd.hash p.2 := by
  have at_ : ∀ i : Nat, es[i]? = (L[i]?).map fun p : Addr × K => (kd.hash p.2, Value.ref p.1) := fun i => by
    rw [← Array.getElem?_toList, row]
    unfold cells
    rw [List.getElem?_map]
  refine ⟨ord.toList.filterMap fun i => L[i]?, ?_, ?_, ?_⟩
  · rw [Array.toList_filterMap]
    unfold cells
    rw [List.map_filterMap]
    exact congrArg (fun g => ord.toList.filterMap g) (funext at_)
  · refine (pm.filterMap _).trans (List.Perm.of_eq ?_)
    have key : ∀ n, n ≤ L.length → (List.range n).filterMap (fun i => L[i]?) = L.take n := fun n => by
      induction n with
      | zero => intro _; rfl
      | succ n ih =>
        intro hn
        rw [List.range_succ, List.filterMap_append, ih (Nat.le_of_lt hn), List.take_succ, List.getElem?_eq_getElem hn]
        simp [List.getElem?_eq_getElem hn]
    rw [key _ (Nat.le_refl _), List.take_length]
  · have inL : ∀ i ∈ ord.toList, i < L.length := fun i hi => List.mem_range.mp (pm.mem_iff.mp hi)
    generalize ord.toList = os at inL
    induction os with
    | nil => rfl
    | cons i os ih =>
      have hi := List.getElem?_eq_getElem (inL i List.mem_cons_self)
      rw [List.map_cons, ih fun j hj => inL j (List.mem_cons_of_mem _ hj), List.filterMap_cons_some hi, List.map_cons]
      congr 1
      rw [Array.getD_eq_getD_getElem?, Array.getElem?_map, at_, hi]
      rfl
/-- a larger table -/
theorem relay_set {ob : Obj} (h1 : s.heap.get? a = some ob) (h2 : ob.ExactSet) (h3 : ob.data = .set es ep t) (row : es.toList = cells kd L) (tb : TabOk t (L.map fun p => kd.hash p.2)) (room : L.length ≤ t.mask)
    (one : (L.map Prod.snd).Nodup) (ink : ∀ p ∈ L, kd.is s.heap p.2 p.1) (ld : w.params.followText "set-order" = true ∨ t.led = true) (few : L.length < 64) {n M : Nat}
    (hM : SetTable.sizeAbove n - 1 = M) (ok : MaskOk M) (le : SetTable.sizeAbove n ≤ 128) (roomy : L.length * 5 < M * 3) {Q : Unit → Shared → Prop}
    (hQ : ∀ (h' : Heap) (L' : List (Addr × K)) (es' : Array (Int × Value)) (ep' : Nat) (t' : SetTable), Heap.SameBut a s.heap h' → HSet kd h' a L' es' ep' t' → L'.Perm L → Q () { s with heap := h' }) : wpAny (model P w) A (setRelay a n) Q E s := by
  have size : es.size = L.length := by rw [← Array.length_toList, row, cells_len]
  have fit : t.fits es.size = true := by
    have c1 : t.place.size = es.size := by rw [tb.sz, List.length_map, size]
    unfold SetTable.fits SetTable.fill
    rw [tb.dm, Bool.and_eq_true, beq_iff_eq, decide_eq_true_eq]
    exact ⟨c1, by show t.place.size + 0 ≤ t.mask; omega⟩
  have hn : (es.map (·.1)).size ≤ M := by rw [Array.size_map, size]; omega
  obtain ⟨t', ord, laid, pm, T, m1, m2, m3, m4⟩ := relaid_ok t hM ok hn
  rw [Array.size_map, size] at pm
  obtain ⟨L', r1, r2, r3⟩ := cells_order kd row pm
  rw [r3] at T
  have size2 : (ord.filterMap fun i => es[i]?).size = es.size := by rw [← Array.length_toList, r1, cells_len, r2.length_eq, size]
  rw [setRelay_eq]
  refine wpAny_bind (wpAny_setState_of h1 h3 fit ?_)
  refine wp_if_neg (by rw [sizeLine_eq]; omega) ?_
  try refine wpAny_bind (wpAny_pure ?_)
  rw [laid]
  refine wpAny_bind (wp_if_neg (by rw [size2, bne_self_eq_false]; exact Bool.false_ne_true) ?_)
  try refine wpAny_bind (wpAny_pure ?_)
  refine wpAny_pure (wpAny_storeSet_of h1 h3 ?_ (by rw [size2, size, sizeLine_eq]; omega))
  have but : Heap.SameBut a s.heap (s.heap.update a (Obj.putSet (ord.filterMap fun i => es[i]?) t')) := Heap.SameBut.update ..
  exact hQ _ L' _ (ep + 1) t' but ⟨⟨_, store_at h1 h3, ⟨h2.1, h2.2.1, h2.2.2⟩, rfl⟩, r1, T, (r2.map Prod.snd).nodup_iff.mpr one, fun p hp => kd.stays (ink p (r2.mem_iff.mp hp)) h1 h3 but, by rw [m2]; exact ld, by rw [r2.length_eq, m1]; exact roomy, by rw [r2.length_eq]; exact few⟩ r2
theorem put_mid {α : Type} (L : List α) (n : Nat) (x : α) : (L.take n ++ x :: L.drop n).Perm (x :: L) := by
  have m : (L.take n ++ x :: L.drop n).Perm (x :: (L.take n ++ L.drop n)) := List.perm_middle
  exact m.trans (List.Perm.of_eq (by rw [List.take_append_drop]))
theorem tab_plain {t : SetTable} {hs : List Int} (T : TabOk t hs) : TabOk { t with plain := false } hs := ⟨T.ris, T.dm, T.sz, T.mok, T.bd, T.reach⟩
/-- the end of adding: the row stored, the table laid anew if it is too full -/
theorem add_end {ob : Obj} (h1 : s.heap.get? a = some ob) (h2 : ob.ExactSet) (h3 : ob.data = .set es ep t) {x : Addr} {k : K} (S : HSet kd s.heap a L es ep t) (hx : kd.is s.heap k x) (few : L.length + 1 < 64) {L1 : List (Addr × K)} {es1 : Array (Int × Value)} {t1 : SetTable}
    (row : es1.toList = cells kd L1) (pm : L1.Perm ((x, k) :: L)) (m : k ∉ L.map Prod.snd) (tb : TabOk t1 (L1.map fun p => kd.hash p.2)) (mask : t1.mask = t.mask) (ld : t1.led = t.led) (fill : t1.fill = L.length + 1) {Q : Bool → Shared → Prop}
    (hQ : ∀ (h' : Heap) (L' : List (Addr × K)) (es' : Array (Int × Value)) (ep' : Nat) (t' : SetTable), Heap.SameBut a s.heap h' → HSet kd h' a L' es' ep' t' → L'.Perm ((x, k) :: L) → Q true { s with heap := h' }) :
    wpAny (model P w) A (do
      storeSet a es1 t1
      if !false && t1.tooFull then setRelay a (SetTable.grown (es.size + 1))
      return true) Q E s := by
  have roomy := S.roomy
  have len : L1.length = L.length + 1 := pm.length_eq
  have one : (L1.map Prod.snd).Nodup := (pm.map Prod.snd).nodup_iff.mpr (List.nodup_cons.mpr ⟨m, S.one⟩)
  have size : es1.size = L.length + 1 := by rw [← Array.length_toList, row, cells_len, len]
  refine wpAny_bind (wpAny_storeSet_of h1 h3 ?_ (by rw [size, sizeLine_eq]; omega))
  have but : Heap.SameBut a s.heap (s.heap.update a (Obj.putSet es1 t1)) := Heap.SameBut.update ..
  have now := store_at (es' := es1) (t' := t1) h1 h3
  generalize s.heap.update a (Obj.putSet es1 t1) = g at but now ⊢
  have ink : ∀ p ∈ L1, kd.is g p.2 p.1 := fun p hp => by
    rcases List.mem_cons.mp (pm.mem_iff.mp hp) with e | hp
    · rw [e]; exact kd.stays hx h1 h3 but
    · exact kd.stays (S.ink p hp) h1 h3 but
  have ld1 : w.params.followText "set-order" = true ∨ t1.led = true := by rw [ld]; exact S.ld
  have exact_ : ({ ob with data := .set es1 (ep + 1) t1 } : Obj).ExactSet := ⟨h2.1, h2.2.1, h2.2.2⟩
  by_cases full : t1.tooFull = true
  · have over : (L.length + 1) * 5 ≥ t1.mask * 3 := by
      unfold SetTable.tooFull at full
      rw [decide_eq_true_eq, fill] at full
      exact full
    rw [mask] at over
    have which : (t.mask = 7 ∧ L.length = 4) ∨ (t.mask = 31 ∧ L.length = 18) := by
      rcases S.tb.mok with e | e | e
      · exact .inl ⟨e, by omega⟩
      · exact .inr ⟨e, by omega⟩
      · omega
    have grow : ∀ M, SetTable.sizeAbove (SetTable.grown (L.length + 1)) - 1 = M → MaskOk M → SetTable.sizeAbove (SetTable.grown (L.length + 1)) ≤ 128 → (L.length + 1) * 5 < M * 3 →
        wpAny (model P w) A (setRelay a (SetTable.grown (L.length + 1))) (fun _ z => wpAny (model P w) A (pure true) Q E z) E { s with heap := g } := fun M e1 e2 e3 e4 => by
      refine relay_set (s := { s with heap := g }) now exact_ rfl row tb (by rw [len, mask]; omega) one ink ld1 (by rw [len]; exact few) e1 e2 e3 (by rw [len]; exact e4) ?_
      intro h' L' es' ep' t' but' S' pm'
      exact wpAny_pure (hQ h' L' es' ep' t' (but.trans but') S' (pm'.trans pm))
    have grown : wpAny (model P w) A (setRelay a (SetTable.grown (L.length + 1))) (fun _ z => wpAny (model P w) A (pure true) Q E z) E { s with heap := g } := by
      rcases which with ⟨_, e⟩ | ⟨_, e⟩
      · exact grow 31 (by rw [e, size_20]) (.inr (.inl rfl)) (by rw [e, size_20]; decide) (by omega)
      · exact grow 127 (by rw [e, size_76]) (.inr (.inr rfl)) (by rw [e, size_76]; decide) (by omega)
    rw [S.many]
    first
      | exact wpAny_bind (wp_if_pos (by rw [full]; rfl) grown)
      | exact wp_if_pos (by rw [full]; rfl) (wpAny_bind grown)
  · have under : L1.length * 5 < t1.mask * 3 := by
      unfold SetTable.tooFull at full
      rw [decide_eq_true_eq, fill] at full
      rw [len]
      omega
    have fin := hQ g L1 es1 (ep + 1) t1 but ⟨⟨_, now, exact_, rfl⟩, row, tb, one, ink, ld1, under, by rw [len]; exact few⟩ pm
    first
      | exact wp_if_neg (by rw [Bool.eq_false_iff.mpr full]; exact Bool.false_ne_true) (wpAny_pure fin)
      | exact wpAny_bind (wp_if_neg (by rw [Bool.eq_false_iff.mpr full]; exact Bool.false_ne_true) (wpAny_pure (wpAny_pure fin)))
/-- adding one -/
theorem HSet.add (S : HSet kd s.heap a L es ep t) {x : Addr} {k : K} (hx : kd.is s.heap k x) (hr : kd.room A) (few : L.length + 1 < 64) {Q : Bool → Shared → Prop}
    (hQ : ∀ (b : Bool) (h' : Heap) (L' : List (Addr × K)) (es' : Array (Int × Value)) (ep' : Nat) (t' : SetTable), Heap.SameBut a s.heap h' → HSet kd h' a L' es' ep' t' →
      (k ∈ L.map Prod.snd ∧ L' = L) ∨ (k ∉ L.map Prod.snd ∧ L'.Perm ((x, k) :: L)) → Q b { s with heap := h' }) : wpAny (model P w) A (setAddHashed a (.ref x) (kd.hash k)) Q E s := by
  obtain ⟨ob, h1, h2, h3⟩ := S.at_
  unfold setAddHashed
  rw [show (100000 : Nat) = 99999 + 1 from rfl, setAddHashedIn_succ]
  refine wpAny_holding (wpAny_bind (wpAny_setState_of h1 h3 S.fit ?_))
  dsimp only
  refine wp_if_neg (by unfold byScan; simp [Value.scannable]) ?_
  try refine wpAny_bind (wpAny_pure ?_)
  refine wpAny_bind (S.search hx hr (fun m => ?_) fun N m free full => ?_)
  · exact wpAny_pure (hQ false s.heap L es ep t (Heap.SameBut.refl a s.heap) S (.inl ⟨m, rfl⟩))
  · refine wpAny_bind (wpAny_setState_of h1 h3 S.fit ?_)
    dsimp only
    obtain ⟨q1, q2, q3, q4, q5, q6, q7, q8, q9⟩ := S.tb.put free full
    generalize t.put (way t.mask (kd.hash k) N) = pt at q1 q3 q4 q5 q6 q7 q8 q9 ⊢
    obtain ⟨t1, n⟩ := pt
    dsimp only at q1 q3 q4 q5 q6 q7 q8 q9 ⊢
    rw [← q1] at q2 q3
    have pm := put_mid L n (x, k)
    have row : (SetTable.insertAt es n (kd.hash k, Value.ref x)).toList = cells kd (L.take n ++ (x, k) :: L.drop n) := by rw [SetTable.toList_insertAt, cells_put, S.row]
    have tb : TabOk t1 ((L.take n ++ (x, k) :: L.drop n).map fun p => kd.hash p.2) := by
      rw [List.map_append, List.map_cons, List.map_take, List.map_drop]
      exact q3
    have fill : t1.fill = L.length + 1 := by rw [q9, List.length_map]
    have yes := add_end (A := A) (E := E) h1 h2 h3 S hx few row pm m tb q4 q5 fill (Q := Q) fun h' L' es' ep' t' but S' pm' => hQ true h' L' es' ep' t' but S' (.inr ⟨m, pm'⟩)
    have no := add_end (A := A) (E := E) h1 h2 h3 S hx few row pm m (tab_plain tb) q4 q5 fill (Q := Q) fun h' L' es' ep' t' but S' pm' => hQ true h' L' es' ep' t' but S' (.inr ⟨m, pm'⟩)
    have both : ∀ b : Bool, wpAny (model P w) A (do
        storeSet a (SetTable.insertAt es n (kd.hash k, Value.ref x)) (if b = true then t1 else { t1 with plain := false })
        if !false && (if b = true then t1 else { t1 with plain := false }).tooFull then setRelay a (SetTable.grown (es.size + 1))
        return true) Q E s := fun b => by cases b with | true => exact yes | false => exact no
    by_cases pl : t1.plain = true
    · first
        | exact wpAny_bind (wp_if_pos pl (kd.hby hx both))
        | exact wp_if_pos pl (wpAny_bind (kd.hby hx both))
    · first
        | exact wpAny_bind (wp_if_neg pl (wpAny_pure (both true)))
        | exact wp_if_neg pl (wpAny_bind (wpAny_pure (both true)))
/-- none yet -/
theorem HSet.none_yet {h : Heap} (ho : h.get? a = some (newSetObj w)) : HSet kd h a [] #[] 0 (.fresh 0 0 (!w.params.followText "set-order")) := by
  refine ⟨⟨_, ho, ⟨rfl, rfl, rfl⟩, rfl⟩, rfl, ⟨List.Pairwise.nil, rfl, rfl, .inl rfl, fun x hx => (by cases hx), fun i z j hi => (by cases hi)⟩, List.nodup_nil, fun p hp => (by cases hp), ?_, (by show 0 * 5 < 7 * 3; decide), (by show 0 < 64; decide)⟩
  show _ ∨ (!w.params.followText "set-order") = true
  cases w.params.followText "set-order" with
  | true => exact .inl rfl
  | false => exact .inr rfl
theorem HSet.keep {h h' : Heap} (S : HSet kd h a L es ep t) (m : ∀ o, h.get? a = some o → h'.get? a = some o) (n : ∀ p ∈ L, kd.is h' p.2 p.1) : HSet kd h' a L es ep t := by
  obtain ⟨o, h1, h2, h3⟩ := S.at_
  exact ⟨⟨o, m o h1, h2, h3⟩, S.row, S.tb, S.one, n, S.ld, S.roomy, S.few⟩
end
/-! ### tuples of numbers and texts -/
section
variable {P : Program} {w : World} {A : Around} {E : Value → Shared → Prop} {s : Shared}
theorem keyItems {k : List Key} {vs : List Value} (h : ItemsAre (mixKind P w) k vs) : ∀ v ∈ vs, (∃ i t, v = Value.int i t) ∨ ∃ x t, v = Value.str x t := by
  induction h with
  | nil => exact fun v m => absurd m List.not_mem_nil
  | cons e _ ih =>
    intro v m
    rcases List.mem_cons.mp m with q | m
    · rw [q]
      rcases keyIs_shape e with ⟨i, t, _, z⟩ | ⟨x, t, _, z⟩
      · exact .inl ⟨i, t, z⟩
      · exact .inr ⟨x, t, z⟩
    · exact ih v m
theorem key_cls {v : Value} (h : (∃ i t, v = Value.int i t) ∨ ∃ x t, v = Value.str x t) (n : Nat) : ofAClassStatement n v = pure false := by
  rcases h with ⟨i, t, rfl⟩ | ⟨x, t, rfl⟩ <;> cases n <;> rfl
theorem key_hby {v : Value} (h : (∃ i t, v = Value.int i t) ∨ ∃ x t, v = Value.str x t) : hashByValue 7 v = pure true ∨ hashByValue 7 v = pure false := by
  rcases h with ⟨i, t, rfl⟩ | ⟨x, t, rfl⟩
  · exact .inl rfl
  · exact .inr rfl
theorem tup_cls {k : List Key} {a : Addr} {Q : Bool → Shared → Prop} (hk : IsTupleKey (mixKind P w) s.heap k a) (h : Q false s) : wpAny (model P w) A (ofAClassStatement 8 (.ref a)) Q E s := by
  have ty := hk.typeIs
  obtain ⟨o, items, n, ho, _, hd, hi⟩ := hk
  have each := keyItems hi
  unfold ofAClassStatement
  refine wpAny_bind (wpAny_typeOf ty ?_)
  have e : (("tuple" : String) == "tuple") = true := by decide
  simp only [e, if_true, Bool.not_true, Bool.false_eq_true, if_false]
  try refine wpAny_bind (wpAny_pure ?_)
  refine wpAny_bind (m := seqItems? (.ref a)) (wpAny_seqItems ho hd ?_)
  refine wpAny_bind (?_ : wpAny _ _ (forIn items _ _) _ _ s)
  rw [← Array.forIn_toList]
  refine wpAny_forIn_list _ (fun rest r z => r.1 = none ∧ z = s ∧ ∀ v ∈ rest, (∃ i t, v = Value.int i t) ∨ ∃ x t, v = Value.str x t) _ ?turn ?stop _ _ ⟨rfl, rfl, each⟩
  case stop =>
    rintro ⟨r1, r2⟩ z ⟨e, rfl, _⟩
    cases e
    exact wpAny_pure h
  case turn =>
    rintro v rest r z ⟨_, rfl, all⟩
    rw [key_cls (all v List.mem_cons_self)]
    refine wpAny_bind (wpAny_pure ?_)
    simp only [Bool.false_eq_true, if_false]
    exact wpAny_pure ⟨rfl, rfl, fun u m => all u (List.mem_cons_of_mem _ m)⟩
theorem tup_hby {k : List Key} {a : Addr} {Q : Bool → Shared → Prop} (hk : IsTupleKey (mixKind P w) s.heap k a) (h : ∀ b, Q b s) : wpAny (model P w) A (hashByValue 8 (.ref a)) Q E s := by
  have ty := hk.typeIs
  obtain ⟨o, items, n, ho, _, hd, hi⟩ := hk
  have each := keyItems hi
  unfold hashByValue
  refine wpAny_bind (wpAny_specialOf ty F.slot_tuple_hash.lookup ?_)
  refine wpAny_bind (m := seqItems? (.ref a)) (wpAny_seqItems ho hd ?_)
  refine wpAny_bind (?_ : wpAny _ _ (forIn items _ _) _ _ s)
  rw [← Array.forIn_toList]
  refine wpAny_forIn_list _ (fun rest r z => r.1 = none ∧ z = s ∧ ∀ v ∈ rest, (∃ i t, v = Value.int i t) ∨ ∃ x t, v = Value.str x t) _ ?turn ?stop _ _ ⟨rfl, rfl, each⟩
  case stop =>
    rintro ⟨r1, r2⟩ z ⟨e, rfl, _⟩
    cases e
    exact wpAny_pure (h true)
  case turn =>
    rintro v rest r z ⟨_, rfl, all⟩
    rcases key_hby (all v List.mem_cons_self) with q | q
    · rw [q]
      refine wpAny_bind (wpAny_pure ?_)
      simp only [Bool.not_true, Bool.false_eq_true, if_false]
      exact wpAny_pure ⟨rfl, rfl, fun u m => all u (List.mem_cons_of_mem _ m)⟩
    · rw [q]
      refine wpAny_bind (wpAny_pure ?_)
      simp only [Bool.not_false, if_true]
      exact wpAny_pure (wpAny_pure (h false))
def tupKd (P : Program) (w : World) : SKind P w (List Key) where
  toHeapKind := tupleKind (mixKind P w)
  cls0 := tup_cls
  hby := tup_hby
  stays := fun {h h' k b a o es ep t} hk ho hd hs => by
    obtain ⟨o2, items, n, h1, h2, h3, h4⟩ := hk
    have ne : b ≠ a := by
      rintro rfl
      rw [h1] at ho
      cases ho
      rw [hd] at h3
      cases h3
    exact ⟨o2, items, n, (hs.2 b ne).trans h1, h2, h3, h4⟩
  keep := fun {h h' k b} hk m => by
    obtain ⟨o, items, n, h1, r⟩ := hk
    exact ⟨o, items, n, m b o h1, r⟩
end
end MR

/-! set(..) of a list of such things, sorted of the set of them. -/
namespace MR
open PySem PySem.Spec PyProof.Rows L2
section
variable {P : Program} {w : World} {K : Type} [DecidableEq K] {kd : SKind P w K} {A : Around} {E : Value → Shared → Prop} {s : Shared}
/-- some set at a, of things out of ks, each of ks's keys in it -/
structure HSome (kd : SKind P w K) (h : Heap) (a : Addr) (ks : List (Addr × K)) (L : List (Addr × K)) : Prop where
  set : ∃ es ep t, HSet kd h a L es ep t
  sub : ∀ p ∈ L, p ∈ ks
  all : ∀ p ∈ ks, p.2 ∈ L.map Prod.snd
  len : L.length ≤ ks.length
theorem HSome.next {h h' : Heap} {a : Addr} {ks L L' : List (Addr × K)} {x : Addr × K} (S : HSome kd h a ks L) (T : ∃ es ep t, HSet kd h' a L' es ep t) (q : (x.2 ∈ L.map Prod.snd ∧ L' = L) ∨ (x.2 ∉ L.map Prod.snd ∧ L'.Perm (x :: L))) : HSome kd h' a (ks ++ [x]) L' := by
  rcases q with ⟨m, rfl⟩ | ⟨_, pm⟩
  · exact ⟨T, fun p hp => List.mem_append_left _ (S.sub p hp), fun p hp => by
      rcases List.mem_append.mp hp with z | z
      · exact S.all p z
      · rw [List.mem_singleton.mp z]; exact m, by have := S.len; rw [List.length_append]; omega⟩
  · refine ⟨T, fun p hp => ?_, fun p hp => ?_, ?_⟩
    · rcases List.mem_cons.mp (pm.mem_iff.mp hp) with e | z
      · rw [e]; exact List.mem_append_right _ List.mem_cons_self
      · exact List.mem_append_left _ (S.sub p z)
    · refine (pm.map Prod.snd).mem_iff.mpr ?_
      rcases List.mem_append.mp hp with z | z
      · exact List.mem_cons_of_mem _ (S.all p z)
      · rw [List.mem_singleton.mp z]; exact List.mem_cons_self
    · have := S.len
      rw [pm.length_eq, List.length_append, List.length_cons, List.length_singleton]
      omega
/-- the loop by which an iterator's things come in -/
theorem setH_loop {I : Addr} {fp wr : List Addr} {G : Array GenState → Array GenState → Prop} {n : Nat} {Pv : Nat → Value → Prop} {St : Nat → Shared → Prop} {R : Result → Shared → Prop} (W : WalksS P w A.in1 I fp wr G n Pv St) (D : Addr) (hD : D ∉ fp)
    (ks : List (Addr × K)) (hn : n = ks.length) (few : ks.length < 64) (hval : ∀ i v, Pv i v → ∃ p, ks[i]? = some p ∧ v = .ref p.1) (h0 : Heap) (hk : ∀ p ∈ ks, kd.is h0 p.2 p.1) (hD0 : h0.get? D = none) (hw0 : ∀ b ∈ wr, h0.get? b = none) (hr : kd.room A.in1) :
    ∀ (m i : Nat) (s : Shared), n - i = m → i ≤ n → St i s → (∀ b o, h0.get? b = some o → s.heap.get? b = some o) → (∃ L, HSome kd s.heap D (ks.take i) L) →
      (∀ s' L, Moved (D :: wr) G s s' → (∀ b o, h0.get? b = some o → s'.heap.get? b = some o) → HSome kd s'.heap D ks L → R (.ok (.ret .none)) s') → codeAny (model P w) A (.builtin "set.update.loop" ⟨[.ref D, .ref I], []⟩) R s := by
  have hDw : D ∉ wr := fun z => hD (W.sub _ z)
  have sub : ∀ b ∈ wr, b ∈ D :: wr := fun _ z => List.mem_cons_of_mem _ z
  have kept : ∀ {s s2 : Shared}, Moved wr G s s2 → (∀ b o, h0.get? b = some o → s.heap.get? b = some o) → ∀ b o, h0.get? b = some o → s2.heap.get? b = some o := fun mv kp b o e => mv.heap b o (fun z => by rw [hw0 b z] at e; cases e) (kp b o e)
  intro m
  induction m with
  | zero =>
    intro i s hm hi st kp ⟨L, hS⟩ hR
    obtain rfl : i = n := by omega
    refine codeAny_builtin F.entry_set_update_loop ?_
    rw [Around.under_plainId F.plain_set_update_loop _]
    show wpAny _ A.in1 (pyNext (.ref I) >>= _) _ _ s
    refine wpAny_bind (W.done s _ _ st fun s2 mv => ?_)
    show wpAny _ A.in1 (ret Value.none) _ _ s2
    rw [List.take_of_length_le (show ks.length ≤ i by omega)] at hS
    have kp2 := kept mv kp
    obtain ⟨es, ep, t, T⟩ := hS.set
    exact wpAny_pure (hR s2 L (mv.mono sub) kp2 ⟨⟨es, ep, t, T.keep (fun ob e => mv.heap D ob hDw e) fun p hp => kd.keep (hk p (hS.sub p hp)) kp2⟩, hS.sub, hS.all, hS.len⟩)
  | succ m ih =>
    intro i s hm hi st kp ⟨L, hS⟩ hR
    have lt : i < n := by omega
    refine codeAny_builtin F.entry_set_update_loop ?_
    rw [Around.under_plainId F.plain_set_update_loop _]
    show wpAny _ A.in1 (pyNext (.ref I) >>= _) _ _ s
    refine wpAny_bind (W.item i s _ _ lt st fun v s2 pv st2 mv => ?_)
    obtain ⟨x, hx, rfl⟩ := hval i v pv
    have kp2 := kept mv kp
    obtain ⟨es, ep, t, T⟩ := hS.set
    have T2 : HSet kd s2.heap D L es ep t := T.keep (fun ob e => mv.heap D ob hDw e) fun p hp => kd.keep (hk p (List.mem_of_mem_take (hS.sub p hp))) kp2
    have is2 : kd.is s2.heap x.2 x.1 := kd.keep (hk x (List.mem_of_getElem? hx)) kp2
    show wpAny _ A.in1 (holding [Value.ref x.1] (setAdd D (.ref x.1)) >>= _) _ _ s2
    refine wpAny_bind (wpAny_holding ?_)
    unfold setAdd
    refine wpAny_holding (wpAny_bind (kd.pyHash hr is2 ?_))
    refine HSet.add (s := { s2 with toks := s2.toks + kd.draws x.2 }) T2 is2 hr (by have := hS.len; rw [List.length_take] at this; omega) fun b h' L' es' ep' t' sb T3 q => ?_
    have hS3 : HSome kd h' D (ks.take (i + 1)) L' := by
      rw [List.take_add_one, hx]
      exact HSome.next hS ⟨es', ep', t', T3⟩ q
    have other : ∀ b ob, b ≠ D → s2.heap.get? b = some ob → h'.get? b = some ob := fun b ob nb e => (sb.2 b nb).trans e
    have kp3 : ∀ b o, h0.get? b = some o → h'.get? b = some o := fun b o e => other b o (fun z => by rw [z, hD0] at e; cases e) (kp2 b o e)
    refine wpAny_pure ⟨plainId_quiet F.plain_set_update_loop _, ih (i + 1) _ (by omega) lt (W.frame _ s2 _ _ st2 (Nat.le_add_right _ _) fun b hbf ob e => other b ob (fun z => hD (z ▸ hbf)) e) kp3 ⟨L', hS3⟩ fun s3 L3 mv3 kp4 hS4 => ?_⟩
    exact hR s3 L3 (Moved.trans W.gtrans ((mv.mono sub).then_heap (Nat.le_add_right _ _) fun b ob hbn e => other b ob (fun z => hbn (z ▸ List.mem_cons_self)) e) mv3) kp4 hS4
set_option maxHeartbeats 3200000 in
theorem call_setH {l : Addr} {items : Array Value} (ks : List (Addr × K)) {Q : Value → Shared → Prop} (hh : A.handled = none) (hl : s.heap.IsList l items) (hsz : items.size = ks.length) (hit : ∀ (i : Nat) (v : Value), items[i]? = some v → ∃ p, ks[i]? = some p ∧ v = .ref p.1) (few : ks.length < 64) (hk : ∀ p ∈ ks, kd.is s.heap p.2 p.1) (room : kd.room A.in1.in1.in1)
    (h : ∀ (h' : Heap) (tk : Nat) (L : List (Addr × K)), HSome kd h' s.heap.objs.size ks L → (∀ b o, s.heap.get? b = some o → h'.get? b = some o) → Q (.ref s.heap.objs.size) { s with heap := h', toks := tk }) :
    wpAny (model P w) A (call (.type "set") [.ref l]) Q E s := by
  obtain ⟨c0, tl, hmro⟩ := F.called_set.mro
  have is_made := F.called_set.made
  have is_sub := F.called_set.sub
  refine wpAny_call (codeAny_of_tree (?_ : wpAny _ _ (callAny (.type "set") _) _ _ _))
  refine wpAny_pure ⟨Code.quiet_builtin _ (by decide +kernel), codeAny_builtin F.entry_type_call ?_⟩
  rw [Around.under_plain (weight_type_call_type "set" [.ref l] []) rfl]
  have f1 := F.called_set.notType
  have f2 := F.called_set.canCreate
  have f3 := F.typeCall_set_1 (.ref l)
  repeat (any_goals (first | assumption | wp_step))
  refine codeAny_mono (code_new1 (.ref l) (E := E) (Q₁ := fun ob s₁ => ob = .ref s.heap.objs.size ∧ s₁ = { s with heap := s.heap.push (newSetObj w) }) ⟨rfl, rfl⟩) fun res s₁ hr => ?_
  cases res with
  | error e => exact hr
  | ok fl =>
    cases fl with
    | ret obj =>
      obtain ⟨rfl, rfl⟩ := hr
      have at0 : (s.heap.push (newSetObj w)).get? s.heap.objs.size = some (newSetObj w) := Heap.get?_push_size _ rfl
      have ty0 : Shared.TypeIs { s with heap := s.heap.push (newSetObj w) } (.ref s.heap.objs.size) "set" := ⟨_, at0, rfl⟩
      have li := F.called_set.init.lookup
      have bi := F.called_set.init.bind (.ref s.heap.objs.size)
      repeat (any_goals (first | assumption | wp_step))
      refine codeAny_mono (codeAny_call_builtin (R := wants (fun r s₂ => r = .none ∧ ∃ h' tk L, s₂ = { s with heap := h', toks := tk } ∧ HSome kd h' s.heap.objs.size ks L ∧
          ∀ b o, s.heap.get? b = some o → h'.get? b = some o) E) F.called_set.init.plain F.entry_set_init (check_set_init_1 ty0 ?_)) fun res₂ s₂ hr₂ => ?_
      · obtain ⟨ol, hol, hcl, nl, hdl⟩ := hl
        obtain ⟨ocls, odict, odata, oslots⟩ := ol
        simp only at hcl hdl
        subst hcl; subst hdl
        have at1 : (s.heap.push (newSetObj w)).get? l = some { cls := .type "list", dict := odict, data := .seq items nl, slots := oslots } := Heap.get?_push_of_some _ hol
        have seq1 : (s.heap.push (newSetObj w)).IsList l items := ⟨_, at1, rfl, nl, rfl⟩
        have n1 := F.sub_list_set
        have n2 := F.sub_list_frozenset
        have n3 : (Value.type "list" == Value.type "dict") = false := by decide
        unfold Builtin.«set.__init__» noKeywords Builtin.Frozenset.updateFrom
        generalize hPI : pyIter = PI
        wp_walk
        subst hPI
        refine wpAny_pyIter_list seq1 ?_
        refine wpAny_bind (wpAny_runValue ?_)
        have hh3 : A.in1.in1.in1.handled = none := by simp [hh]
        have sz1 : (s.heap.push (newSetObj w)).objs.size = s.heap.objs.size + 1 := Heap.size_push ..
        have lS : l < s.heap.objs.size := Heap.lt_size hol
        have apart : l ≠ (s.heap.push (newSetObj w)).objs.size := Nat.ne_of_lt (by rw [sz1]; exact Nat.lt_succ_of_lt lS)
        have none_of : ∀ b, s.heap.objs.size ≤ b → s.heap.get? b = none := fun b hb => by
          cases q : s.heap.get? b with
          | none => rfl
          | some o => exact absurd (Nat.lt_of_lt_of_le (Heap.lt_size q) hb) (Nat.lt_irrefl _)
        refine setH_loop (kd := kd) ((Walks.list hh3 _ l apart items).toS) s.heap.objs.size (by rw [sz1]; simp only [List.mem_cons, List.not_mem_nil, or_false, not_or]; exact ⟨Nat.ne_of_lt (Nat.lt_succ_self _), Nat.ne_of_gt lS⟩) ks hsz few hit s.heap hk (none_of _ (Nat.le_refl _))
          (fun b hb => none_of b (by rw [List.mem_singleton.mp hb, sz1]; exact Nat.le_succ _)) room (items.size - 0) 0 _ (by omega) (Nat.zero_le _) ⟨⟨_, Heap.get?_push_size _ rfl, rfl, rfl⟩, (seq1.push _)⟩ (fun b o e => Heap.get?_push_of_some _ (Heap.get?_push_of_some _ e)) ?hS0 ?hR
        case hS0 => exact ⟨[], ⟨⟨_, _, _, HSet.none_yet (Heap.get?_push_of_some _ at0)⟩, fun p hp => absurd hp List.not_mem_nil, fun p hp => absurd hp List.not_mem_nil, Nat.zero_le _⟩⟩
        case hR =>
          intro s3 L3 mv kp3 hS3
          obtain ⟨h3, g3, d3, tk3, os3⟩ := s3
          obtain rfl : g3 = s.gens := mv.gens
          obtain rfl : d3 = s.drawn := mv.drawn
          obtain rfl : os3 = s.os := mv.os
          refine wpAny_pure (?_ : wpAny _ _ (ret Value.none) _ _ _)
          exact wpAny_pure ⟨rfl, h3, tk3, L3, rfl, hS3, kp3⟩
      · cases res₂ with
        | error e => exact hr₂
        | ok fl₂ =>
          cases fl₂ with
          | ret r =>
            obtain ⟨rfl, h3, tk3, L3, rfl, hS3, hk3⟩ := hr₂
            repeat (any_goals (first | assumption | wp_step))
            exact h _ _ _ hS3 hk3
          | _ => exact hr₂.elim
    | _ => exact hr.elim
end
end MR

/-! sorted of a set of tuples of one shape. -/
namespace MR
open PySem PySem.Spec PyProof.Rows L2
theorem perm_of_map {α β : Type} {f : α → β} : ∀ {vs : List β} {l : List α}, vs.Perm (l.map f) → ∃ m : List α, vs = m.map f ∧ m.Perm l
  | [], l, h => by
    have e : l = [] := List.map_eq_nil_iff.mp h.symm.eq_nil
    exact ⟨[], rfl, by rw [e]⟩
  | v :: vs, l, h => by
    obtain ⟨x, hx, rfl⟩ := List.mem_map.mp (h.mem_iff.mp List.mem_cons_self)
    obtain ⟨l1, l2, rfl⟩ := List.append_of_mem hx
    have q : (vs).Perm ((l1 ++ l2).map f) := by
      rw [List.map_append, List.map_cons] at h
      have := h.trans List.perm_middle
      rw [← List.map_append] at this
      exact this.cons_inv
    obtain ⟨m, rfl, pm⟩ := perm_of_map q
    exact ⟨x :: m, rfl, (pm.cons x).trans List.perm_middle.symm⟩
def encT (p : Addr × List Key) : PyData := .tuple (p.2.map keyD)
section
variable {P : Program} {w : World} {A : Around} {E : Value → Shared → Prop} {s : Shared} {a : Addr} {L : List (Addr × List Key)} {es : Array (Int × Value)} {ep : Nat} {t : SetTable}
theorem reads_keys {h : Heap} {k : List Key} {vs : List Value} (x : ItemsAre (mixKind P w) k vs) : ReadsAll h vs (k.map keyD) [] := by
  induction x with
  | nil => exact .nil
  | cons e _ ih =>
    rcases keyIs_shape e with ⟨i, t, rfl, rfl⟩ | ⟨x, t, rfl, rfl⟩
    · exact .cons (as := []) (.int i t) ih
    · exact .cons (as := []) (.str _ t) ih
theorem reads_tup {h : Heap} {p : Addr × List Key} (x : IsTupleKey (mixKind P w) h p.2 p.1) : Reads h (.ref p.1) (encT p) [] := by
  obtain ⟨o, items, n, ho, hc, hd, hi⟩ := x
  exact .tuple ho hc hd (reads_keys hi)
end
/-! ### pairs of texts -/
def prK (a b : Str) : List Key := [.inr a, .inr b]
def ltP (p q : Str × Str) : Prop := p.1.cps.toList < q.1.cps.toList ∨ (p.1 = q.1 ∧ p.2.cps.toList < q.2.cps.toList)
instance (p q : Str × Str) : Decidable (ltP p q) := by unfold ltP; infer_instance
def encP (p : Str × Str) : PyData := .tuple [.str p.1, .str p.2]
theorem str_eq {a b : Str} (h : a.cps.toList = b.cps.toList) : a = b := by
  cases a with | mk a => cases b with | mk b =>
  rw [show a = b from Array.toList_inj.mp h]
theorem dataLt_txt (a b : Str) : PySem.W.dataLt (.str a) (.str b) = decide (a.cps.toList < b.cps.toList) := by
  have e := congrFun (congrFun (PySem.W.dataLe_str (β := Str) (fun b => b)) b) a
  rw [PySem.W.dataLe_eq] at e
  have e2 : (!PySem.W.dataLt (.str a) (.str b)) = decide (b.cps.toList ≤ a.cps.toList) := e
  by_cases h : a.cps.toList < b.cps.toList
  · rw [decide_eq_true h]
    rw [decide_eq_false (by exact fun z => absurd h (Std.not_lt.mpr z))] at e2
    cases q : PySem.W.dataLt (.str a) (.str b) with
    | true => rfl
    | false => rw [q] at e2; cases e2
  · rw [decide_eq_false h]
    rw [decide_eq_true (Std.not_lt.mp h)] at e2
    cases q : PySem.W.dataLt (.str a) (.str b) with
    | false => rfl
    | true => rw [q] at e2; cases e2
theorem dataLt_P (p q : Str × Str) : PySem.W.dataLt (encP p) (encP q) = decide (ltP p q) := by
  unfold encP
  rw [PySem.W.dataLt_pair rfl rfl, dataLt_txt, dataLt_txt]
  have eqv : ∀ a b : Str, PyData.eqv (.str a) (.str b) = decide (a = b) := fun a b => by
    simp only [PyData.eqv]
    by_cases h : a = b
    · subst h; rw [decide_eq_true rfl]; exact beq_self_eq_true a
    · rw [decide_eq_false h]; exact beq_eq_false_iff_ne.mpr h
  rw [eqv, eqv]
  have irr : ∀ a : Str, ¬ a.cps.toList < a.cps.toList := fun a => Std.lt_irrefl
  by_cases h1 : p.1 = q.1
  · rw [decide_eq_true h1, if_pos rfl]
    by_cases h2 : p.2 = q.2
    · rw [decide_eq_true h2, if_pos rfl]
      symm
      refine decide_eq_false fun z => ?_
      rcases z with z | z
      · rw [h1] at z; exact irr _ z
      · rw [h2] at z; exact irr _ z.2
    · rw [decide_eq_false h2, if_neg Bool.false_ne_true, decide_eq_decide]
      constructor
      · exact fun z => .inr ⟨h1, z⟩
      · rintro (z | z)
        · rw [h1] at z; exact absurd z (irr _)
        · exact z.2
  · rw [decide_eq_false h1, if_neg Bool.false_ne_true, decide_eq_decide]
    exact ⟨.inl, fun z => z.elim id fun z => absurd z.1 h1⟩
theorem ltP_trans {p q r : Str × Str} (h1 : ltP p q) (h2 : ltP q r) : ltP p r := by
  rcases h1 with a | a <;> rcases h2 with b | b
  · exact .inl (Std.lt_trans a b)
  · exact .inl (by rw [← b.1]; exact a)
  · exact .inl (by rw [a.1]; exact b)
  · exact .inr ⟨a.1.trans b.1, Std.lt_trans a.2 b.2⟩
theorem ltP_tri (p q : Str × Str) : ltP p q ∨ p = q ∨ ltP q p := by
  rcases Std.lt_trichotomy p.1.cps.toList q.1.cps.toList with h | h | h
  · exact .inl (.inl h)
  · rcases Std.lt_trichotomy p.2.cps.toList q.2.cps.toList with k | k | k
    · exact .inl (.inr ⟨str_eq h, k⟩)
    · exact .inr (.inl (Prod.ext (str_eq h) (str_eq k)))
    · exact .inr (.inr (.inr ⟨(str_eq h).symm, k⟩))
  · exact .inr (.inr (.inl h))
theorem ltP_irr (p : Str × Str) : ¬ ltP p p := fun z => z.elim (fun z => Std.lt_irrefl z) fun z => Std.lt_irrefl z.2
section
variable {P : Program} {w : World} {A : Around} {E : Value → Shared → Prop} {s : Shared} {a : Addr} {es : Array (Int × Value)} {ep : Nat} {t : SetTable}
def prA (n : Addr × (Str × Str)) : Addr × List Key := (n.1, prK n.2.1 n.2.2)
theorem le_pairs : (PySem.W.dataLe false fun n : Addr × (Str × Str) => encP n.2) = fun p q => !decide (ltP q.2 p.2) := by
  rw [PySem.W.dataLe_eq]
  funext p q
  show (!PySem.W.dataLt (encP q.2) (encP p.2)) = _
  rw [dataLt_P]
theorem pairs_sorted (N : List (Addr × (Str × Str))) (nd : (N.map fun n => n.2).Nodup) : ((N.mergeSort (PySem.W.dataLe false fun n : Addr × (Str × Str) => encP n.2)).map fun n => n.2).Pairwise ltP := by
  rw [le_pairs]
  have pm := List.mergeSort_perm N fun p q => !decide (ltP q.2 p.2)
  have nd2 := (pm.map fun n => n.2).nodup_iff.mpr nd
  have so := List.pairwise_mergeSort (le := fun p q : Addr × (Str × Str) => !decide (ltP q.2 p.2)) (fun x y z h1 h2 => by
    have h1 : ¬ ltP y.2 x.2 := by simpa using h1
    have h2 : ¬ ltP z.2 y.2 := by simpa using h2
    have : ¬ ltP z.2 x.2 := fun q => by
      rcases ltP_tri y.2 z.2 with k | k | k
      · exact h1 (ltP_trans k q)
      · rw [k] at h1; exact h1 q
      · exact h2 k
    simpa using this) (fun x y => by
    rcases ltP_tri x.2 y.2 with k | k | k
    · have : ¬ ltP y.2 x.2 := fun q => ltP_irr _ (ltP_trans k q)
      simp [this]
    · have : ¬ ltP y.2 x.2 := by rw [k]; exact ltP_irr _
      simp [this]
    · have : ¬ ltP x.2 y.2 := fun q => ltP_irr _ (ltP_trans k q)
      simp [this]) N
  refine List.pairwise_map.mpr ((so.and (List.pairwise_map.mp nd2)).imp fun {x y} h => ?_)
  have h1 : ¬ ltP y.2 x.2 := by simpa using h.1
  rcases ltP_tri x.2 y.2 with k | k | k
  · exact k
  · exact absurd k h.2
  · exact absurd k h1
/-- sorted(the set) -/
theorem sorted_setH {N : List (Addr × (Str × Str))} {Q : Value → Shared → Prop} (S : HSet (tupKd P w) s.heap a (N.map prA) es ep t) (hh : A.handled = none) (hu : A.units + 64 < cLine)
    (hQ : ∀ (s' : Shared) (out : Array Value) (c : Nat) (M : List (Addr × (Str × Str))), (∀ b o, s.heap.get? b = some o → s'.heap.get? b = some o) → s'.gens = s.gens → s'.os = s.os → ∀ p, s.heap.objs.size ≤ p →
      s'.heap.get? p = some (seqObj "list" out c) → out.toList = M.map (fun p => Value.ref p.1) → M.Perm N → (M.map fun n => n.2).Pairwise ltP → Q (.ref p) s') :
    wpAny (model P w) A (call (.builtin "sorted") [.ref a]) Q E s := by
  obtain ⟨ob, h1, h2, h3⟩ := S.at_
  have few := S.few
  rw [List.length_map] at few
  refine Calls.call_function_entry kind_sorted plain_sorted entry_sorted (args_sorted1 _) ?_
  unfold Builtin.«sorted»
  refine wpAny_bind (m := checkCount "sorted" 1 1 _) (wpAny_pure (wpAny_bind (collect_set (A := A.in1) hh ⟨ob, h1, h2.1, h3⟩ S.fit (by rw [S.many, List.length_map]; exact Nat.lt_trans few (by decide)) S.tb.ris S.ld fun s1 vs k1 hz g1 o1 pm => ?_)))
  rw [S.row] at pm
  have pm2 : vs.Perm (N.map fun p => Value.ref p.1) := by
    unfold cells at pm
    rw [List.map_map, List.map_map] at pm
    exact pm
  obtain ⟨M, rfl, pM⟩ := perm_of_map pm2
  have len : (M.map fun p => Value.ref p.1).length ≤ sizeLine := by rw [List.length_map, pM.length_eq]; exact Nat.le_of_lt (Nat.lt_trans few (by decide))
  have each : PySem.W.EachIs (fun v (p : Addr × (Str × Str)) => v = Value.ref p.1) (M.map fun p => Value.ref p.1) M := by
    clear pm2 pm k1 hz g1 o1 len pM
    induction M with
    | nil => exact .nil
    | cons p M ih => exact .cons rfl ih
  have inM : ∀ p ∈ M, IsTupleKey (mixKind P w) s1.heap (prK p.2.1 p.2.2) p.1 := fun p hp => (tupKd P w).keep (S.ink (prA p) (List.mem_map.mpr ⟨p, pM.mem_iff.mp hp, rfl⟩)) k1
  refine wpAny_bind (wpAny_newList ?_ len)
  have at1 : (s1.heap.push (seqObj "list" (M.map fun p => Value.ref p.1).toArray 0)).get? s1.heap.objs.size = some (seqObj "list" (M.map fun p => Value.ref p.1).toArray 0) := Heap.get?_push_size _ rfl
  have er : PySem.W.EachIs (fun v (p : Addr × (Str × Str)) => ∃ as, Reads (s1.heap.push (seqObj "list" (M.map fun p => Value.ref p.1).toArray 0)) v (encP p.2) as ∧ s1.heap.objs.size ∉ as) (M.map fun p => Value.ref p.1) M := by
    have := PySem.W.each_mem each
    exact this.mono fun v p ⟨e, hp⟩ => by
      rw [e]
      exact ⟨[], reads_tup (p := prA p) ((tupKd P w).keep (inM p hp) fun c o z => Heap.get?_push_of_some _ z), List.not_mem_nil⟩
  refine wpAny_bind (wpAny_holding (PySem.W.list_sort_data (A := A.in1) (s := { s1 with heap := s1.heap.push (seqObj "list" (M.map fun p => Value.ref p.1).toArray 0) }) at1 each er (PySem.W.AllAlike.of (enc := fun n : Addr × (Str × Str) => encP n.2) fun _ _ => rfl) (PySem.W.Sortable.tuples (enc := fun n : Addr × (Str × Str) => encP n.2) fun _ => ⟨_, _, rfl⟩) (by rw [List.length_map] at len; exact len)
    (fun p _ => by
      show A.units + 1 + 1 + (encP p.2).depth < cLine
      unfold encP
      simp only [PyData.depth, PyData.depthAll, Nat.max_self]
      omega) fun out hlen eo => ?_))
  obtain ⟨c, hc⟩ := sortedHeap_at (vs := M.map fun p => Value.ref p.1) (out := out.toArray) at1
  refine wpAny_pure ⟨_, rfl, hQ { s1 with heap := sortedHeap (s1.heap.push (seqObj "list" (M.map fun p => Value.ref p.1).toArray 0)) s1.heap.objs.size (M.map fun p => Value.ref p.1) out.toArray } out.toArray c (M.mergeSort (PySem.W.dataLe false fun n : Addr × (Str × Str) => encP n.2)) (fun b u e => ?_) g1 o1 s1.heap.objs.size hz hc ?_ ((List.mergeSort_perm _ _).trans pM) (pairs_sorted M ((pM.map fun n => n.2).nodup_iff.mpr ?_))⟩
  · have q := k1 b u e
    have lt := Heap.lt_size q
    show (sortedHeap (s1.heap.push _) s1.heap.objs.size _ out.toArray).get? b = some u
    rw [sortedHeap_old (Nat.ne_of_lt lt) (by rw [size_push']; exact Nat.lt_succ_of_lt lt)]
    exact Heap.get?_push_of_some _ q
  · rw [List.toList_toArray]
    clear hlen hc
    generalize M.mergeSort (PySem.W.dataLe false fun n : Addr × (Str × Str) => encP n.2) = Z at eo
    induction eo with
    | nil => rfl
    | cons e _ ih => rw [List.map_cons, e, ih]
  · have one := S.one
    rw [List.map_map] at one
    unfold List.Nodup at *
    rw [List.pairwise_map] at one ⊢
    exact one.imp fun {x y} h z => h (by show prK x.2.1 x.2.2 = prK y.2.1 y.2.2; rw [z])
end
end MR

/-! sorted(set(xs)), xs a list of pairs of texts, as data. -/
namespace MR
open PySem PySem.Spec PyProof.Rows L2
/-- the set at a, what is known of it without its members -/
def HSet0 (P : Program) (w : World) (h : Heap) (a : Addr) (L : List (Addr × List Key)) : Prop :=
  ∃ es ep t, (∃ o, h.get? a = some o ∧ o.ExactSet ∧ o.data = .set es ep t) ∧ es.toList = cells (tupKd P w) L ∧ TabOk t (L.map fun p => (tupKd P w).hash p.2) ∧ (L.map Prod.snd).Nodup ∧ (w.params.followText "set-order" = true ∨ t.led = true) ∧ L.length * 5 < t.mask * 3 ∧ L.length < 64
def SetPO (P : Program) (w : World) (a : Addr) (L : List (Addr × List Key)) : HO := .ext fun h => HSet0 P w h a L
section
variable {P : Program} {w : World} {a : Addr} {L : List (Addr × List Key)} {es : Array (Int × Value)} {ep : Nat} {t : SetTable}
theorem HSet.bare {h : Heap} (S : HSet (tupKd P w) h a L es ep t) : HSet0 P w h a L := ⟨es, ep, t, S.at_, S.row, S.tb, S.one, S.ld, S.roomy, S.few⟩
theorem HSet0.full {h : Heap} (S : HSet0 P w h a L) (ink : ∀ p ∈ L, (tupKd P w).is h p.2 p.1) : ∃ es ep t, HSet (tupKd P w) h a L es ep t := by
  obtain ⟨es, ep, t, a1, a2, a3, a4, a5, a6, a7⟩ := S
  exact ⟨es, ep, t, a1, a2, a3, a4, ink, a5, a6, a7⟩
theorem setP_held {H : Hp} {h : Heap} (S : HSet0 P w h a L) : ObjOk P w H h a (SetPO P w a L) := by
  obtain ⟨es, ep, t, ⟨o, ho, r⟩, q⟩ := id S
  refine ⟨S, ⟨o, ho⟩, fun h1 h2 p k => ?_⟩
  obtain ⟨es2, ep2, t2, ⟨o2, ho2, r2⟩, q2⟩ := (show HSet0 P w h1 a L from p)
  exact ⟨es2, ep2, t2, ⟨o2, k o2 ho2, r2⟩, q2⟩
theorem items_pair {x y : Str} {us : List Value} (r : Vals [V.str x, V.str y] us) : ItemsAre (mixKind P w) (prK x y) us := by
  cases r with
  | cons r1 r2 =>
    cases r2 with
    | cons r3 r4 =>
      cases r4
      obtain ⟨t1, rfl⟩ := r1
      obtain ⟨t2, rfl⟩ := r3
      exact .cons (mixKind_str P w x t1) (.cons (mixKind_str P w y t2) .nil)
end
section
variable {X : Cx}
theorem inv_pair {pins : List (Addr × Obj)} {σ : Sg} {H : Hp} {s : Shared} {b : Addr} {x y : Str} (I : Inv X pins σ H s) (h : SqT X.K H b [V.str x, V.str y]) : (tupKd X.prog X.w).is s.heap (prK x y) b := by
  obtain ⟨its, r, ⟨o, ho, hc, n, hd⟩, _⟩ := I.tuple h
  exact ⟨o, its.toArray, n, ho, hc, hd, by rw [List.toList_toArray]; exact items_pair r⟩
theorem refs_vals : ∀ {as : List Addr} {us : List Value}, Vals (as.map V.ref) us → us = as.map Value.ref
  | [], _, .nil => rfl
  | a :: as, _, .cons r t => by
    cases r
    rw [refs_vals t]
    rfl
theorem vals_refs : ∀ as : List Addr, Vals (as.map V.ref) (as.map Value.ref)
  | [] => .nil
  | a :: as => .cons rfl (vals_refs as)
/-- set(xs), xs a list of pairs of texts -/
def rSetP (K : PySem.W.Frag) (P : Program) (w : World) : List V → Hp → VK → Prop := fun xs H Q => ∃ (l : Addr) (N : List (Addr × (Str × Str))), xs = [V.ref l] ∧ SqL K H l (N.map fun p => V.ref p.1) ∧ (∀ p ∈ N, SqT K H p.1 [V.str p.2.1, V.str p.2.2]) ∧ N.length < 64 ∧
  ∀ (D : Addr) (M : List (Addr × (Str × Str))), H D = none → (∀ p ∈ M, p ∈ N) → (∀ p ∈ N, p.2 ∈ M.map fun z => z.2) → Q (.ref D) (upd H D (SetPO P w D (M.map prA)))
theorem cr_setP (hc : X.calm = true) (hu : X.A.units + 64 < cLine) : CallR X (.type "set") (rSetP X.K X.prog X.w) := by
  intro pins s σ H xs us Q I r h
  obtain ⟨l, N, rfl, hl, hk, hf, q⟩ := h
  rw [Vals.ref1 r]
  obtain ⟨its, rv, pl, _⟩ := I.list hl
  have hn : H s.heap.objs.size = none := I.hok.fresh (Nat.le_refl _)
  have ei : its = N.map fun p => Value.ref p.1 := by
    rw [show (N.map fun p => V.ref p.1) = (N.map fun p => p.1).map V.ref by rw [List.map_map]; rfl] at rv
    rw [refs_vals rv, List.map_map]
    rfl
  refine call_setH (kd := tupKd X.prog X.w) (N.map prA) (I.ok.hd hc) pl.isList (by rw [List.size_toArray, ei, List.length_map, List.length_map]) (fun i v e => ?_) (by rw [List.length_map]; exact hf) (fun p hp => ?_) (by show X.A.in1.in1.in1.units < cLine; show X.A.units + 1 + 1 + 1 < cLine; omega) fun h' tk L S kp => ?_
  · have e : its[i]? = some v := by simpa using e
    rw [ei, List.getElem?_map] at e
    rw [List.getElem?_map]
    cases z : N[i]? with
    | none => rw [z] at e; cases e
    | some n =>
      rw [z] at e
      cases e
      exact ⟨_, rfl, rfl⟩
  · obtain ⟨n, m, rfl⟩ := List.mem_map.mp hp
    exact inv_pair I (hk n m)
  · have back : ∃ M : List (Addr × (Str × Str)), L = M.map prA ∧ ∀ p ∈ M, p ∈ N := by
      have sub := S.sub
      clear S
      induction L with
      | nil => exact ⟨[], rfl, fun p hp => absurd hp List.not_mem_nil⟩
      | cons x L ih =>
        obtain ⟨M, rfl, m⟩ := ih fun p hp => sub p (List.mem_cons_of_mem _ hp)
        obtain ⟨n, hn, rfl⟩ := List.mem_map.mp (sub x List.mem_cons_self)
        exact ⟨n :: M, rfl, fun p hp => by
          rcases List.mem_cons.mp hp with e | z
          · rw [e]; exact hn
          · exact m p z⟩
    obtain ⟨M, rfl, m⟩ := back
    obtain ⟨es, ep, t, T⟩ := S.set
    refine ⟨.ref s.heap.objs.size, upd H s.heap.objs.size (SetPO X.prog X.w s.heap.objs.size (M.map prA)), I.laid (t' := tk) kp (Nat.le_refl _) (setP_held T.bare), rfl, q _ M hn m fun p hp => ?_⟩
    have z := S.all (prA p) (List.mem_map.mpr ⟨p, hp, rfl⟩)
    rw [List.map_map] at z
    obtain ⟨n, n1, n2⟩ := List.mem_map.mp z
    refine List.mem_map.mpr ⟨n, n1, ?_⟩
    have n2 : prK n.2.1 n.2.2 = prK p.2.1 p.2.2 := n2
    unfold prK at n2
    injection n2 with b1 b2
    injection b2 with b2 _
    injection b1 with b1
    injection b2 with b2
    exact Prod.ext b1 b2
/-- sorted(the set) -/
def rSortP (K : PySem.W.Frag) (P : Program) (w : World) : List V → Hp → VK → Prop := fun xs H Q => ∃ (D : Addr) (M : List (Addr × (Str × Str))), xs = [V.ref D] ∧ H D = some (SetPO P w D (M.map prA)) ∧ (∀ p ∈ M, SqT K H p.1 [V.str p.2.1, V.str p.2.2]) ∧
  ∀ (p : Addr) (Z : List (Addr × (Str × Str))), H p = none → Z.Perm M → (Z.map fun n => n.2).Pairwise ltP → Z.length < 64 → Q (.ref p) (upd H p (.lst (Z.map fun n => V.ref n.1)))
theorem cr_sortP (hc : X.calm = true) (hu : X.A.units + 64 < cLine) : CallR X (.builtin "sorted") (rSortP X.K X.prog X.w) := by
  intro pins s σ H xs us Q I r h
  obtain ⟨D, M, rfl, ha, hk, q⟩ := h
  rw [Vals.ref1 r]
  obtain ⟨es, ep, t, T⟩ := HSet0.full (I.hok D _ ha).1 fun p hp => by
    obtain ⟨n, m, rfl⟩ := List.mem_map.mp hp
    exact inv_pair I (hk n m)
  refine sorted_setH T (I.ok.hd hc) hu fun s' out c Z kp hg ho p hp hl eo pm so => ?_
  have few : Z.length < 64 := by
    have := T.few
    rw [List.length_map] at this
    rw [pm.length_eq]
    exact this
  have hN : H p = none := I.hok.fresh hp
  have I2 : Inv X pins σ (upd H p (.lst (Z.map fun n => V.ref n.1))) s' := by
    obtain ⟨h2, g2, d2, t2, o2⟩ := s'
    have eg : g2 = s.gens := hg
    have eo2 : o2 = s.os := ho
    subst eg eo2
    have J := (I.laid (t' := t2) (o := .lst (Z.map fun n => V.ref n.1)) kp hp ⟨by rw [List.length_map]; exact Nat.le_of_lt (Nat.lt_trans few (by decide)), out.toList, c, by
      rw [eo, show (Z.map fun n => V.ref n.1) = (Z.map fun n => n.1).map V.ref by rw [List.map_map]; rfl, show (Z.map fun n => Value.ref n.1) = (Z.map fun n => n.1).map Value.ref by rw [List.map_map]; rfl]
      exact vals_refs _, by rw [Array.toArray_toList]; exact hl⟩)
    exact ⟨J.ok, J.os, J.bare, J.base, J.loc, J.cell, J.free, J.freeC, J.pin, J.hok, J.len⟩
  exact ⟨.ref p, _, I2, rfl, q p Z hN pm so few⟩
end
end MR

/-! sorted(set(xs)) by data, xs a list of pairs of texts. -/
namespace MR
open PySem PySem.Spec PyProof.Rows L2
def dSortSet (te : TD) : TD := fun δ R => te δ fun d => asL d fun zs => ∃ ps : List (Str × Str), zs = ps.map encP ∧ ps.length < 64 ∧ ∀ qs : List (Str × Str), qs.Pairwise ltP → (∀ x, x ∈ qs ↔ x ∈ ps) → R (.p (.list (qs.map encP)))
theorem rp_pair {K : PySem.W.Frag} {H : Hp} {p : Str × Str} {v : V} (h : Rp K H (encP p) v) : ∃ a, v = .ref a ∧ SqT K H a [V.str p.1, V.str p.2] := by
  obtain ⟨a, ys, e, q, r⟩ := h
  obtain ⟨y1, r1, e1, h1, y2, r2, e2, h2, t2⟩ := r
  rw [show r2 = [] from t2] at e2
  rw [e1, e2, show y1 = V.str p.1 from h1, show y2 = V.str p.2 from h2] at q
  exact ⟨a, e, q⟩
theorem pair_rp {K : PySem.W.Frag} {H : Hp} {p : Str × Str} {a : Addr} (h : SqT K H a [V.str p.1, V.str p.2]) : Rp K H (encP p) (.ref a) := ⟨a, _, rfl, h, V.str p.1, _, rfl, rfl, V.str p.2, [], rfl, rfl, rfl⟩
theorem pairs_read {K : PySem.W.Frag} {H : Hp} : ∀ {ps : List (Str × Str)} {xs : List V}, RpA K H (ps.map encP) xs → ∃ N : List (Addr × (Str × Str)), xs = N.map (fun p => V.ref p.1) ∧ N.map (fun p => p.2) = ps ∧ ∀ p ∈ N, SqT K H p.1 [V.str p.2.1, V.str p.2.2]
  | [], xs, h => ⟨[], h, rfl, fun p m => absurd m List.not_mem_nil⟩
  | p :: ps, xs, ⟨v, r, e, h, t⟩ => by
    obtain ⟨N, rfl, en, m⟩ := pairs_read t
    obtain ⟨a, rfl, q⟩ := rp_pair h
    refine ⟨(a, p) :: N, e, by rw [List.map_cons, en], fun z hz => ?_⟩
    rcases List.mem_cons.mp hz with e | hz
    · rw [e]; exact q
    · exact m z hz
theorem read_pairs {K : PySem.W.Frag} {H : Hp} : ∀ {N : List (Addr × (Str × Str))}, (∀ p ∈ N, SqT K H p.1 [V.str p.2.1, V.str p.2.2]) → RpA K H ((N.map fun p => p.2).map encP) (N.map fun p => V.ref p.1)
  | [], _ => rfl
  | p :: N, h => ⟨_, _, rfl, pair_rp (h p List.mem_cons_self), read_pairs fun z hz => h z (List.mem_cons_of_mem _ hz)⟩
section
variable {X : Cx} {e : Expr} {te : TD} {p p2 pos pos2 : Pos}
theorem de_sortSet (hc : X.calm = true) (hu : X.A.units + 64 < cLine) (he : PE X e (up (Cx.ky X) te)) (hg : Gl X "sorted") (hm : X.mg "sorted" = none) (hg2 : Gl X "set") (hm2 : X.mg "set" = none)
    (hs : starEach [e] X.env = (false, eval e X.env) :: starEach [] X.env := by rfl) (hs2 : starEach [.Call (.Name "set" p2) [e] [] pos2] X.env = (false, eval (.Call (.Name "set" p2) [e] [] pos2) X.env) :: starEach [] X.env := by rfl)
    (hpl : (backTo pos2 (starEach [] X.env)).any (·.1) = false := by rfl) (hpl2 : (backTo pos (starEach [] X.env)).any (·.1) = false := by rfl) :
    PE X (.Call (.Name "sorted" p) [.Call (.Name "set" p2) [e] [] pos2] [] pos) (up (Cx.ky X) (dSortSet te)) := by
  refine PE.imp (pe_callB (cr_sortP hc hu) hg hm (by decide +kernel) (pa_cons (pe_callTy (cr_setP hc hu) hg2 hm2 (by decide +kernel) (pa_cons he pa_nil hs) (by decide) (by decide) hs hpl) pa_nil hs2) (by decide) (by decide) hs2 hpl2) fun σ H Q ⟨δ, R, c, L, es, h, k⟩ => ⟨δ, _, c, L, es, h, fun v H1 d x1 r1 h1 => ?_⟩
  obtain ⟨zs, rfl, ps, rfl, few, h2⟩ := asL_of h1
  obtain ⟨l, xs, ev, q, ra⟩ := r1
  subst ev
  obtain ⟨N, rfl, en, tup⟩ := pairs_read ra
  have tup1 : ∀ z ∈ N, SqT X.K H1 z.1 [V.str z.2.1, V.str z.2.2] := fun z hz => (hide_ext _ _).seqT (tup z hz)
  refine ⟨l, N, rfl, SqL.of ((hide_ext _ _).lst q), tup1, by rw [← en, List.length_map] at few; exact few, fun D M hD sub all => ?_⟩
  refine ⟨D, M, rfl, upd_same, fun z hz => (Ext.new hD).seqT (tup1 z (sub z hz)), fun o Z ho pm so few2 => ?_⟩
  have dom1 := (es.on x1).dom
  have mem : ∀ x, x ∈ (Z.map fun n => n.2) ↔ x ∈ ps := fun x => by
    rw [← en, List.mem_map, List.mem_map]
    constructor
    · rintro ⟨n, hn, rfl⟩
      exact ⟨n, sub n (pm.mem_iff.mp hn), rfl⟩
    · rintro ⟨n, hn, rfl⟩
      obtain ⟨m, hm, em⟩ := List.mem_map.mp (all n hn)
      exact ⟨m, pm.mem_iff.mpr hm, em⟩
  have xD : Ext H1 (upd H1 D (SetPO X.prog X.w D (M.map prA))) := Ext.new hD
  have read : RpA X.K (hide (oor c.P L) (upd H1 D (SetPO X.prog X.w D (M.map prA)))) ((Z.map fun n => n.2).map encP) (Z.map fun n => V.ref n.1) := read_pairs fun z hz => (xD.hide _).seqT (tup z (sub z (pm.mem_iff.mp hz)))
  exact k _ _ (.p (.list ((Z.map fun n : Addr × (Str × Str) => n.2).map encP))) (x1.trans (xD.trans (Ext.new ho))) (new_lst (es.on (x1.trans xD)).dom ho read) (h2 _ so mem)
end
end MR

/-! Set comprehensions into any sort of set (one for). -/
namespace MR
open PySem PySem.Spec PyProof.Rows L2 PpSet
/-- what set.add does to a sort of set: obj its object, ok what may be added, nx what comes of it -/
def Adds (X : Cx) {T I : Type} (obj : Addr → T → HO) (ok : T → I → V → Hp → Prop) (nx : T → I → V → T → Prop) : Prop :=
  ∀ (pins : List (Addr × Obj)) (σ : Sg) (H : Hp) (s : Shared) (E : Value → Shared → Prop) (D : Addr) (z : T) (j : I) (v : V) (u : Value) (Q : Value → Shared → Prop), Inv X pins σ H s → H D = some (obj D z) → RelV v u → ok z j v H →
    (∀ s' z', nx z j v z' → Inv X pins σ (upd H D (obj D z')) s' → Q .none s') → wpAny (model X.prog X.w) X.A (call (.builtin "set.add") [.ref D, u]) Q E s
def Born (X : Cx) (o : HO) (D : Addr) : Prop := ∀ (H : Hp) (h : Heap), h.get? D = some (newSetObj X.w) → ObjOk X.prog X.w H h D o
section
variable {X : Cx} {T I : Type} {obj : Addr → T → HO} {ok : T → I → V → Hp → Prop} {nx : T → I → V → T → Prop} {z0 : T}
def tScG (obj : Addr → T → HO) (ok : T → I → V → Hp → Prop) (nx : T → I → V → T → Prop) (z0 : T) (wi : TI) (g : TG) (tt : TT) (te : TE) (vs : List Nat) : TE := fun σ H Q => wi σ H fun J H1 => ∀ D, H1 D = none → ∃ W : Nat → Nat → Hp → Prop, (∃ m, W 0 m (upd H1 D (obj D z0))) ∧ ∀ i m H, W i m H →
  (J.stop i H ∧ Q (.ref D) H) ∨ (J.go i H ∧ ∃ N : Hp → Prop, (∀ H', N H' → ∃ m', m' < m ∧ W (i + 1) m' H') ∧ ∀ x H', J.yld i H x H' → g x (wipe σ vs) H' fun σ2 H2 => wipe σ2 vs = wipe σ vs ∧ tt σ2 H2 fun b H3 =>
    if b = true then te σ2 H3 fun y H4 => ∃ z j, H4 D = some (obj D z) ∧ ok z j y H4 ∧ ∀ z', nx z j y z' → N (upd H4 D (obj D z')) else N H3)
theorem pe_scG {elt tg iter : Expr} {ifs : List Expr} {scope : Scope} {own : List (PySem.Str × Nat)} {pos : Pos} {wi : TI} {g : TG} {tt : TT} {te : TE} (hc : X.calm = true) (hN : X.N.Nodup) (hi : PI X tg iter wi) (blk : BlkOk X.N X.env.scope scope own)
    (hg : ∀ (s : Shared) (H : Hp) (C : Addr) (cl : List (PySem.Str × Addr)) (fp : List Addr), PG (X.blk s H scope (compEnvC scope cl C X.env) fp) tg g) (ht : ∀ (s : Shared) (H : Hp) (C : Addr) (cl : List (PySem.Str × Addr)) (fp : List Addr), PTs (X.blk s H scope (compEnvC scope cl C X.env) fp) ifs tt)
    (he : ∀ (s : Shared) (H : Hp) (C : Addr) (cl : List (PySem.Str × Addr)) (fp : List Addr), PE (X.blk s H scope (compEnvC scope cl C X.env) fp) elt te) (born : ∀ D, Born X (obj D z0) D)
    (adds : ∀ (s : Shared) (H : Hp) (C : Addr) (cl : List (PySem.Str × Addr)) (fp : List Addr), Adds (X.blk s H scope (compEnvC scope cl C X.env) fp) obj ok nx) (hs : ∀ x, foldedSetIterable iter X.env x = pure x := by intro _; rfl) :
    PE X (.SetComp elt [⟨tg, iter, ifs, 0⟩] scope pos) (tScG obj ok nx z0 wi g tt te (own.map (·.2))) := by
  refine ⟨fun pins s σ H Q I1 h => ?_⟩
  rw [eval_SetComp]
  have free : ∀ y ∈ scope.names, y.2 = .free → ∃ c, X.env.cells.lookup y.1 = some c := fun y hy e => (blk.free y hy e).elim (fun q => I1.ok.has _ (.inl q)) fun q => I1.ok.has _ (.inr q)
  refine wpAny_comprehension_free (use := none) rfl hs (closure_ok free) blk.kind (fun y hy e => by rw [blk.uniq y hy, e]) (thn (hi.run pins s σ H _ I1 h) fun xv s1 hx => thn hx fun itv s2 h2 => ?_)
  obtain ⟨it, fp, tn, J, H2, rfl, I2, W, st2, f2, q⟩ := h2
  refine newSet_ok (newEnv_comp ?_)
  generalize hD : s2.heap.objs.size = D
  have nD : H2 D = none := I2.hok.fresh (Nat.le_of_eq hD)
  obtain ⟨V, ⟨m0, v0⟩, turn⟩ := q D nD
  generalize hs3 : ({ s2 with heap := s2.heap.push { cls := .type "set", dict := none, data := .set #[] 0 (.fresh 0 0 (!X.w.params.followText "set-order")) } } : Shared) = s3
  have h3 : s3.heap = s2.heap.push (newSetObj X.w) := by rw [← hs3]; rfl
  have I3 : Inv X pins σ (upd H2 D (obj D z0)) s3 := by
    rw [← hs3]
    exact I2.laid (t' := s2.toks) (fun b o e => Heap.get?_push_of_some _ e) (Nat.le_of_eq hD) (born D _ _ (by rw [← hD]; exact Heap.get?_push_size _ rfl))
  have old : ∀ b ∈ fp, b < s2.heap.objs.size := fun b hb => let ⟨_, e, _⟩ := W.obj _ _ st2 b hb; Heap.lt_size e
  have f3 : ∀ b ∈ fp, FpOk X pins (upd H2 D (obj D z0)) b ∧ b < s3.heap.objs.size := fun b hb => by
    refine ⟨⟨?_, (f2 b hb).2⟩, by rw [h3, Heap.size_push]; exact Nat.lt_succ_of_lt (old b hb)⟩
    rw [upd_ne (by rw [← hD]; exact Nat.ne_of_lt (old b hb))]
    exact (f2 b hb).1
  have st3 : tn 0 s3.heap := W.keep _ _ _ st2 fun b _ o e => by rw [h3]; exact Heap.get?_push_of_some _ e
  have I4 := block_start I3 blk hN f3
  generalize hcl : cellsFrom (s3.heap.objs.size + 1) scope.names (cloFrom X.env.cells scope.names []) = cl at I4
  have pg := hg s3 (upd H2 D (obj D z0)) s3.heap.objs.size cl fp
  have pt := ht s3 (upd H2 D (obj D z0)) s3.heap.objs.size cl fp
  have pe := he s3 (upd H2 D (obj D z0)) s3.heap.objs.size cl fp
  have ad := adds s3 (upd H2 D (obj D z0)) s3.heap.objs.size cl fp
  have nfp : ∀ b ∈ fp, (upd H2 D (obj D z0)) b = none := fun b hb => (f3 b hb).1.1
  show codeAny _ _ (.compStart (.SetComp elt [⟨tg, iter, ifs, 0⟩] scope pos) 0 (.ref it) (.ref D) (compEnvC scope cl s3.heap.objs.size X.env)) (compPost (model X.prog X.w) X.A X.xe none _ (.ref D) s3.heap.objs.size) { s3 with heap := pushCells (s3.heap.push { cls := .type "dict", data := .dict #[] }) scope.names }
  generalize hce : compEnvC scope cl s3.heap.objs.size X.env = ce at I4 pg pt pe ad ⊢
  have cL : ce.locals = s3.heap.objs.size := by subst hce; rfl
  generalize hH3 : upd H2 D (obj D z0) = H3 at I3 I4 pg pt pe ad v0 nfp f3
  generalize hs4 : ({ s3 with heap := pushCells (s3.heap.push { cls := .type "dict", data := .dict #[] }) scope.names } : Shared) = s4 at I4 ⊢
  have st4 : tn 0 s4.heap := W.keep _ _ _ st3 fun b _ o e => by rw [← hs4]; exact pushCells_keeps _ _ _ _ (Heap.get?_push_of_some _ e)
  have stays : ∀ {σ' : Sg} {H' : Hp} {s' : Shared}, Inv (X.blk s3 H3 scope ce fp) [] σ' H' s' → (∀ b ∈ fp, H' b = none) → ∀ b ∈ fp, FpOk (X.blk s3 H3 scope ce fp) [] H' b := fun {σ' H' s'} I' hn b hb =>
    ⟨hn b hb, (I'.ok.exf b hb).1, I'.ok.exfs b hb, .inl hb, fun x c e => (I'.ok.exf b hb).2 x c e, fun p hp => absurd (show p ∈ ([] : List (Addr × Obj)) ++ [] from hp) (by rw [List.append_nil]; exact List.not_mem_nil)⟩
  have loop : codeAny (model X.prog X.w) X.A (.compLoop (.SetComp elt [⟨tg, iter, ifs, 0⟩] scope pos) 0 (.ref it) (.ref D) ce) (compPost (model X.prog X.w) X.A X.xe none (EP X pins σ Q) (.ref D) s3.heap.objs.size) s4 := by
    refine compLoopS_any (fun n s' => ∃ i H', Inv (X.blk s3 H3 scope ce fp) [] (L2.wipe σ (own.map (·.2))) H' s' ∧ tn i s'.heap ∧ (∀ b ∈ fp, H' b = none) ∧ V i n H') ?_ m0 ⟨0, H3, I4, st4, nfp, v0⟩
    rintro n s5 ⟨i, H5, I5, st5, n5, v5⟩
    rcases turn i n H5 v5 with ⟨stop, fin⟩ | ⟨go, N, hN2, step⟩
    · refine thnF (W.done (X.blk s3 H3 scope ce fp) rfl rfl rfl hc i [] s5 _ H5 (fun _ _ => False) I5 (stays I5 n5) st5 stop) fun r s6 ⟨hr, I6⟩ => ?_
      subst hr
      have I7 : Inv X pins σ H5 s6 := I3.call' (ch := fp) I6.os I6.base I6.hok I6.bare fun b hb => ⟨(f3 b hb).1.2.2.2.1, (f3 b hb).1.2.1, (f3 b hb).1.2.2.2.2.1, (f3 b hb).1.2.2.2.2.2⟩
      have nC : H5 s3.heap.objs.size = none := by rw [← cL]; exact I6.free
      obtain ⟨m, hn, _⟩ := I6.loc
      have hn2 : s6.heap.Ns s3.heap.objs.size m := by rw [← cL]; exact hn
      refine ⟨m, hn2, fun h2 sb => ?_⟩
      obtain ⟨a0, a1, a2, a3, a4, a5⟩ := I3.fpOk (Nat.le_refl _) nC
      exact ⟨.ref D, H5, I7.turned (t' := s6.toks) (fun b o hb e => (sb.2 b hb).trans e) a0 a1 a3 a4 a5, rfl, fin⟩
    · refine thnF (W.item (X.blk s3 H3 scope ce fp) rfl rfl rfl hc i [] s5 _ H5 (fun _ _ => False) I5 (stays I5 n5) st5 go) fun r s6 ⟨u, hr, h6⟩ => ?_
      subst hr
      refine thnF h6 fun _ s7 ⟨x, H7, I7, r7, y7, st7, n7⟩ => ?_
      have J7 := I7.pinned (stays I7 n7) (W.obj _ _ st7)
      refine thnF (pg.run _ s7 _ H7 x u _ J7 r7 (step x H7 y7)) fun _ s8 ⟨σ8, H8, I8, w8, q8⟩ => ?_
      refine thnF (pt.run _ s8 σ8 H8 _ I8 q8) fun b s9 ⟨H9, I9, q9⟩ => ?_
      have close : ∀ {s' : Shared} {H' : Hp}, Inv (X.blk s3 H3 scope ce fp) ([] ++ pinsAt fp s7.heap) σ8 H' s' → N H' → ∃ m, m < n ∧ ∃ i H', Inv (X.blk s3 H3 scope ce fp) [] (L2.wipe σ (own.map (·.2))) H' s' ∧ tn i s'.heap ∧ (∀ b ∈ fp, H' b = none) ∧ V i m H' := fun {s' H'} I' nH => by
        obtain ⟨m', hm, v'⟩ := hN2 H' nH
        have pin : ∀ b ∈ fp, ∀ o, s7.heap.get? b = some o → s'.heap.get? b = some o ∧ H' b = none := fun b hb o e =>
          have z := I'.pin (b, o) (List.mem_append_right _ (List.mem_append_right _ (mem_pinsAt hb e)))
          ⟨z.1, z.2.1⟩
        have len : (L2.wipe σ (own.map (·.2))).length = σ8.length := by rw [← w8, wipe_length]
        refine ⟨m', hm, i + 1, H', (I'.unpinned (pins := [])).weak len (fun j v e => ?_), W.keep _ _ _ st7 fun b hb o e => (pin b hb o e).1, fun b hb => ?_, v'⟩
        · rw [← w8] at e
          exact (wipe_some e).1
        · obtain ⟨o, e, _⟩ := W.obj _ _ st7 b hb
          exact (pin b hb o e).2
      cases b with
      | false =>
        simp only [Bool.false_eq_true, if_false] at q9 ⊢
        exact close I9 q9
      | true =>
        simp only [if_true] at q9 ⊢
        refine thnF (pe.run _ s9 σ8 H9 _ I9 q9) fun u2 s10 ⟨y, H10, I10, r10, z, j, hz, okz, nxz⟩ => ?_
        exact ad _ _ _ _ _ D z j y u2 _ I10 hz r10 okz fun s11 z' hz' I11 => close I11 (nxz z' hz')
  exact codeAny_compStart_set loop (W.self X.A 0 _ _ _ st4 loop)
end
end MR

/-! Set comprehensions by data. -/
namespace MR
open PySem PySem.Spec PyProof.Rows L2
section
variable {I : Type}
def scL (enc : I → PyData) (g : TDG) (tt : TB) (te : TD) (δ : Dn) (fin : List I → Prop) : List PyData → List I → Prop
  | [], acc => fin acc
  | d :: r, acc => g (.p d) δ fun δ2 => tt δ2 fun b => if b = true then te δ2 fun y => asP y fun z => ∃ j, z = enc j ∧ scL enc g tt te δ fin r (acc ++ [j]) else scL enc g tt te δ fin r acc
theorem wipe_two {vs : List Nat} : ∀ (ws : List Nat) (τ : Sg), (∀ v ∈ ws, v ∈ vs) → L2.wipe (L2.wipe τ vs) ws = L2.wipe τ vs := by
  intro ws
  induction ws with
  | nil => intro τ _; rfl
  | cons w ws ih =>
    intro τ hw
    show (L2.wipe (L2.wipe τ vs) ws).set w none = L2.wipe τ vs
    rw [ih τ fun v hv => hw v (List.mem_cons_of_mem _ hv)]
    apply List.ext_getElem?
    intro j
    by_cases hj : j = w
    · subst hj
      by_cases hlt : j < τ.length
      · rw [List.getElem?_set_self (by rw [wipe_length]; exact hlt), List.getElem?_eq_getElem (by rw [wipe_length]; exact hlt)]
        cases e : (L2.wipe τ vs)[j]'(by rw [wipe_length]; exact hlt) with
        | none => rfl
        | some v => exact absurd (hw j List.mem_cons_self) (wipe_some (σ := τ) (vs := vs) (i := j) (x := v) (by rw [List.getElem?_eq_getElem (by rw [wipe_length]; exact hlt), e])).2
      · rw [List.getElem?_eq_none (by rw [List.length_set, wipe_length]; omega), List.getElem?_eq_none (by rw [wipe_length]; omega)]
    · rw [List.getElem?_set_ne (Ne.symm hj)]
theorem ext_keep {H H' : Hp} {D : Addr} {o : HO} (x : Ext H H') (nw : ¬ Well o) (e : H D = some o) : H' D = some o := (x D o e).resolve_right fun z => nw z.1
variable {T : Type} {obj : Addr → T → HO} {ok : T → I → V → Hp → Prop} {nx : T → I → V → T → Prop} {z0 : T} {enc : I → PyData} {Rel : Hp → T → List I → Prop} {B : Nat}
theorem up_scG {κ : Ky} {ti : TDI} {g : TDG} {tt : TB} {te : TD} {vs : List Nat} {σ : Sg} {H : Hp} {Q : VK} {δ : Dn} {R : List I → Prop} {c : Sc} {L : Addr → Bool} (nw : ∀ D z, ¬ Well (obj D z)) (rext : ∀ {H H' : Hp} {z acc}, Ext H H' → Rel H z acc → Rel H' z acc) (r0 : ∀ H, Rel H z0 [])
    (rstep : ∀ {P : Addr → Bool} {H : Hp} {z acc j v}, Rp κ.K (hide P H) (enc j) v → Rel (hide P H) z acc → acc.length + 1 < B → ok z j v H ∧ ∀ z', nx z j v z' → Rel (hide P H) z' (acc ++ [j])) (es : ES κ c H L δ σ) (h : ti δ fun ds => ds.length < B ∧ scL enc g tt te (wipeD δ vs) R ds [])
    (k : ∀ (D : Addr) (Hc : Hp) (z : T) (acc : List I), Ext H Hc → H D = none → Hc D = some (obj D z) → Rel (hide (oor c.P L) Hc) z acc → R acc → Q (.ref D) Hc) : tScG obj ok nx z0 (upI κ ti) (upG κ vs g) (upT κ tt) (up κ te) vs σ H Q := by
  refine ⟨δ, _, c, L, es, h, fun J H1 ds bs us x1 kb itk ⟨hz, h1⟩ D nD => ?_⟩
  have hl := kb.len
  have LD : L D = false := by
    cases q : L D with
    | false => rfl
    | true => exact absurd nD ((es.on x1).ldom D q).1
  have HD : H D = none := x1.none nD
  have H0D : c.H0 D = none := es.ext.none HD
  have hsub : ∀ a, oor c.P L a = true → oor c.P (plus L D) a = true := fun a q => by
    unfold oor at q ⊢
    rw [Bool.or_eq_true] at q ⊢
    exact q.imp id plus_of
  have xD : Ext (hide (oor c.P L) H1) (hide (oor c.P (plus L D)) (upd H1 D (obj D z0))) := xplus (κ := κ) nD
  have ownD : ∀ (i : Nat) (xs : List PyData) (a : Addr), δ[i]? = some (Sl.own xs) → σ[i]? = some (some (V.ref a)) → a ≠ D := fun i xs a e1 e2 e3 => by
    obtain ⟨b, ys, q1, q2, _⟩ := es.own i xs e1
    rw [e2] at q1
    cases q1
    rw [e3, LD] at q2
    cases q2
  have fresh : ∀ {Hc : Hp} {o : HO}, ES κ { c with bs := bs ++ c.bs, us := us ++ c.us } Hc (plus L D) δ σ → ES κ { c with bs := bs ++ c.bs, us := us ++ c.us } (upd Hc D o) (plus L D) δ σ := fun {Hc o} s => by
    have eh : hide (oor c.P (plus L D)) (upd Hc D o) = hide (oor c.P (plus L D)) Hc := hide_same oor_plus
    refine ⟨s.len, fun i d e => ?_, fun i xs e => ?_, s.sep, s.psys, s.pdom, fun a e => ⟨?_, (s.ldom a e).2⟩, fun a o' e => ?_, ?_⟩
    · show ∃ v, _ ∧ Rv κ (hide (oor c.P (plus L D)) (upd Hc D o)) d v
      rw [eh]
      exact s.val i d e
    · obtain ⟨a, ys, q1, q2, q3, q4⟩ := s.own i xs e
      refine ⟨a, ys, q1, q2, by rw [upd_ne (ownD i xs a e q1)]; exact q3, ?_⟩
      show RpA κ.K (hide (oor c.P (plus L D)) (upd Hc D o)) xs ys
      rw [eh]
      exact q4
    · by_cases ha : a = D
      · rw [ha, upd_same]
        exact Option.some_ne_none _
      · rw [upd_ne ha]
        exact (s.ldom a e).1
    · rw [upd_ne (ne_of_none e H0D)]
      exact s.ext a o' e
    · show RvA κ (hide (oor c.P (plus L D)) (upd Hc D o)) _ _
      rw [eh]
      exact s.kept
  have s0 : ES κ { c with bs := bs ++ c.bs, us := us ++ c.us } (upd H1 D (obj D z0)) (plus L D) δ σ := by
    have s := (es.on x1).more kb
    refine ⟨s.len, fun i d e => ?_, fun i xs e => ?_, s.sep, s.psys, s.pdom, fun a e => ?_, s.ext.trans (Ext.new nD), s.kept.ext xD⟩
    · obtain ⟨v, q1, q2⟩ := s.val i d e
      exact ⟨v, q1, q2.ext xD⟩
    · obtain ⟨a, ys, q1, q2, q3, q4⟩ := s.own i xs e
      exact ⟨a, ys, q1, plus_of q2, by rw [upd_ne (ownD i xs a e q1)]; exact q3, q4.ext xD⟩
    · by_cases ha : a = D
      · rw [ha, upd_same]
        exact ⟨Option.some_ne_none _, H0D⟩
      · rw [plus_ne ha] at e
        rw [upd_ne ha]
        exact s.ldom a e
  refine ⟨fun i m Hc => i + m = ds.length ∧ ∃ acc z, ES κ { c with bs := bs ++ c.bs, us := us ++ c.us } Hc (plus L D) δ σ ∧ Ext H Hc ∧ Hc D = some (obj D z) ∧ Rel (hide (oor c.P (plus L D)) Hc) z acc ∧ acc.length ≤ i ∧ scL enc g tt te (wipeD δ vs) R (ds.drop i) acc,
    ⟨ds.length, by omega, [], z0, s0, x1.trans (Ext.new nD), upd_same, r0 _, Nat.le_refl 0, h1⟩, fun i m Hc ⟨em, acc, z, s, xc, eD, ra, hlen, hh⟩ => ?_⟩
  obtain ⟨s2, kb2⟩ := s.less hl
  by_cases hi : i < ds.length
  · rw [List.drop_eq_getElem_cons hi] at hh
    refine .inr ⟨itk.go Hc _ i s2.dom kb2 hi, fun H' => ∃ acc z, ES κ { c with bs := bs ++ c.bs, us := us ++ c.us } H' (plus L D) δ σ ∧ Ext H H' ∧ H' D = some (obj D z) ∧ Rel (hide (oor c.P (plus L D)) H') z acc ∧ acc.length ≤ i + 1 ∧ scL enc g tt te (wipeD δ vs) R (ds.drop (i + 1)) acc,
      fun H' ⟨acc, z, a1, a2, a3, a4, a5, a6⟩ => ⟨m - 1, by omega, by omega, acc, z, a1, a2, a3, a4, a5, a6⟩, fun x H2 hy => ?_⟩
    obtain ⟨y, ey, x2, ry⟩ := itk.yld Hc _ i x H2 s2.dom kb2 hi hy
    rw [List.getElem?_eq_getElem hi] at ey
    cases ey
    refine ⟨.p ds[i], wipeD δ vs, _, _, _, (s.on x2).wipe vs, ry, hh, fun δ3 σ3 s3 ew h3 => ⟨?_, ⟨δ3, _, _, _, s3, h3, fun b H3 x3 h4 => ?_⟩⟩⟩
    · rw [ew, wipe_two vs σ fun _ h => h]
    · cases b with
      | false => exact ⟨acc, z, s.on (x2.trans x3), xc.trans (x2.trans x3), ext_keep (x2.trans x3) (nw D z) eD, rext ((x2.trans x3).hide _) ra, Nat.le_succ_of_le hlen, h4⟩
      | true =>
        show up κ te σ3 H3 _
        refine ⟨δ3, _, _, _, s3.on x3, h4, fun v H4 d x4 r4 h5 => ?_⟩
        obtain ⟨zz, rfl, j, rfl, h6⟩ := asP_of h5
        have xx := x2.trans (x3.trans x4)
        obtain ⟨o1, o2⟩ := rstep (P := oor c.P (plus L D)) (H := H4) r4 (rext (xx.hide _) ra) (by omega)
        refine ⟨z, j, ext_keep xx (nw D z) eD, o1, fun z' hz' => ⟨acc ++ [j], z', fresh (s.on xx), fun a o e => ?_, upd_same, ?_, by rw [List.length_append, List.length_singleton]; omega, h6⟩⟩
        · rw [upd_ne (ne_of_none e HD)]
          exact (xc.trans xx) a o e
        · rw [hide_same oor_plus]
          exact o2 z' hz'
  · rw [List.drop_eq_nil_of_le (by omega)] at hh
    exact .inl ⟨itk.stop Hc _ i s2.dom kb2 (by omega), k D Hc z acc xc HD eD (rext (hide_less Hc hsub) ra) hh⟩
end
end MR

/-! {key for ..} and sorted({pair for ..}) by data. -/
namespace MR
open PySem PySem.Spec PyProof.Rows L2
section
variable {X : Cx}
/-! ### keys -/
def objK (w : World) : Addr → (Key → Bool) × Nat → HO := fun D z => SetGO w D z.1 z.2
def okK : (Key → Bool) × Nat → Key → V → Hp → Prop := fun z k v _ => v = kV k ∧ z.2 + 1 < scanBound
def nxK : (Key → Bool) × Nat → Key → V → (Key → Bool) × Nat → Prop := fun z k _ z' => z' = (fun j => z.1 j || decide (j = k), if z.1 k = true then z.2 else z.2 + 1)
def relK : Hp → (Key → Bool) × Nat → List Key → Prop := fun _ z acc => z.1 = hasK acc ∧ z.2 ≤ acc.length
theorem addsK : Adds X (objK X.w) okK nxK := by
  intro pins σ H s E D z k v u Q I hD r ⟨hv, room⟩ h
  subst hv
  have G := setG_get I hD
  have ty : s.TypeIs (.ref D) "set" := by
    obtain ⟨ob, el, ep, tb, ho, hx, _⟩ := G
    exact ⟨ob, ho, hx.1⟩
  have ku := rel_key r
  refine wpAny_call_entry F.slot_set_add ty F.entry_set_add ?_ (F.args_set_add_2 _ _)
  unfold Builtin.«set.add» Builtin.Frozenset.oneOther
  simp only [List.isEmpty_nil, bind_assoc]
  unfold Builtin.Frozenset.addrOf setAdd
  refine wpAny_bind (wpAny_pure ?_)
  try dsimp only
  refine wpAny_bind (wpAny_pure ?_)
  try dsimp only
  refine wpAny_bind (wpAny_holding (wpAny_bind ((mixKind X.prog X.w).pyHash (k := k) (kOf_is.mpr ku) ?_)))
  refine setG_add (s := { s with toks := s.toks + 1 }) ku G room fun h' sb G2 => ?_
  have at_ : ∃ o, h'.get? D = some o := by
    obtain ⟨ob, el, ep, tb, ho, _⟩ := id G2
    exact ⟨ob, ho⟩
  refine wpAny_pure ⟨_, rfl, h _ _ rfl (I.write (e := D) (t' := s.toks + 1) (by rw [hD]; trivial) (.inl rfl) (fun b o hb ho => (sb.2 b hb).trans ho) at_ (setG_held G2))⟩
theorem bornK (D : Addr) : Born X (objK X.w D (fun _ => false, 0)) D := fun H h e => setG_held (setG_empty e fun _ => rfl)
/-! ### pairs of texts -/
def objP (P : Program) (w : World) : Addr → List (Addr × (Str × Str)) → HO := fun D M => SetPO P w D (M.map prA)
def okP (K : PySem.W.Frag) : List (Addr × (Str × Str)) → Str × Str → V → Hp → Prop := fun M p v H => ∃ a, v = .ref a ∧ SqT K H a [V.str p.1, V.str p.2] ∧ (∀ q ∈ M, SqT K H q.1 [V.str q.2.1, V.str q.2.2]) ∧ M.length + 1 < 64
def nxP : List (Addr × (Str × Str)) → Str × Str → V → List (Addr × (Str × Str)) → Prop := fun M p v M' => ∃ a, v = .ref a ∧ ((p ∈ M.map (fun z => z.2) ∧ M' = M) ∨ (p ∉ M.map (fun z => z.2) ∧ M'.Perm ((a, p) :: M)))
def relP (K : PySem.W.Frag) : Hp → List (Addr × (Str × Str)) → List (Str × Str) → Prop := fun H M acc => (∀ q ∈ M, SqT K H q.1 [V.str q.2.1, V.str q.2.2] ∧ q.2 ∈ acc) ∧ (∀ p ∈ acc, p ∈ M.map fun z => z.2) ∧ M.length ≤ acc.length
theorem prK_inj {p q : Str × Str} (h : prK p.1 p.2 = prK q.1 q.2) : p = q := by
  unfold prK at h
  injection h with b1 b2
  injection b2 with b2 _
  injection b1 with b1
  injection b2 with b2
  exact Prod.ext b1 b2
theorem prA_inj {p q : Addr × (Str × Str)} (h : prA p = prA q) : p = q := by
  unfold prA at h
  injection h with h1 h2
  exact Prod.ext h1 (prK_inj h2)
theorem addsP (hu : X.A.units + 64 < cLine) : Adds X (objP X.prog X.w) (okP X.K) nxP := by
  intro pins σ H s E D M p v u Q I hD r ⟨a, hv, ta, tM, room⟩ h
  subst hv
  obtain rfl : u = Value.ref a := r
  obtain ⟨es, ep, t, S⟩ := HSet0.full (I.hok D _ hD).1 fun q hq => by
    obtain ⟨n, m, rfl⟩ := List.mem_map.mp hq
    exact inv_pair I (tM n m)
  have isa := inv_pair I ta
  have ty : s.TypeIs (.ref D) "set" := by
    obtain ⟨ob, ho, hx, _⟩ := S.at_
    exact ⟨ob, ho, hx.1⟩
  refine wpAny_call_entry F.slot_set_add ty F.entry_set_add ?_ (F.args_set_add_2 _ _)
  unfold Builtin.«set.add» Builtin.Frozenset.oneOther
  simp only [List.isEmpty_nil, bind_assoc]
  unfold Builtin.Frozenset.addrOf setAdd
  refine wpAny_bind (wpAny_pure ?_)
  try dsimp only
  refine wpAny_bind (wpAny_pure ?_)
  try dsimp only
  refine wpAny_bind (wpAny_holding (wpAny_bind ((tupKd X.prog X.w).pyHash (k := prK p.1 p.2) (by show _ < cLine; show X.A.units + 1 < cLine; omega) isa ?_)))
  refine HSet.add (s := { s with toks := s.toks + (tupKd X.prog X.w).draws (prK p.1 p.2) }) S isa (by show X.A.units + 1 < cLine; omega) (by rw [List.length_map]; exact room) fun b h' L' es' ep' t' sb S2 q => ?_
  have q2 : ∃ M', L' = M'.map prA ∧ nxP M p (.ref a) M' := by
    have inM : prK p.1 p.2 ∈ (M.map prA).map Prod.snd ↔ p ∈ M.map (fun z => z.2) := by
      rw [List.map_map, List.mem_map, List.mem_map]
      constructor
      · rintro ⟨n, hn, e⟩
        exact ⟨n, hn, prK_inj e⟩
      · rintro ⟨n, hn, e⟩
        exact ⟨n, hn, by rw [← e]; rfl⟩
    rcases q with ⟨m, rfl⟩ | ⟨m, pm⟩
    · exact ⟨M, rfl, a, rfl, .inl ⟨inM.mp m, rfl⟩⟩
    · have pm2 : L'.Perm (((a, p) :: M).map prA) := pm
      obtain ⟨M', rfl, pm3⟩ := perm_of_map pm2
      exact ⟨M', rfl, a, rfl, .inr ⟨fun z => m (inM.mpr z), pm3⟩⟩
  obtain ⟨M', rfl, nx⟩ := q2
  have at_ : ∃ o, h'.get? D = some o := by
    obtain ⟨ob, ho, _⟩ := S2.at_
    exact ⟨ob, ho⟩
  exact wpAny_pure ⟨_, rfl, h _ M' nx (I.write (e := D) (t' := s.toks + (tupKd X.prog X.w).draws (prK p.1 p.2)) (by rw [hD]; trivial) (.inl rfl) (fun b o hb ho => (sb.2 b hb).trans ho) at_ (setP_held S2.bare))⟩
theorem bornP (D : Addr) : Born X (objP X.prog X.w D []) D := fun H h e => setP_held (HSet.none_yet (kd := tupKd X.prog X.w) e).bare
end
end MR

/-! The rules: {key for ..}, sorted({pair for ..}). -/
namespace MR
open PySem PySem.Spec PyProof.Rows L2
def dScK (ti : TDI) (g : TDG) (tt : TB) (te : TD) (vs : List Nat) : TD := fun δ R => ti δ fun ds => ds.length < scanBound ∧ scL keyD g tt te (wipeD δ vs) (fun ks => R (.set ks)) ds []
def dScP (ti : TDI) (g : TDG) (tt : TB) (te : TD) (vs : List Nat) : TD := fun δ R => ti δ fun ds => ds.length < 64 ∧ scL encP g tt te (wipeD δ vs) (fun ps => ∀ qs : List (Str × Str), qs.Pairwise ltP → (∀ x, x ∈ qs ↔ x ∈ ps) → R (.p (.list (qs.map encP)))) ds []
theorem hasK_app {acc : List Key} {k : Key} : hasK (acc ++ [k]) = fun j => hasK acc j || decide (j = k) := by
  funext j
  unfold hasK
  rw [List.any_append]
  congr 1
  show (decide (k = j) || false) = decide (j = k)
  rw [Bool.or_false]
  exact decide_eq_decide.mpr ⟨Eq.symm, Eq.symm⟩
section
variable {X : Cx} {elt tg iter : Expr} {ifs : List Expr} {scope : Scope} {own : List (PySem.Str × Nat)} {p pos pos2 : Pos} {ti : TDI} {g : TDG} {tt : TB} {te : TD}
theorem de_scK (hc : X.calm = true) (hN : X.N.Nodup) (hi : PI X tg iter (upI (Cx.ky X) ti)) (ok : BlkOk X.N X.env.scope scope own)
    (hg : ∀ (s : Shared) (H : Hp) (C : Addr) (cl : List (Str × Addr)) (fp : List Addr), PG (X.blk s H scope (compEnvC scope cl C X.env) fp) tg (upG (Cx.ky X) (own.map (·.2)) g)) (ht : ∀ (s : Shared) (H : Hp) (C : Addr) (cl : List (Str × Addr)) (fp : List Addr), PTs (X.blk s H scope (compEnvC scope cl C X.env) fp) ifs (upT (Cx.ky X) tt))
    (he : ∀ (s : Shared) (H : Hp) (C : Addr) (cl : List (Str × Addr)) (fp : List Addr), PE (X.blk s H scope (compEnvC scope cl C X.env) fp) elt (up (Cx.ky X) te)) (hs : ∀ x, foldedSetIterable iter X.env x = pure x := by intro _; rfl) :
    PE X (.SetComp elt [⟨tg, iter, ifs, 0⟩] scope pos) (up (Cx.ky X) (dScK ti g tt te (own.map (·.2)))) := by
  refine PE.imp (pe_scG (obj := objK X.w) (ok := okK) (nx := nxK) (z0 := (fun _ => false, 0)) hc hN hi ok hg ht he bornK (fun s H C cl fp => addsK (X := X.blk s H scope (compEnvC scope cl C X.env) fp)) hs) fun σ H Q ⟨δ, R, c, L, es, h, k⟩ => ?_
  refine up_scG (enc := keyD) (Rel := relK) (B := scanBound) (R := fun ks => R (.set ks)) (fun D z w => ?_) (fun x r => r) (fun H => ⟨by funext j; rfl, Nat.le_refl 0⟩) (fun {P H z acc j v} r q b => ⟨⟨rp_key r, by have := q.2; omega⟩, fun z' e => ?_⟩) es h fun D Hc z acc x hD e r f => ?_
  · obtain ⟨_, _, e, _⟩ := w
    cases e
  · rw [e]
    refine ⟨by rw [hasK_app, q.1], ?_⟩
    rw [List.length_append, List.length_singleton]
    have := q.2
    show (if z.1 j = true then z.2 else z.2 + 1) ≤ _
    split <;> omega
  · obtain ⟨S, n⟩ := z
    obtain ⟨e1, e2⟩ := r
    cases (show S = hasK acc from e1)
    refine k (.ref D) Hc (.set acc) x ⟨D, n, rfl, ?_⟩ f
    rw [hide_at (by
      cases q : oor c.P L D with
      | false => rfl
      | true =>
        have := es.dom.2 D q
        exact absurd hD this)]
    exact e
theorem de_sortScP (hc : X.calm = true) (hu : X.A.units + 64 < cLine) (hN : X.N.Nodup) (hi : PI X tg iter (upI (Cx.ky X) ti)) (ok : BlkOk X.N X.env.scope scope own)
    (hg : ∀ (s : Shared) (H : Hp) (C : Addr) (cl : List (Str × Addr)) (fp : List Addr), PG (X.blk s H scope (compEnvC scope cl C X.env) fp) tg (upG (Cx.ky X) (own.map (·.2)) g)) (ht : ∀ (s : Shared) (H : Hp) (C : Addr) (cl : List (Str × Addr)) (fp : List Addr), PTs (X.blk s H scope (compEnvC scope cl C X.env) fp) ifs (upT (Cx.ky X) tt))
    (he : ∀ (s : Shared) (H : Hp) (C : Addr) (cl : List (Str × Addr)) (fp : List Addr), PE (X.blk s H scope (compEnvC scope cl C X.env) fp) elt (up (Cx.ky X) te)) (hgl : Gl X "sorted") (hm : X.mg "sorted" = none) (hs : ∀ x, foldedSetIterable iter X.env x = pure x := by intro _; rfl)
    (hs2 : starEach [.SetComp elt [⟨tg, iter, ifs, 0⟩] scope pos2] X.env = (false, eval (.SetComp elt [⟨tg, iter, ifs, 0⟩] scope pos2) X.env) :: starEach [] X.env := by rfl) (hpl : (backTo pos (starEach [] X.env)).any (·.1) = false := by rfl) :
    PE X (.Call (.Name "sorted" p) [.SetComp elt [⟨tg, iter, ifs, 0⟩] scope pos2] [] pos) (up (Cx.ky X) (dScP ti g tt te (own.map (·.2)))) := by
  refine PE.imp (pe_callB (cr_sortP hc hu) hgl hm (by decide +kernel) (pa_cons (pe_scG (obj := objP X.prog X.w) (ok := okP X.K) (nx := nxP) (z0 := []) hc hN hi ok hg ht he bornP (fun s H C cl fp => addsP (X := X.blk s H scope (compEnvC scope cl C X.env) fp) hu) hs) pa_nil hs2) (by decide) (by decide) hs2 hpl) fun σ H Q ⟨δ, R, c, L, es, h, k⟩ => ?_
  show tScG (objP X.prog X.w) (okP X.K) nxP [] (upI (Cx.ky X) ti) (upG (Cx.ky X) (own.map (·.2)) g) (upT (Cx.ky X) tt) (up (Cx.ky X) te) (own.map (·.2)) σ H fun y H2 => rSortP X.K X.prog X.w [y] H2 Q
  refine up_scG (κ := Cx.ky X) (enc := encP) (Rel := relP X.K) (B := 64) (R := fun ps => ∀ qs : List (Str × Str), qs.Pairwise ltP → (∀ x, x ∈ qs ↔ x ∈ ps) → R (.p (.list (qs.map encP)))) (fun D z w => ?_) (fun x r => ?_) (fun H => ⟨fun q hq => absurd hq List.not_mem_nil, fun q hq => absurd hq List.not_mem_nil, Nat.le_refl 0⟩) (fun {P H z acc j v} r q b => ?_) es h fun D Hc z acc x hD e r f => ?_
  · obtain ⟨_, _, e, _⟩ := w
    cases e
  · exact ⟨fun q hq => ⟨x.seqT (r.1 q hq).1, (r.1 q hq).2⟩, r.2.1, r.2.2⟩
  · obtain ⟨a, ev, ta⟩ := rp_pair r
    refine ⟨⟨a, ev, (hide_ext _ _).seqT ta, fun n hn => (hide_ext _ _).seqT (q.1 n hn).1, by have := q.2.2; omega⟩, fun z' ⟨a', ev', w⟩ => ?_⟩
    rw [ev] at ev'
    cases ev'
    rcases w with ⟨m, rfl⟩ | ⟨m, pm⟩
    · refine ⟨fun n hn => ⟨(q.1 n hn).1, List.mem_append_left _ (q.1 n hn).2⟩, fun y hy => ?_, ?_⟩
      · rcases List.mem_append.mp hy with y1 | y1
        · exact q.2.1 y y1
        · rw [List.mem_singleton.mp y1]; exact m
      · rw [List.length_append]
        exact Nat.le_trans q.2.2 (Nat.le_add_right _ _)
    · refine ⟨fun n hn => ?_, fun y hy => (pm.map fun z => z.2).mem_iff.mpr ?_, ?_⟩
      · rcases List.mem_cons.mp (pm.mem_iff.mp hn) with e | hn
        · rw [e]; exact ⟨ta, List.mem_append_right _ List.mem_cons_self⟩
        · exact ⟨(q.1 n hn).1, List.mem_append_left _ (q.1 n hn).2⟩
      · rcases List.mem_append.mp hy with y1 | y1
        · exact List.mem_cons_of_mem _ (q.2.1 y y1)
        · rw [List.mem_singleton.mp y1]; exact List.mem_cons_self
      · rw [pm.length_eq, List.length_append, List.length_cons, List.length_singleton]
        have := q.2.2
        omega
  · refine ⟨D, z, rfl, e, fun n hn => (hide_ext _ _).seqT (r.1 n hn).1, fun o Z ho pm so few => ?_⟩
    have read : RpA X.K (hide (oor c.P L) Hc) ((Z.map fun n : Addr × (Str × Str) => n.2).map encP) (Z.map fun n => V.ref n.1) := read_pairs fun n hn => (r.1 n (pm.mem_iff.mp hn)).1
    refine k _ _ (.p (.list ((Z.map fun n : Addr × (Str × Str) => n.2).map encP))) (x.trans (Ext.new ho)) (new_lst (es.on x).dom ho read) (f _ so fun y => ?_)
    constructor
    · intro hy
      obtain ⟨n, hn, rfl⟩ := List.mem_map.mp hy
      exact (r.1 n (pm.mem_iff.mp hn)).2
    · intro hy
      exact (pm.map fun z => z.2).mem_iff.mpr (r.2.1 y hy)
end
end MR

/-! List comprehensions with two for, by data. -/
namespace MR
open PySem PySem.Spec PyProof.Rows L2
def noOwn (δ : Dn) : Bool := δ.all fun s => match s with | .own _ => false | _ => true
theorem noOwn_at {δ : Dn} (h : noOwn δ = true) {i : Nat} {xs : List PyData} (e : δ[i]? = some (Sl.own xs)) : False := by
  have := List.all_eq_true.mp h _ (List.mem_of_getElem? e)
  cases this
def lc2L (g : TDG) (tt : TB) (ti1 : TDI) (g1 : TDG) (tt1 : TB) (te : TD) (δ : Dn) (vs1 : List Nat) (fin : List PyData → Prop) : List PyData → List PyData → Prop
  | [], acc => fin acc
  | d :: r, acc => g (.p d) δ fun δ2 => tt δ2 fun b => if b = true then noOwn δ2 = true ∧ ti1 δ2 fun ds1 => acc.length + ds1.length ≤ sizeLine ∧ lcL g1 tt1 te (wipeD δ2 vs1) (fun acc' => lc2L g tt ti1 g1 tt1 te δ vs1 fin r acc') ds1 acc else lc2L g tt ti1 g1 tt1 te δ vs1 fin r acc
def dLc2 (ti : TDI) (g : TDG) (tt : TB) (ti1 : TDI) (g1 : TDG) (tt1 : TB) (te : TD) (vs vs1 : List Nat) : TD := fun δ R => ti δ fun ds => lc2L g tt ti1 g1 tt1 te (wipeD δ vs) vs1 (fun acc => R (.p (.list acc))) ds []
/-- slots without own lists don't mind what becomes of a private list -/
theorem ES.put_free {κ : Ky} {c : Sc} {Hc : Hp} {L : Addr → Bool} {δ : Dn} {σ : Sg} {D : Addr} {o : HO} (s : ES κ c Hc L δ σ) (no : noOwn δ = true) (LD : L D = true) (H0D : c.H0 D = none) : ES κ c (upd Hc D o) L δ σ := by
  have eh : hide (oor c.P L) (upd Hc D o) = hide (oor c.P L) Hc := hide_same (by unfold oor; rw [LD, Bool.or_true])
  refine ⟨s.len, fun i d e => ?_, fun i xs e => (noOwn_at no e).elim, s.sep, s.psys, s.pdom, fun a e => ⟨?_, (s.ldom a e).2⟩, fun a o' e => ?_, ?_⟩
  · rw [eh]
    exact s.val i d e
  · by_cases ha : a = D
    · rw [ha, upd_same]
      exact Option.some_ne_none _
    · rw [upd_ne ha]
      exact (s.ldom a e).1
  · rw [upd_ne (ne_of_none e H0D)]
    exact s.ext a o' e
  · rw [eh]
    exact s.kept
theorem up_lc2 {κ : Ky} {ti ti1 : TDI} {g g1 : TDG} {tt tt1 : TB} {te : TD} {vs vs1 : List Nat} {σ : Sg} {H : Hp} {Q : VK} (h : up κ (dLc2 ti g tt ti1 g1 tt1 te vs vs1) σ H Q) : tLc2 (upI κ ti) (upG κ vs g) (upT κ tt) (upI κ ti1) (upG κ vs1 g1) (upT κ tt1) (up κ te) vs vs1 σ H Q := by
  obtain ⟨δ, R, c, L, es, h, k⟩ := h
  refine ⟨δ, _, c, L, es, h, fun J H1 ds bs us x1 kb itk h1 D nD => ?_⟩
  have hl := kb.len
  have LD : L D = false := by
    cases q : L D with
    | false => rfl
    | true => exact absurd nD ((es.on x1).ldom D q).1
  have HD : H D = none := x1.none nD
  have H0D : c.H0 D = none := es.ext.none HD
  have PD : c.P D = false := by
    cases q : c.P D with
    | false => rfl
    | true => exact absurd H0D (es.pdom D q)
  have hsub : ∀ a, oor c.P L a = true → oor c.P (plus L D) a = true := fun a q => by
    unfold oor at q ⊢
    rw [Bool.or_eq_true] at q ⊢
    exact q.imp id plus_of
  have xD : Ext (hide (oor c.P L) H1) (hide (oor c.P (plus L D)) (upd H1 D (.lst []))) := xplus (κ := κ) nD
  have ownD : ∀ (i : Nat) (xs : List PyData) (a : Addr), δ[i]? = some (Sl.own xs) → σ[i]? = some (some (V.ref a)) → a ≠ D := fun i xs a e1 e2 e3 => by
    obtain ⟨b, ys, q1, q2, _⟩ := es.own i xs e1
    rw [e2] at q1
    cases q1
    rw [e3, LD] at q2
    cases q2
  have fresh : ∀ {Hc : Hp} {o : HO}, ES κ { c with bs := bs ++ c.bs, us := us ++ c.us } Hc (plus L D) δ σ → ES κ { c with bs := bs ++ c.bs, us := us ++ c.us } (upd Hc D o) (plus L D) δ σ := fun {Hc o} s => by
    have eh : hide (oor c.P (plus L D)) (upd Hc D o) = hide (oor c.P (plus L D)) Hc := hide_same oor_plus
    refine ⟨s.len, fun i d e => ?_, fun i xs e => ?_, s.sep, s.psys, s.pdom, fun a e => ⟨?_, (s.ldom a e).2⟩, fun a o' e => ?_, ?_⟩
    · show ∃ v, _ ∧ Rv κ (hide (oor c.P (plus L D)) (upd Hc D o)) d v
      rw [eh]
      exact s.val i d e
    · obtain ⟨a, ys, q1, q2, q3, q4⟩ := s.own i xs e
      refine ⟨a, ys, q1, q2, by rw [upd_ne (ownD i xs a e q1)]; exact q3, ?_⟩
      show RpA κ.K (hide (oor c.P (plus L D)) (upd Hc D o)) xs ys
      rw [eh]
      exact q4
    · by_cases ha : a = D
      · rw [ha, upd_same]
        exact Option.some_ne_none _
      · rw [upd_ne ha]
        exact (s.ldom a e).1
    · rw [upd_ne (ne_of_none e H0D)]
      exact s.ext a o' e
    · show RvA κ (hide (oor c.P (plus L D)) (upd Hc D o)) _ _
      rw [eh]
      exact s.kept
  have s0 : ES κ { c with bs := bs ++ c.bs, us := us ++ c.us } (upd H1 D (.lst [])) (plus L D) δ σ := by
    have s := (es.on x1).more kb
    refine ⟨s.len, fun i d e => ?_, fun i xs e => ?_, s.sep, s.psys, s.pdom, fun a e => ?_, s.ext.trans (Ext.new nD), s.kept.ext xD⟩
    · obtain ⟨v, q1, q2⟩ := s.val i d e
      exact ⟨v, q1, q2.ext xD⟩
    · obtain ⟨a, ys, q1, q2, q3, q4⟩ := s.own i xs e
      exact ⟨a, ys, q1, plus_of q2, by rw [upd_ne (ownD i xs a e q1)]; exact q3, q4.ext xD⟩
    · by_cases ha : a = D
      · rw [ha, upd_same]
        exact ⟨Option.some_ne_none _, H0D⟩
      · rw [plus_ne ha] at e
        rw [upd_ne ha]
        exact s.ldom a e
  refine ⟨fun i m Hc => i + m = ds.length ∧ ∃ accD acc, ES κ { c with bs := bs ++ c.bs, us := us ++ c.us } Hc (plus L D) δ σ ∧ Ext H Hc ∧ Hc D = some (.lst acc) ∧ RpA κ.K (hide (oor c.P (plus L D)) Hc) accD acc ∧ lc2L g tt ti1 g1 tt1 te (wipeD δ vs) vs1 (fun acc => R (.p (.list acc))) (ds.drop i) accD,
    ⟨ds.length, by omega, [], [], s0, x1.trans (Ext.new nD), upd_same, rfl, h1⟩, fun i m Hc ⟨em, accD, acc, s, xc, eD, ra, hh⟩ => ?_⟩
  obtain ⟨s2, kb2⟩ := s.less hl
  by_cases hi : i < ds.length
  · rw [List.drop_eq_getElem_cons hi] at hh
    refine .inr ⟨itk.go Hc _ i s2.dom kb2 hi, fun H' => ∃ accD acc, ES κ { c with bs := bs ++ c.bs, us := us ++ c.us } H' (plus L D) δ σ ∧ Ext H H' ∧ H' D = some (.lst acc) ∧ RpA κ.K (hide (oor c.P (plus L D)) H') accD acc ∧ lc2L g tt ti1 g1 tt1 te (wipeD δ vs) vs1 (fun acc => R (.p (.list acc))) (ds.drop (i + 1)) accD,
      fun H' ⟨accD, acc, a1, a2, a3, a4, a5⟩ => ⟨m - 1, by omega, by omega, accD, acc, a1, a2, a3, a4, a5⟩, fun x H2 hy => ?_⟩
    obtain ⟨y, ey, x2, ry⟩ := itk.yld Hc _ i x H2 s2.dom kb2 hi hy
    rw [List.getElem?_eq_getElem hi] at ey
    cases ey
    refine ⟨.p ds[i], wipeD δ vs, _, _, _, (s.on x2).wipe vs, ry, hh, fun δ3 σ3 s3 ew h3 => ⟨?_, ⟨δ3, _, _, _, s3, h3, fun b H3 x3 h4 => ?_⟩⟩⟩
    · rw [ew, wipe_two vs σ fun _ h => h]
    cases b with
    | false => exact ⟨accD, acc, s.on (x2.trans x3), xc.trans (x2.trans x3), (x2.trans x3).lst eD, ra.ext ((x2.trans x3).hide _), h4⟩
    | true =>
      obtain ⟨no, h5⟩ := (show noOwn δ3 = true ∧ _ from h4)
      refine ⟨δ3, _, _, _, s3.on x3, h5, fun J1 H4 ds1 bs1 us1 x4 kb1 itk1 ⟨hz1, h6⟩ => ?_⟩
      have hl1 := kb1.len
      have x234 := x2.trans (x3.trans x4)
      refine ⟨fun j n He => j + n = ds1.length ∧ ∃ accD' acc', ES κ { c with bs := bs1 ++ (bs ++ c.bs), us := us1 ++ (us ++ c.us) } He (plus L D) δ3 σ3 ∧ ES κ { c with bs := bs ++ c.bs, us := us ++ c.us } He (plus L D) δ σ ∧ Ext H He ∧ He D = some (.lst acc') ∧ RpA κ.K (hide (oor c.P (plus L D)) He) accD' acc' ∧ accD'.length ≤ accD.length + j ∧
          lcL g1 tt1 te (wipeD δ3 vs1) (fun acc' => lc2L g tt ti1 g1 tt1 te (wipeD δ vs) vs1 (fun acc => R (.p (.list acc))) (ds.drop (i + 1)) acc') (ds1.drop j) accD',
        ⟨ds1.length, by omega, accD, acc, ((s3.on x3).on x4).more kb1, s.on x234, xc.trans x234, x234.lst eD, ra.ext (x234.hide _), Nat.le_refl _, h6⟩, fun j n He ⟨em1, accD', acc', t3, t, xe, eD', ra', hlen, hh1⟩ => ?_⟩
      obtain ⟨t4, kb3⟩ := ES.less (c := { c with bs := bs ++ c.bs, us := us ++ c.us }) hl1 t3
      by_cases hj : j < ds1.length
      · rw [List.drop_eq_getElem_cons hj] at hh1
        refine .inr ⟨itk1.go He _ j t4.dom kb3 hj, fun H' => ∃ accD' acc', ES κ { c with bs := bs1 ++ (bs ++ c.bs), us := us1 ++ (us ++ c.us) } H' (plus L D) δ3 σ3 ∧ ES κ { c with bs := bs ++ c.bs, us := us ++ c.us } H' (plus L D) δ σ ∧ Ext H H' ∧ H' D = some (.lst acc') ∧ RpA κ.K (hide (oor c.P (plus L D)) H') accD' acc' ∧ accD'.length ≤ accD.length + (j + 1) ∧
            lcL g1 tt1 te (wipeD δ3 vs1) (fun acc' => lc2L g tt ti1 g1 tt1 te (wipeD δ vs) vs1 (fun acc => R (.p (.list acc))) (ds.drop (i + 1)) acc') (ds1.drop (j + 1)) accD',
          fun H' ⟨accD', acc', a1, a2, a3, a4, a5, a6, a7⟩ => ⟨n - 1, by omega, by omega, accD', acc', a1, a2, a3, a4, a5, a6, a7⟩, fun x' H5 hy' => ?_⟩
        obtain ⟨y', ey', x5, ry'⟩ := itk1.yld He _ j x' H5 t4.dom kb3 hj hy'
        rw [List.getElem?_eq_getElem hj] at ey'
        cases ey'
        refine ⟨.p ds1[j], wipeD δ3 vs1, _, _, _, (t3.on x5).wipe vs1, ry', hh1, fun δ4 σ4 s4 ew' h7 => ⟨?_, ⟨δ4, _, _, _, s4, h7, fun b H6 x6 h8 => ?_⟩⟩⟩
        · rw [ew', wipe_two vs1 σ3 fun _ h => h]
        have x56 := x5.trans x6
        cases b with
        | false => exact ⟨accD', acc', t3.on x56, t.on x56, xe.trans x56, x56.lst eD', ra'.ext (x56.hide _), Nat.le_succ_of_le hlen, h8⟩
        | true =>
          show up κ te σ4 H6 _
          refine ⟨δ4, _, _, _, s4.on x6, h8, fun v H7 d x7 r7 h9 => ?_⟩
          obtain ⟨z, rfl, h10⟩ := asP_of h9
          have xx := x5.trans (x6.trans x7)
          refine ⟨acc', xx.lst eD', by rw [← ra'.len]; omega, accD' ++ [z], acc' ++ [v], ES.put_free (t3.on xx) no plus_at H0D, fresh (t.on xx), fun a o e => ?_, upd_same, ?_, by rw [List.length_append, List.length_singleton]; omega, h10⟩
          · rw [upd_ne (ne_of_none e HD)]
            exact (xe.trans xx) a o e
          · rw [hide_same oor_plus]
            exact RpA.app (ra'.ext (xx.hide _)) ⟨v, [], rfl, r7, rfl⟩
      · rw [List.drop_eq_nil_of_le (show ds1.length ≤ j by omega)] at hh1
        exact .inl ⟨itk1.stop He _ j t4.dom kb3 (by omega), accD', acc', t, xe, eD', ra', hh1⟩
  · rw [List.drop_eq_nil_of_le (by omega)] at hh
    refine .inl ⟨itk.stop Hc _ i s2.dom kb2 (by omega), k (.ref D) Hc (.p (.list accD)) xc ⟨D, acc, rfl, ?_, ra.ext (hide_less Hc hsub)⟩ hh⟩
    rw [hide_at (by unfold oor; rw [PD, LD]; rfl)]
    exact eD
section
variable {X : Cx} {elt tg iter tg1 iter1 : Expr} {ifs ifs1 : List Expr} {scope : Scope} {own : List (Str × Nat)} {vs1 : List Nat} {pos : Pos} {ti ti1 : TDI} {g g1 : TDG} {tt tt1 : TB} {te : TD}
theorem de_lc2 (hc : X.calm = true) (hN : X.N.Nodup) (hi : PI X tg iter (upI (Cx.ky X) ti)) (ok : BlkOk X.N X.env.scope scope own) (hv : ∀ i ∈ vs1, i ∈ own.map (·.2))
    (hg : ∀ (s : Shared) (H : Hp) (C : Addr) (cl : List (Str × Addr)) (fp : List Addr), PG (X.blk s H scope (compEnvC scope cl C X.env) fp) tg (upG (Cx.ky X) (own.map (·.2)) g)) (ht : ∀ (s : Shared) (H : Hp) (C : Addr) (cl : List (Str × Addr)) (fp : List Addr), PTs (X.blk s H scope (compEnvC scope cl C X.env) fp) ifs (upT (Cx.ky X) tt))
    (hi1 : ∀ (s : Shared) (H : Hp) (C : Addr) (cl : List (Str × Addr)) (fp : List Addr), PI (X.blk s H scope (compEnvC scope cl C X.env) fp) tg1 iter1 (upI (Cx.ky X) ti1))
    (hg1 : ∀ (s : Shared) (H : Hp) (C : Addr) (cl : List (Str × Addr)) (fp : List Addr), PG (X.blk s H scope (compEnvC scope cl C X.env) fp) tg1 (upG (Cx.ky X) vs1 g1)) (ht1 : ∀ (s : Shared) (H : Hp) (C : Addr) (cl : List (Str × Addr)) (fp : List Addr), PTs (X.blk s H scope (compEnvC scope cl C X.env) fp) ifs1 (upT (Cx.ky X) tt1))
    (he : ∀ (s : Shared) (H : Hp) (C : Addr) (cl : List (Str × Addr)) (fp : List Addr), PE (X.blk s H scope (compEnvC scope cl C X.env) fp) elt (up (Cx.ky X) te)) (hs : ∀ x, foldedSetIterable iter X.env x = pure x := by intro _; rfl) (hs1 : ∀ env x, foldedSetIterable iter1 env x = pure x := by intro _ _; rfl) :
    PE X (.ListComp elt [⟨tg, iter, ifs, 0⟩, ⟨tg1, iter1, ifs1, 0⟩] scope pos) (up (Cx.ky X) (dLc2 ti g tt ti1 g1 tt1 te (own.map (·.2)) vs1)) := PE.imp (pe_lc2 hc hN hi ok hv hg ht hi1 hg1 ht1 he hs hs1) fun _ _ _ h => up_lc2 h
end
end MR

/-! Set comprehensions with two for: the model's loops. -/
namespace MR
open PySem PySem.Spec PyProof.Rows L2 PpSet
abbrev sc2 (elt t0 i0 t1 i1 : Expr) (c0 c1 : List Expr) (scope : Scope) (pos : Pos) : Expr := .SetComp elt [⟨t0, i0, c0, 0⟩, ⟨t1, i1, c1, 0⟩] scope pos
theorem turnS_out (elt t0 i0 t1 i1 : Expr) (c0 c1 : List Expr) (scope : Scope) (pos : Pos) (it acc : Value) (env : Env) : compTurn (sc2 elt t0 i0 t1 i1 c0 c1 scope pos) 0 it acc env = (do
    standAt i0.pos
    match ← pyNext it with
    | none => pure (.done .next)
    | some v =>
      letOwnedTupleGo t0 it v
      assign t0 env v
      let mut ok := true
      for c in c0 do
        if ok then ok ← isTrue c env (eval c env)
      if ok then
        let x ← eval i1 env
        standAt i1.pos
        let x ← foldedSetIterable i1 env x
        let _ ← runOwn (.compStart (sc2 elt t0 i0 t1 i1 c0 c1 scope pos) 1 (← holding [x] (pyIter x)) acc env) env
      again (.compLoop (sc2 elt t0 i0 t1 i1 c0 c1 scope pos) 0 it acc env)) := by rfl
theorem turnS_in (elt t0 i0 t1 i1 : Expr) (c0 c1 : List Expr) (scope : Scope) (pos : Pos) (it acc : Value) (env : Env) : compTurn (sc2 elt t0 i0 t1 i1 c0 c1 scope pos) 1 it acc env = (do
    standAt i1.pos
    match ← pyNext it with
    | none => pure (.done .next)
    | some v =>
      letOwnedTupleGo t1 it v
      assign t1 env v
      let mut ok := true
      for c in c1 do
        if ok then ok ← isTrue c env (eval c env)
      if ok then
        (do let v ← eval elt env; standAt elt.pos; let _ ← call (.builtin "set.add") [acc, v])
      again (.compLoop (sc2 elt t0 i0 t1 i1 c0 c1 scope pos) 1 it acc env)) := by rfl
section
variable {prog : Program} {w : World} {A : Around} {R : Result → Shared → Prop} {s : Shared} {elt t0 i0 t1 i1 : Expr} {c0 c1 : List Expr} {scope : Scope} {pos : Pos} {it acc : Value} {env : Env}
abbrev nb (prog : Program) (w : World) (A : Around) (env : Env) (R : Result → Shared → Prop) : Value → Shared → Prop := notedBy (model prog w) A env fun e s' => R (.error e) s'
abbrev testsC (cs : List Expr) (env : Env) : Sem Bool := forIn cs true fun c r => if r = true then do let ok ← isTrue c env (eval c env); pure (ForInStep.yield ok) else pure (ForInStep.yield r)
theorem loopS_out (hs : ∀ x, foldedSetIterable i1 env x = pure x) (I : Nat → Shared → Prop)
    (turn : ∀ n s, I n s → wpAny (model prog w) A (pyNext it) (fun r s₁ => match r with
      | none => R (.ok .next) s₁
      | some v => wpAny (model prog w) A (letOwnedTupleGo t0 it v) (fun _ s₂ => wpAny (model prog w) A (assign t0 env v) (fun _ s₃ => wpAny (model prog w) A (testsC c0 env) (fun ok s₄ =>
            if ok = true then wpAny (model prog w) A (eval i1 env) (fun x s₅ => wpAny (model prog w) A (pyIter x) (fun it1 s₆ => codeAny (model prog w) A (.compStart (sc2 elt t0 i0 t1 i1 c0 c1 scope pos) 1 it1 acc env) (fun r z => match r with
                | .ok _ => ∃ m, m < n ∧ I m z
                | .error _ => False) s₆) (nb prog w A env R) s₅) (nb prog w A env R) s₄
            else ∃ m, m < n ∧ I m s₄) (nb prog w A env R) s₃) (nb prog w A env R) s₂) (nb prog w A env R) s₁) (nb prog w A env R) s)
    (n : Nat) (h : I n s) : codeAny (model prog w) A (.compLoop (sc2 elt t0 i0 t1 i1 c0 c1 scope pos) 0 it acc env) R s := by
  refine codeAny_loop rfl I (fun n s hI => ?_) n h
  show wpAny _ A ((compTurn (sc2 elt t0 i0 t1 i1 c0 c1 scope pos) 0 it acc env).onRaise (fun x => do noteFrame x env; theTreesLotGoes x)) _ _ s
  refine wpAny_noted ?_
  rw [turnS_out]
  refine wpAny_bind (wpAny_standAt (wpAny_bind (wpAny_mono (turn n s hI) (fun r s₁ k₁ => ?_) fun _ _ q => q)))
  cases r with
  | none => exact wpAny_pure k₁
  | some v =>
    refine wpAny_bind (wpAny_mono k₁ (fun _ s₂ k₂ => wpAny_bind (wpAny_mono k₂ (fun _ s₃ k₃ => wpAny_bind (wpAny_mono k₃ (fun ok s₄ k₄ => ?_) fun _ _ q => q)) fun _ _ q => q)) fun _ _ q => q)
    cases ok with
    | false => exact wpAny_pure ⟨rfl, k₄⟩
    | true =>
      refine wpAny_bind (wpAny_mono k₄ (fun x s₅ k₅ => wpAny_bind (wpAny_standAt (wpAny_bind (wpAny_of_eq (hs x) (wpAny_bind (wpAny_holding (wpAny_mono k₅ (fun it1 s₆ k₆ => ?_) fun _ _ q => q))))))) fun _ _ q => q)
      refine wpAny_bind (wpAny_runOwn ?_)
      rw [Around.mark_none]
      refine codeAny_mono k₆ fun r z hr => ?_
      cases r with
      | error e => exact hr.elim
      | ok f =>
        first
          | exact wpAny_pure ⟨rfl, hr⟩
          | exact wpAny_bind (wpAny_pure (wpAny_pure ⟨rfl, hr⟩))
theorem loopS_in (I : Nat → Shared → Prop)
    (turn : ∀ n s, I n s → wpAny (model prog w) A (pyNext it) (fun r s₁ => match r with
      | none => R (.ok .next) s₁
      | some v => wpAny (model prog w) A (letOwnedTupleGo t1 it v) (fun _ s₂ => wpAny (model prog w) A (assign t1 env v) (fun _ s₃ => wpAny (model prog w) A (testsC c1 env) (fun ok s₄ =>
            if ok = true then wpAny (model prog w) A (eval elt env) (fun x s₅ => wpAny (model prog w) A (call (.builtin "set.add") [acc, x]) (fun _ s₆ => ∃ m, m < n ∧ I m s₆) (nb prog w A env R) s₅) (nb prog w A env R) s₄
            else ∃ m, m < n ∧ I m s₄) (nb prog w A env R) s₃) (nb prog w A env R) s₂) (nb prog w A env R) s₁) (nb prog w A env R) s)
    (n : Nat) (h : I n s) : codeAny (model prog w) A (.compLoop (sc2 elt t0 i0 t1 i1 c0 c1 scope pos) 1 it acc env) R s := by
  refine codeAny_loop rfl I (fun n s hI => ?_) n h
  show wpAny _ A ((compTurn (sc2 elt t0 i0 t1 i1 c0 c1 scope pos) 1 it acc env).onRaise (fun x => do noteFrame x env; theTreesLotGoes x)) _ _ s
  refine wpAny_noted ?_
  rw [turnS_in]
  refine wpAny_bind (wpAny_standAt (wpAny_bind (wpAny_mono (turn n s hI) (fun r s₁ k₁ => ?_) fun _ _ q => q)))
  cases r with
  | none => exact wpAny_pure k₁
  | some v =>
    refine wpAny_bind (wpAny_mono k₁ (fun _ s₂ k₂ => wpAny_bind (wpAny_mono k₂ (fun _ s₃ k₃ => wpAny_bind (wpAny_mono k₃ (fun ok s₄ k₄ => ?_) fun _ _ q => q)) fun _ _ q => q)) fun _ _ q => q)
    cases ok with
    | false => exact wpAny_pure ⟨rfl, k₄⟩
    | true => exact wpAny_bind (wpAny_bind (wpAny_mono k₄ (fun x s₅ k₅ => wpAny_bind (wpAny_standAt (wpAny_bind (wpAny_mono k₅ (fun _ s₆ k₆ => wpAny_pure (wpAny_pure ⟨rfl, k₆⟩)) fun _ _ q => q)))) fun _ _ q => q))
theorem startS_1 (h0 : codeAny (model prog w) A (.compLoop (sc2 elt t0 i0 t1 i1 c0 c1 scope pos) 1 it acc env) R s)
    (h : wpAny (model prog w) A (pyIter it) (fun jt z => codeAny (model prog w) A (.compLoop (sc2 elt t0 i0 t1 i1 c0 c1 scope pos) 1 jt acc env) R z) (nb prog w A env R) s) : codeAny (model prog w) A (.compStart (sc2 elt t0 i0 t1 i1 c0 c1 scope pos) 1 it acc env) R s := by
  refine codeAny_of_tree ?_
  show wpAny _ _ ((compStart (sc2 elt t0 i0 t1 i1 c0 c1 scope pos) 1 it acc env).onRaise (fun x => do noteFrame x env; standAt theWindowsPlace)) _ _ s
  refine wpAny_notedAt ?_
  unfold compStart
  refine wpAny_bind (m := ask) (wpAny_askSetting (wpAny_ite ?_))
  split
  · first
      | exact wpAny_bind (wpAny_pure (wpAny_pure (And.intro rfl h0)))
      | exact wpAny_pure (And.intro rfl h0)
  · first
      | exact wpAny_bind (wpAny_rule (wpAny_bind (wpAny_standAt (wpAny_bind (wpAny_mono h (fun jt z q => wpAny_pure (And.intro rfl q)) fun _ _ x => x)))))
      | (refine wpAny_bind (wpAny_rule ?_); show wpAny _ _ (standAt i1.pos >>= _) _ _ s; exact wpAny_bind (wpAny_standAt (wpAny_bind (wpAny_mono h (fun jt z q => wpAny_pure (And.intro rfl q)) fun _ _ x => x))))
end
end MR

/-! Set comprehensions with two for, into any sort of set. -/
namespace MR
open PySem PySem.Spec PyProof.Rows L2 PpSet
section
variable {X : Cx} {T I : Type} {obj : Addr → T → HO} {ok : T → I → V → Hp → Prop} {nx : T → I → V → T → Prop} {z0 : T}
def tScG2 (obj : Addr → T → HO) (ok : T → I → V → Hp → Prop) (nx : T → I → V → T → Prop) (z0 : T) (wi : TI) (g : TG) (tt : TT) (wi1 : TI) (g1 : TG) (tt1 : TT) (te : TE) (vs vs1 : List Nat) : TE := fun σ H Q => wi σ H fun J H1 => ∀ D, H1 D = none → ∃ W : Nat → Nat → Hp → Prop, (∃ m, W 0 m (upd H1 D (obj D z0))) ∧ ∀ i m H, W i m H →
  (J.stop i H ∧ Q (.ref D) H) ∨ (J.go i H ∧ ∃ N : Hp → Prop, (∀ H', N H' → ∃ m', m' < m ∧ W (i + 1) m' H') ∧ ∀ x H', J.yld i H x H' → g x (wipe σ vs) H' fun σ2 H2 => wipe σ2 vs = wipe σ vs ∧ tt σ2 H2 fun b H3 =>
    if b = true then wi1 σ2 H3 fun J1 H4 => ∃ W1 : Nat → Nat → Hp → Prop, (∃ m, W1 0 m H4) ∧ ∀ j k H, W1 j k H →
      (J1.stop j H ∧ N H) ∨ (J1.go j H ∧ ∃ N1 : Hp → Prop, (∀ H', N1 H' → ∃ k', k' < k ∧ W1 (j + 1) k' H') ∧ ∀ x H', J1.yld j H x H' → g1 x (wipe σ2 vs1) H' fun σ3 H5 => wipe σ3 vs1 = wipe σ2 vs1 ∧ tt1 σ3 H5 fun b H6 =>
        if b = true then te σ3 H6 fun y H7 => ∃ z j, H7 D = some (obj D z) ∧ ok z j y H7 ∧ ∀ z', nx z j y z' → N1 (upd H7 D (obj D z')) else N1 H6)
    else N H3)
theorem pe_scG2 {elt tg iter tg1 iter1 : Expr} {ifs ifs1 : List Expr} {scope : Scope} {own : List (PySem.Str × Nat)} {vs1 : List Nat} {pos : Pos} {wi wi1 : TI} {g g1 : TG} {tt tt1 : TT} {te : TE} (hc : X.calm = true) (hN : X.N.Nodup) (hi : PI X tg iter wi) (blk : BlkOk X.N X.env.scope scope own) (hv : ∀ i ∈ vs1, i ∈ own.map (·.2))
    (hg : ∀ (s : Shared) (H : Hp) (C : Addr) (cl : List (PySem.Str × Addr)) (fp : List Addr), PG (X.blk s H scope (compEnvC scope cl C X.env) fp) tg g) (ht : ∀ (s : Shared) (H : Hp) (C : Addr) (cl : List (PySem.Str × Addr)) (fp : List Addr), PTs (X.blk s H scope (compEnvC scope cl C X.env) fp) ifs tt)
    (hi1 : ∀ (s : Shared) (H : Hp) (C : Addr) (cl : List (PySem.Str × Addr)) (fp : List Addr), PI (X.blk s H scope (compEnvC scope cl C X.env) fp) tg1 iter1 wi1)
    (hg1 : ∀ (s : Shared) (H : Hp) (C : Addr) (cl : List (PySem.Str × Addr)) (fp : List Addr), PG (X.blk s H scope (compEnvC scope cl C X.env) fp) tg1 g1) (ht1 : ∀ (s : Shared) (H : Hp) (C : Addr) (cl : List (PySem.Str × Addr)) (fp : List Addr), PTs (X.blk s H scope (compEnvC scope cl C X.env) fp) ifs1 tt1)
    (he : ∀ (s : Shared) (H : Hp) (C : Addr) (cl : List (PySem.Str × Addr)) (fp : List Addr), PE (X.blk s H scope (compEnvC scope cl C X.env) fp) elt te) (born : ∀ D, Born X (obj D z0) D)
    (adds : ∀ (s : Shared) (H : Hp) (C : Addr) (cl : List (PySem.Str × Addr)) (fp : List Addr), Adds (X.blk s H scope (compEnvC scope cl C X.env) fp) obj ok nx) (hs : ∀ x, foldedSetIterable iter X.env x = pure x := by intro _; rfl) (hs1 : ∀ env x, foldedSetIterable iter1 env x = pure x := by intro _ _; rfl) :
    PE X (sc2 elt tg iter tg1 iter1 ifs ifs1 scope pos) (tScG2 obj ok nx z0 wi g tt wi1 g1 tt1 te (own.map (·.2)) vs1) := by
  refine ⟨fun pins s σ H Q I1 h => ?_⟩
  rw [eval_SetComp]
  have free : ∀ y ∈ scope.names, y.2 = .free → ∃ c, X.env.cells.lookup y.1 = some c := fun y hy e => (blk.free y hy e).elim (fun q => I1.ok.has _ (.inl q)) fun q => I1.ok.has _ (.inr q)
  refine wpAny_comprehension_free (use := none) rfl hs (closure_ok free) blk.kind (fun y hy e => by rw [blk.uniq y hy, e]) (thn (hi.run pins s σ H _ I1 h) fun xv s1 hx => thn hx fun itv s2 h2 => ?_)
  obtain ⟨it, fp, tn, J, H2, rfl, I2, W, st2, f2, q⟩ := h2
  refine newSet_ok (newEnv_comp ?_)
  generalize hD : s2.heap.objs.size = D
  have nD : H2 D = none := I2.hok.fresh (Nat.le_of_eq hD)
  obtain ⟨V, ⟨m0, v0⟩, turn⟩ := q D nD
  generalize hs3 : ({ s2 with heap := s2.heap.push { cls := .type "set", dict := none, data := .set #[] 0 (.fresh 0 0 (!X.w.params.followText "set-order")) } } : Shared) = s3
  have h3 : s3.heap = s2.heap.push (newSetObj X.w) := by rw [← hs3]; rfl
  have I3 : Inv X pins σ (upd H2 D (obj D z0)) s3 := by
    rw [← hs3]
    exact I2.laid (t' := s2.toks) (fun b o e => Heap.get?_push_of_some _ e) (Nat.le_of_eq hD) (born D _ _ (by rw [← hD]; exact Heap.get?_push_size _ rfl))
  have old : ∀ b ∈ fp, b < s2.heap.objs.size := fun b hb => let ⟨_, e, _⟩ := W.obj _ _ st2 b hb; Heap.lt_size e
  have f3 : ∀ b ∈ fp, FpOk X pins (upd H2 D (obj D z0)) b ∧ b < s3.heap.objs.size := fun b hb => by
    refine ⟨⟨?_, (f2 b hb).2⟩, by rw [h3, Heap.size_push]; exact Nat.lt_succ_of_lt (old b hb)⟩
    rw [upd_ne (by rw [← hD]; exact Nat.ne_of_lt (old b hb))]
    exact (f2 b hb).1
  have st3 : tn 0 s3.heap := W.keep _ _ _ st2 fun b _ o e => by rw [h3]; exact Heap.get?_push_of_some _ e
  have I4 := block_start I3 blk hN f3
  generalize hcl : cellsFrom (s3.heap.objs.size + 1) scope.names (cloFrom X.env.cells scope.names []) = cl at I4
  have pg := hg s3 (upd H2 D (obj D z0)) s3.heap.objs.size cl fp
  have pt := ht s3 (upd H2 D (obj D z0)) s3.heap.objs.size cl fp
  have pe := he s3 (upd H2 D (obj D z0)) s3.heap.objs.size cl fp
  have pi1 := hi1 s3 (upd H2 D (obj D z0)) s3.heap.objs.size cl fp
  have pg1 := hg1 s3 (upd H2 D (obj D z0)) s3.heap.objs.size cl fp
  have pt1 := ht1 s3 (upd H2 D (obj D z0)) s3.heap.objs.size cl fp
  have ad := adds s3 (upd H2 D (obj D z0)) s3.heap.objs.size cl fp
  have nfp : ∀ b ∈ fp, (upd H2 D (obj D z0)) b = none := fun b hb => (f3 b hb).1.1
  show codeAny _ _ (.compStart (sc2 elt tg iter tg1 iter1 ifs ifs1 scope pos) 0 (.ref it) (.ref D) (compEnvC scope cl s3.heap.objs.size X.env)) (compPost (model X.prog X.w) X.A X.xe none _ (.ref D) s3.heap.objs.size) { s3 with heap := pushCells (s3.heap.push { cls := .type "dict", data := .dict #[] }) scope.names }
  generalize hce : compEnvC scope cl s3.heap.objs.size X.env = ce at I4 pg pt pe pi1 pg1 pt1 ad ⊢
  have cL : ce.locals = s3.heap.objs.size := by subst hce; rfl
  generalize hH3 : upd H2 D (obj D z0) = H3 at I3 I4 pg pt pe pi1 pg1 pt1 ad v0 nfp f3
  generalize hs4 : ({ s3 with heap := pushCells (s3.heap.push { cls := .type "dict", data := .dict #[] }) scope.names } : Shared) = s4 at I4 ⊢
  have st4 : tn 0 s4.heap := W.keep _ _ _ st3 fun b _ o e => by rw [← hs4]; exact pushCells_keeps _ _ _ _ (Heap.get?_push_of_some _ e)
  have stays : ∀ {σ' : Sg} {H' : Hp} {s' : Shared}, Inv (X.blk s3 H3 scope ce fp) [] σ' H' s' → (∀ b ∈ fp, H' b = none) → ∀ b ∈ fp, FpOk (X.blk s3 H3 scope ce fp) [] H' b := fun {σ' H' s'} I' hn b hb =>
    ⟨hn b hb, (I'.ok.exf b hb).1, I'.ok.exfs b hb, .inl hb, fun x c e => (I'.ok.exf b hb).2 x c e, fun p hp => absurd (show p ∈ ([] : List (Addr × Obj)) ++ [] from hp) (by rw [List.append_nil]; exact List.not_mem_nil)⟩
  have loop : codeAny (model X.prog X.w) X.A (.compLoop (sc2 elt tg iter tg1 iter1 ifs ifs1 scope pos) 0 (.ref it) (.ref D) ce) (compPost (model X.prog X.w) X.A X.xe none (EP X pins σ Q) (.ref D) s3.heap.objs.size) s4 := by
    refine loopS_out (hs1 ce) (fun n s' => ∃ i H', Inv (X.blk s3 H3 scope ce fp) [] (L2.wipe σ (own.map (·.2))) H' s' ∧ tn i s'.heap ∧ (∀ b ∈ fp, H' b = none) ∧ V i n H') ?_ m0 ⟨0, H3, I4, st4, nfp, v0⟩
    rintro n s5 ⟨i, H5, I5, st5, n5, v5⟩
    rcases turn i n H5 v5 with ⟨stop, fin⟩ | ⟨go, N, hN2, step⟩
    · refine thnF (W.done (X.blk s3 H3 scope ce fp) rfl rfl rfl hc i [] s5 _ H5 (fun _ _ => False) I5 (stays I5 n5) st5 stop) fun r s6 ⟨hr, I6⟩ => ?_
      subst hr
      have I7 : Inv X pins σ H5 s6 := I3.call' (ch := fp) I6.os I6.base I6.hok I6.bare fun b hb => ⟨(f3 b hb).1.2.2.2.1, (f3 b hb).1.2.1, (f3 b hb).1.2.2.2.2.1, (f3 b hb).1.2.2.2.2.2⟩
      have nC : H5 s3.heap.objs.size = none := by rw [← cL]; exact I6.free
      obtain ⟨m, hn, _⟩ := I6.loc
      have hn2 : s6.heap.Ns s3.heap.objs.size m := by rw [← cL]; exact hn
      refine ⟨m, hn2, fun h2 sb => ?_⟩
      obtain ⟨a0, a1, a2, a3, a4, a5⟩ := I3.fpOk (Nat.le_refl _) nC
      exact ⟨.ref D, H5, I7.turned (t' := s6.toks) (fun b o hb e => (sb.2 b hb).trans e) a0 a1 a3 a4 a5, rfl, fin⟩
    · refine thnF (W.item (X.blk s3 H3 scope ce fp) rfl rfl rfl hc i [] s5 _ H5 (fun _ _ => False) I5 (stays I5 n5) st5 go) fun r s6 ⟨u, hr, h6⟩ => ?_
      subst hr
      refine thnF h6 fun _ s7 ⟨x, H7, I7, r7, y7, st7, n7⟩ => ?_
      have J7 := I7.pinned (stays I7 n7) (W.obj _ _ st7)
      refine thnF (pg.run _ s7 _ H7 x u _ J7 r7 (step x H7 y7)) fun _ s8 ⟨σ8, H8, I8, w8, q8⟩ => ?_
      refine thnF (pt.run _ s8 σ8 H8 _ I8 q8) fun b s9 ⟨H9, I9, q9⟩ => ?_
      have close : ∀ {σ9 : Sg} {s' : Shared} {H' : Hp}, Inv (X.blk s3 H3 scope ce fp) ([] ++ pinsAt fp s7.heap) σ9 H' s' → (L2.wipe σ (own.map (·.2))).length = σ9.length → (∀ (j : Nat) v, (L2.wipe σ (own.map (·.2)))[j]? = some (some v) → σ9[j]? = some (some v)) → N H' →
          ∃ m, m < n ∧ ∃ i H', Inv (X.blk s3 H3 scope ce fp) [] (L2.wipe σ (own.map (·.2))) H' s' ∧ tn i s'.heap ∧ (∀ b ∈ fp, H' b = none) ∧ V i m H' := fun {σ9 s' H'} I' len know nH => by
        obtain ⟨m', hm, v'⟩ := hN2 H' nH
        have pin : ∀ b ∈ fp, ∀ o, s7.heap.get? b = some o → s'.heap.get? b = some o ∧ H' b = none := fun b hb o e =>
          have z := I'.pin (b, o) (List.mem_append_right _ (List.mem_append_right _ (mem_pinsAt hb e)))
          ⟨z.1, z.2.1⟩
        refine ⟨m', hm, i + 1, H', (I'.unpinned (pins := [])).weak len know, W.keep _ _ _ st7 fun b hb o e => (pin b hb o e).1, fun b hb => ?_, v'⟩
        obtain ⟨o, e, _⟩ := W.obj _ _ st7 b hb
        exact (pin b hb o e).2
      have len8 : (L2.wipe σ (own.map (·.2))).length = σ8.length := by rw [← w8, wipe_length]
      have know8 : ∀ (j : Nat) v, (L2.wipe σ (own.map (·.2)))[j]? = some (some v) → σ8[j]? = some (some v) := fun j v e => by
        rw [← w8] at e
        exact (wipe_some e).1
      have know9 : ∀ (j : Nat) v, (L2.wipe σ (own.map (·.2)))[j]? = some (some v) → (L2.wipe σ8 vs1)[j]? = some (some v) := fun j v e => by
        rw [← w8] at e
        obtain ⟨e1, e2⟩ := wipe_some e
        rw [wipe_out fun z => e2 (hv j z)]
        exact e1
      cases b with
      | false =>
        simp only [Bool.false_eq_true, if_false] at q9 ⊢
        exact close I9 len8 know8 q9
      | true =>
        simp only [if_true] at q9 ⊢
        refine thnF (pi1.run _ s9 σ8 H9 _ I9 q9) fun xv s10 hx => thnF hx fun itv s11 h11 => ?_
        obtain ⟨it1, fp1, tn1, J1, H11, rfl, I11, W1, st11, f11, V1, ⟨m1, v1⟩, turn1⟩ := h11
        have stays1 : ∀ {H' : Hp}, (∀ b ∈ fp1, H' b = none) → ∀ b ∈ fp1, FpOk (X.blk s3 H3 scope ce fp) ([] ++ pinsAt fp s7.heap) H' b := fun hn b hb => ⟨hn b hb, (f11 b hb).2⟩
        have loop1 : codeAny (model X.prog X.w) X.A (.compLoop (sc2 elt tg iter tg1 iter1 ifs ifs1 scope pos) 1 (.ref it1) (.ref D) ce) (fun r s' => match r with
              | .ok _ => ∃ m, m < n ∧ ∃ i H', Inv (X.blk s3 H3 scope ce fp) [] (L2.wipe σ (own.map (·.2))) H' s' ∧ tn i s'.heap ∧ (∀ b ∈ fp, H' b = none) ∧ V i m H'
              | .error _ => False) s11 := by
          refine loopS_in (fun k s' => ∃ j H', Inv (X.blk s3 H3 scope ce fp) ([] ++ pinsAt fp s7.heap) (L2.wipe σ8 vs1) H' s' ∧ tn1 j s'.heap ∧ (∀ b ∈ fp1, H' b = none) ∧ V1 j k H') ?_ m1 ⟨0, H11, I11.weak (wipe_length _ _) (fun j v e => (wipe_some e).1), st11, fun b hb => (f11 b hb).1, v1⟩
          rintro k s12 ⟨j, H12, I12, st12, n12, v12⟩
          rcases turn1 j k H12 v12 with ⟨stop1, fin1⟩ | ⟨go1, N1, hN1, step1⟩
          · refine thnF (W1.done (X.blk s3 H3 scope ce fp) rfl rfl rfl hc j _ s12 (L2.wipe σ8 vs1) H12 (fun _ _ => False) I12 (stays1 n12) st12 stop1) fun r s13 ⟨hr, I13⟩ => ?_
            subst hr
            exact close I13 (len8.trans (wipe_length σ8 vs1).symm) know9 fin1
          · refine thnF (W1.item (X.blk s3 H3 scope ce fp) rfl rfl rfl hc j _ s12 (L2.wipe σ8 vs1) H12 (fun _ _ => False) I12 (stays1 n12) st12 go1) fun r s13 ⟨u1, hr, h13⟩ => ?_
            subst hr
            refine thnF h13 fun _ s14 ⟨x1, H14, I14, r14, y14, st14, n14⟩ => ?_
            have J14 := I14.pinned (stays1 n14) (W1.obj _ _ st14)
            refine thnF (pg1.run _ s14 (L2.wipe σ8 vs1) H14 x1 u1 _ J14 r14 (step1 x1 H14 y14)) fun _ s15 ⟨σ15, H15, I15, w15, q15⟩ => ?_
            refine thnF (pt1.run _ s15 σ15 H15 _ I15 q15) fun b1 s16 ⟨H16, I16, q16⟩ => ?_
            have close1 : ∀ {s' : Shared} {H' : Hp}, Inv (X.blk s3 H3 scope ce fp) (([] ++ pinsAt fp s7.heap) ++ pinsAt fp1 s14.heap) σ15 H' s' → N1 H' → ∃ m, m < k ∧ ∃ j H', Inv (X.blk s3 H3 scope ce fp) ([] ++ pinsAt fp s7.heap) (L2.wipe σ8 vs1) H' s' ∧ tn1 j s'.heap ∧ (∀ b ∈ fp1, H' b = none) ∧ V1 j m H' := fun {s' H'} I' nH => by
              obtain ⟨m', hm, v'⟩ := hN1 H' nH
              have pin : ∀ b ∈ fp1, ∀ o, s14.heap.get? b = some o → s'.heap.get? b = some o ∧ H' b = none := fun b hb o e =>
                have z := I'.pin (b, o) (List.mem_append_right _ (List.mem_append_right _ (mem_pinsAt hb e)))
                ⟨z.1, z.2.1⟩
              refine ⟨m', hm, j + 1, H', I'.unpinned.weak (by rw [← w15, wipe_length]) (fun j v e => by rw [← w15] at e; exact (wipe_some e).1), W1.keep _ _ _ st14 fun b hb o e => (pin b hb o e).1, fun b hb => ?_, v'⟩
              obtain ⟨o, e, _⟩ := W1.obj _ _ st14 b hb
              exact (pin b hb o e).2
            cases b1 with
            | false =>
              simp only [Bool.false_eq_true, if_false] at q16 ⊢
              exact close1 I16 q16
            | true =>
              simp only [if_true] at q16 ⊢
              refine thnF (pe.run _ s16 σ15 H16 _ I16 q16) fun u2 s17 ⟨y, H17, I17, r17, z, jj, hz, okz, nxz⟩ => ?_
              exact ad _ _ _ _ _ D z jj y u2 _ I17 hz r17 okz fun s18 z' hz' I18 => close1 I18 (nxz z' hz')
        exact startS_1 loop1 (W1.self X.A 0 _ _ _ st11 loop1)
  exact codeAny_compStart_set loop (W.self X.A 0 _ _ _ st4 loop)
end
end MR

/-! Set comprehensions with two for, by data: {key for .. for ..}. -/
namespace MR
open PySem PySem.Spec PyProof.Rows L2
section
variable {I : Type}
def sc2L (enc : I → PyData) (B : Nat) (g : TDG) (tt : TB) (ti1 : TDI) (g1 : TDG) (tt1 : TB) (te : TD) (δ : Dn) (vs1 : List Nat) (fin : List I → Prop) : List PyData → List I → Prop
  | [], acc => fin acc
  | d :: r, acc => g (.p d) δ fun δ2 => tt δ2 fun b => if b = true then noOwn δ2 = true ∧ ti1 δ2 fun ds1 => acc.length + ds1.length < B ∧ scL enc g1 tt1 te (wipeD δ2 vs1) (fun acc' => sc2L enc B g tt ti1 g1 tt1 te δ vs1 fin r acc') ds1 acc else sc2L enc B g tt ti1 g1 tt1 te δ vs1 fin r acc
variable {T : Type} {obj : Addr → T → HO} {ok : T → I → V → Hp → Prop} {nx : T → I → V → T → Prop} {z0 : T} {enc : I → PyData} {Rel : Hp → T → List I → Prop} {B : Nat}
theorem up_scG2 {κ : Ky} {ti ti1 : TDI} {g g1 : TDG} {tt tt1 : TB} {te : TD} {vs vs1 : List Nat} {σ : Sg} {H : Hp} {Q : VK} {δ : Dn} {R : List I → Prop} {c : Sc} {L : Addr → Bool} (nw : ∀ D z, ¬ Well (obj D z)) (rext : ∀ {H H' : Hp} {z acc}, Ext H H' → Rel H z acc → Rel H' z acc) (r0 : ∀ H, Rel H z0 [])
    (rstep : ∀ {P : Addr → Bool} {H : Hp} {z acc j v}, Rp κ.K (hide P H) (enc j) v → Rel (hide P H) z acc → acc.length + 1 < B → ok z j v H ∧ ∀ z', nx z j v z' → Rel (hide P H) z' (acc ++ [j])) (es : ES κ c H L δ σ) (h : ti δ fun ds => sc2L enc B g tt ti1 g1 tt1 te (wipeD δ vs) vs1 R ds [])
    (k : ∀ (D : Addr) (Hc : Hp) (z : T) (acc : List I), Ext H Hc → H D = none → Hc D = some (obj D z) → Rel (hide (oor c.P L) Hc) z acc → R acc → Q (.ref D) Hc) : tScG2 obj ok nx z0 (upI κ ti) (upG κ vs g) (upT κ tt) (upI κ ti1) (upG κ vs1 g1) (upT κ tt1) (up κ te) vs vs1 σ H Q := by
  refine ⟨δ, _, c, L, es, h, fun J H1 ds bs us x1 kb itk h1 D nD => ?_⟩
  have hl := kb.len
  have LD : L D = false := by
    cases q : L D with
    | false => rfl
    | true => exact absurd nD ((es.on x1).ldom D q).1
  have HD : H D = none := x1.none nD
  have H0D : c.H0 D = none := es.ext.none HD
  have hsub : ∀ a, oor c.P L a = true → oor c.P (plus L D) a = true := fun a q => by
    unfold oor at q ⊢
    rw [Bool.or_eq_true] at q ⊢
    exact q.imp id plus_of
  have xD : Ext (hide (oor c.P L) H1) (hide (oor c.P (plus L D)) (upd H1 D (obj D z0))) := xplus (κ := κ) nD
  have ownD : ∀ (i : Nat) (xs : List PyData) (a : Addr), δ[i]? = some (Sl.own xs) → σ[i]? = some (some (V.ref a)) → a ≠ D := fun i xs a e1 e2 e3 => by
    obtain ⟨b, ys, q1, q2, _⟩ := es.own i xs e1
    rw [e2] at q1
    cases q1
    rw [e3, LD] at q2
    cases q2
  have fresh : ∀ {Hc : Hp} {o : HO}, ES κ { c with bs := bs ++ c.bs, us := us ++ c.us } Hc (plus L D) δ σ → ES κ { c with bs := bs ++ c.bs, us := us ++ c.us } (upd Hc D o) (plus L D) δ σ := fun {Hc o} s => by
    have eh : hide (oor c.P (plus L D)) (upd Hc D o) = hide (oor c.P (plus L D)) Hc := hide_same oor_plus
    refine ⟨s.len, fun i d e => ?_, fun i xs e => ?_, s.sep, s.psys, s.pdom, fun a e => ⟨?_, (s.ldom a e).2⟩, fun a o' e => ?_, ?_⟩
    · show ∃ v, _ ∧ Rv κ (hide (oor c.P (plus L D)) (upd Hc D o)) d v
      rw [eh]
      exact s.val i d e
    · obtain ⟨a, ys, q1, q2, q3, q4⟩ := s.own i xs e
      refine ⟨a, ys, q1, q2, by rw [upd_ne (ownD i xs a e q1)]; exact q3, ?_⟩
      show RpA κ.K (hide (oor c.P (plus L D)) (upd Hc D o)) xs ys
      rw [eh]
      exact q4
    · by_cases ha : a = D
      · rw [ha, upd_same]
        exact Option.some_ne_none _
      · rw [upd_ne ha]
        exact (s.ldom a e).1
    · rw [upd_ne (ne_of_none e H0D)]
      exact s.ext a o' e
    · show RvA κ (hide (oor c.P (plus L D)) (upd Hc D o)) _ _
      rw [eh]
      exact s.kept
  have s0 : ES κ { c with bs := bs ++ c.bs, us := us ++ c.us } (upd H1 D (obj D z0)) (plus L D) δ σ := by
    have s := (es.on x1).more kb
    refine ⟨s.len, fun i d e => ?_, fun i xs e => ?_, s.sep, s.psys, s.pdom, fun a e => ?_, s.ext.trans (Ext.new nD), s.kept.ext xD⟩
    · obtain ⟨v, q1, q2⟩ := s.val i d e
      exact ⟨v, q1, q2.ext xD⟩
    · obtain ⟨a, ys, q1, q2, q3, q4⟩ := s.own i xs e
      exact ⟨a, ys, q1, plus_of q2, by rw [upd_ne (ownD i xs a e q1)]; exact q3, q4.ext xD⟩
    · by_cases ha : a = D
      · rw [ha, upd_same]
        exact ⟨Option.some_ne_none _, H0D⟩
      · rw [plus_ne ha] at e
        rw [upd_ne ha]
        exact s.ldom a e
  refine ⟨fun i m Hc => i + m = ds.length ∧ ∃ acc z, ES κ { c with bs := bs ++ c.bs, us := us ++ c.us } Hc (plus L D) δ σ ∧ Ext H Hc ∧ Hc D = some (obj D z) ∧ Rel (hide (oor c.P (plus L D)) Hc) z acc ∧ sc2L enc B g tt ti1 g1 tt1 te (wipeD δ vs) vs1 R (ds.drop i) acc,
    ⟨ds.length, by omega, [], z0, s0, x1.trans (Ext.new nD), upd_same, r0 _, h1⟩, fun i m Hc ⟨em, acc, z, s, xc, eD, ra, hh⟩ => ?_⟩
  obtain ⟨s2, kb2⟩ := s.less hl
  by_cases hi : i < ds.length
  · rw [List.drop_eq_getElem_cons hi] at hh
    refine .inr ⟨itk.go Hc _ i s2.dom kb2 hi, fun H' => ∃ acc z, ES κ { c with bs := bs ++ c.bs, us := us ++ c.us } H' (plus L D) δ σ ∧ Ext H H' ∧ H' D = some (obj D z) ∧ Rel (hide (oor c.P (plus L D)) H') z acc ∧ sc2L enc B g tt ti1 g1 tt1 te (wipeD δ vs) vs1 R (ds.drop (i + 1)) acc,
      fun H' ⟨acc, z, a1, a2, a3, a4, a5⟩ => ⟨m - 1, by omega, by omega, acc, z, a1, a2, a3, a4, a5⟩, fun x H2 hy => ?_⟩
    obtain ⟨y, ey, x2, ry⟩ := itk.yld Hc _ i x H2 s2.dom kb2 hi hy
    rw [List.getElem?_eq_getElem hi] at ey
    cases ey
    refine ⟨.p ds[i], wipeD δ vs, _, _, _, (s.on x2).wipe vs, ry, hh, fun δ3 σ3 s3 ew h3 => ⟨?_, ⟨δ3, _, _, _, s3, h3, fun b H3 x3 h4 => ?_⟩⟩⟩
    · rw [ew, wipe_two vs σ fun _ h => h]
    cases b with
    | false => exact ⟨acc, z, s.on (x2.trans x3), xc.trans (x2.trans x3), ext_keep (x2.trans x3) (nw D z) eD, rext ((x2.trans x3).hide _) ra, h4⟩
    | true =>
      obtain ⟨no, h5⟩ := (show noOwn δ3 = true ∧ _ from h4)
      refine ⟨δ3, _, _, _, s3.on x3, h5, fun J1 H4 ds1 bs1 us1 x4 kb1 itk1 ⟨hz1, h6⟩ => ?_⟩
      have hl1 := kb1.len
      have x234 := x2.trans (x3.trans x4)
      refine ⟨fun j n He => j + n = ds1.length ∧ ∃ acc' z', ES κ { c with bs := bs1 ++ (bs ++ c.bs), us := us1 ++ (us ++ c.us) } He (plus L D) δ3 σ3 ∧ ES κ { c with bs := bs ++ c.bs, us := us ++ c.us } He (plus L D) δ σ ∧ Ext H He ∧ He D = some (obj D z') ∧ Rel (hide (oor c.P (plus L D)) He) z' acc' ∧ acc'.length ≤ acc.length + j ∧
          scL enc g1 tt1 te (wipeD δ3 vs1) (fun acc' => sc2L enc B g tt ti1 g1 tt1 te (wipeD δ vs) vs1 R (ds.drop (i + 1)) acc') (ds1.drop j) acc',
        ⟨ds1.length, by omega, acc, z, ((s3.on x3).on x4).more kb1, s.on x234, xc.trans x234, ext_keep x234 (nw D z) eD, rext (x234.hide _) ra, Nat.le_refl _, h6⟩, fun j n He ⟨em1, acc', z', t3, t, xe, eD', ra', hlen, hh1⟩ => ?_⟩
      obtain ⟨t4, kb3⟩ := ES.less (c := { c with bs := bs ++ c.bs, us := us ++ c.us }) hl1 t3
      by_cases hj : j < ds1.length
      · rw [List.drop_eq_getElem_cons hj] at hh1
        refine .inr ⟨itk1.go He _ j t4.dom kb3 hj, fun H' => ∃ acc' z', ES κ { c with bs := bs1 ++ (bs ++ c.bs), us := us1 ++ (us ++ c.us) } H' (plus L D) δ3 σ3 ∧ ES κ { c with bs := bs ++ c.bs, us := us ++ c.us } H' (plus L D) δ σ ∧ Ext H H' ∧ H' D = some (obj D z') ∧ Rel (hide (oor c.P (plus L D)) H') z' acc' ∧ acc'.length ≤ acc.length + (j + 1) ∧
            scL enc g1 tt1 te (wipeD δ3 vs1) (fun acc' => sc2L enc B g tt ti1 g1 tt1 te (wipeD δ vs) vs1 R (ds.drop (i + 1)) acc') (ds1.drop (j + 1)) acc',
          fun H' ⟨acc', z', a1, a2, a3, a4, a5, a6, a7⟩ => ⟨n - 1, by omega, by omega, acc', z', a1, a2, a3, a4, a5, a6, a7⟩, fun x' H5 hy' => ?_⟩
        obtain ⟨y', ey', x5, ry'⟩ := itk1.yld He _ j x' H5 t4.dom kb3 hj hy'
        rw [List.getElem?_eq_getElem hj] at ey'
        cases ey'
        refine ⟨.p ds1[j], wipeD δ3 vs1, _, _, _, (t3.on x5).wipe vs1, ry', hh1, fun δ4 σ4 s4 ew' h7 => ⟨?_, ⟨δ4, _, _, _, s4, h7, fun b H6 x6 h8 => ?_⟩⟩⟩
        · rw [ew', wipe_two vs1 σ3 fun _ h => h]
        have x56 := x5.trans x6
        cases b with
        | false => exact ⟨acc', z', t3.on x56, t.on x56, xe.trans x56, ext_keep x56 (nw D z') eD', rext (x56.hide _) ra', Nat.le_succ_of_le hlen, h8⟩
        | true =>
          show up κ te σ4 H6 _
          refine ⟨δ4, _, _, _, s4.on x6, h8, fun v H7 d x7 r7 h9 => ?_⟩
          obtain ⟨zz, rfl, jj, rfl, h10⟩ := asP_of h9
          have xx := x5.trans (x6.trans x7)
          obtain ⟨o1, o2⟩ := rstep (P := oor c.P (plus L D)) (H := H7) r7 (rext (xx.hide _) ra') (by omega)
          refine ⟨z', jj, ext_keep xx (nw D z') eD', o1, fun z2 hz2 => ⟨acc' ++ [jj], z2, ES.put_free (t3.on xx) no plus_at H0D, fresh (t.on xx), fun a o e => ?_, upd_same, ?_, by rw [List.length_append, List.length_singleton]; omega, h10⟩⟩
          · rw [upd_ne (ne_of_none e HD)]
            exact (xe.trans xx) a o e
          · rw [hide_same oor_plus]
            exact o2 z2 hz2
      · rw [List.drop_eq_nil_of_le (show ds1.length ≤ j by omega)] at hh1
        exact .inl ⟨itk1.stop He _ j t4.dom kb3 (by omega), acc', z', t, xe, eD', ra', hh1⟩
  · rw [List.drop_eq_nil_of_le (by omega)] at hh
    exact .inl ⟨itk.stop Hc _ i s2.dom kb2 (by omega), k D Hc z acc xc HD eD (rext (hide_less Hc hsub) ra) hh⟩
end
def dScK2 (ti : TDI) (g : TDG) (tt : TB) (ti1 : TDI) (g1 : TDG) (tt1 : TB) (te : TD) (vs vs1 : List Nat) : TD := fun δ R => ti δ fun ds => sc2L keyD scanBound g tt ti1 g1 tt1 te (wipeD δ vs) vs1 (fun ks => R (.set ks)) ds []
section
variable {X : Cx} {elt tg iter tg1 iter1 : Expr} {ifs ifs1 : List Expr} {scope : Scope} {own : List (PySem.Str × Nat)} {vs1 : List Nat} {p pos pos2 : Pos} {ti ti1 : TDI} {g g1 : TDG} {tt tt1 : TB} {te : TD}
theorem de_scK2 (hc : X.calm = true) (hN : X.N.Nodup) (hi : PI X tg iter (upI (Cx.ky X) ti)) (ok : BlkOk X.N X.env.scope scope own) (hv : ∀ i ∈ vs1, i ∈ own.map (·.2))
    (hg : ∀ (s : Shared) (H : Hp) (C : Addr) (cl : List (Str × Addr)) (fp : List Addr), PG (X.blk s H scope (compEnvC scope cl C X.env) fp) tg (upG (Cx.ky X) (own.map (·.2)) g)) (ht : ∀ (s : Shared) (H : Hp) (C : Addr) (cl : List (Str × Addr)) (fp : List Addr), PTs (X.blk s H scope (compEnvC scope cl C X.env) fp) ifs (upT (Cx.ky X) tt))
    (hi1 : ∀ (s : Shared) (H : Hp) (C : Addr) (cl : List (Str × Addr)) (fp : List Addr), PI (X.blk s H scope (compEnvC scope cl C X.env) fp) tg1 iter1 (upI (Cx.ky X) ti1))
    (hg1 : ∀ (s : Shared) (H : Hp) (C : Addr) (cl : List (Str × Addr)) (fp : List Addr), PG (X.blk s H scope (compEnvC scope cl C X.env) fp) tg1 (upG (Cx.ky X) vs1 g1)) (ht1 : ∀ (s : Shared) (H : Hp) (C : Addr) (cl : List (Str × Addr)) (fp : List Addr), PTs (X.blk s H scope (compEnvC scope cl C X.env) fp) ifs1 (upT (Cx.ky X) tt1))
    (he : ∀ (s : Shared) (H : Hp) (C : Addr) (cl : List (Str × Addr)) (fp : List Addr), PE (X.blk s H scope (compEnvC scope cl C X.env) fp) elt (up (Cx.ky X) te)) (hs : ∀ x, foldedSetIterable iter X.env x = pure x := by intro _; rfl) (hs1 : ∀ env x, foldedSetIterable iter1 env x = pure x := by intro _ _; rfl) :
    PE X (.SetComp elt [⟨tg, iter, ifs, 0⟩, ⟨tg1, iter1, ifs1, 0⟩] scope pos) (up (Cx.ky X) (dScK2 ti g tt ti1 g1 tt1 te (own.map (·.2)) vs1)) := by
  refine PE.imp (pe_scG2 (obj := objK X.w) (ok := okK) (nx := nxK) (z0 := (fun _ => false, 0)) hc hN hi ok hv hg ht hi1 hg1 ht1 he bornK (fun s H C cl fp => addsK (X := X.blk s H scope (compEnvC scope cl C X.env) fp)) hs hs1) fun σ H Q ⟨δ, R, c, L, es, h, k⟩ => ?_
  refine up_scG2 (enc := keyD) (Rel := relK) (B := scanBound) (R := fun ks => R (.set ks)) (fun D z w => ?_) (fun x r => r) (fun H => ⟨by funext j; rfl, Nat.le_refl 0⟩) (fun {P H z acc j v} r q b => ⟨⟨rp_key r, by have := q.2; omega⟩, fun z' e => ?_⟩) es h fun D Hc z acc x hD e r f => ?_
  · obtain ⟨_, _, e, _⟩ := w
    cases e
  · rw [e]
    refine ⟨by rw [hasK_app, q.1], ?_⟩
    rw [List.length_append, List.length_singleton]
    have := q.2
    show (if z.1 j = true then z.2 else z.2 + 1) ≤ _
    split <;> omega
  · obtain ⟨S, n⟩ := z
    obtain ⟨e1, e2⟩ := r
    cases (show S = hasK acc from e1)
    refine k (.ref D) Hc (.set acc) x ⟨D, n, rfl, ?_⟩ f
    rw [hide_at (by
      cases q : oor c.P L D with
      | false => rfl
      | true =>
        have := es.dom.2 D q
        exact absurd hD this)]
    exact e
end
end MR

/-! Defs whose list is new. -/
namespace MR
open PySem PySem.Spec PyProof.Rows L2
/-- what a call gives back is a list made in it -/
def upCF (κ : Ky) (f : FL) : List V → Hp → VK → Prop := fun vs H Q => ∃ ds R P, ∃ _ : Dom P H, ∃ _ : RvA κ (hide P H) ds vs, f ds R ∧ ∀ p H' zs xs, Ext H H' → H p = none → H' p = some (.lst xs) → RpA κ.K (hide (oor P (fun b => decide (b = p))) H') zs xs → R (.p (.list zs)) → Q (.ref p) H'
def spF (κ : Ky) (f : FL) : Sp := fun vs H Q _ => upCF κ f vs H Q
section
variable {P : Program} {w : World} {K : PySem.W.Frag} {mg : Str → Option Value} {base : Heap}
/-- a def whose body is: return a new list -/
theorem okF {x qual : Str} {st : Stmt} {f : Addr} {fd : FuncData} {N ps : List Str} {k : Nat} {g : FL} {e : Expr} {pos : Pos} (F : Fun K x qual st f fd) (S : FnScope N ps (defScope st)) (len : ∀ ds R, g ds R → ds.length = ps.length) (hst : defBody st = [.Return (some e) pos])
    (hb : ∀ (cdv : Value) (A : Around), A.guards = some [] → ∀ (outer : List PySem.Env) (s : Shared) (H : Hp) (E : XK), Room k (A.deeper (envOfC qual (defScope st) s.heap.objs.size f cdv)) →
      ∃ t, PE (cxOf CX0 P w K mg base N qual (defScope st) f cdv A outer s H E).nox e (upF ⟨K, P, w⟩ t) ∧ ∀ ds R, g ds R → t (startD N ds) R) : FnG P w K mg base CX0 (k + 1) f fd ps (spF ⟨K, P, w⟩ g) := by
  refine fnG_of F S (fun vs H Q E ⟨ds, R, P, d, r, h, q⟩ => by rw [← r.len]; exact len ds R h) fun cdv A gd outer s H vs Q E room ⟨ds, R, P', d, r, h, q⟩ => ?_
  obtain ⟨t, ht, hr⟩ := hb cdv A gd outer s H E room
  refine ⟨tRet (upF ⟨K, P, w⟩ t), by rw [hst]; exact (pss_one (ps_ret ht)).nox, startD N ds, R, ⟨H, P', [], []⟩, _, es_start d r, hr ds R h, fun p H' zs xs x hp ep ra h' => q p H' zs xs x hp ep (ra.ext (hide_less H' fun a z => ?_)) h'⟩
  unfold oor plus at *
  rw [Bool.or_eq_true] at z ⊢
  exact z.imp id fun z => by rw [Bool.false_or]; exact z
end
section
variable {X : Cx} {a : Expr} {es : List Expr} {t : TL} {p pos : Pos} {x : Str}
/-- a call of such a def -/
theorem de_callF {k : Nat} {f : Addr} {fd : FuncData} {ps : List Str} {g : FL} {CX : CXT} {E : XK} (F : FnG X.prog X.w X.K X.mg X.base CX k f fd ps (spF (Cx.ky X) g)) (gd : X.A.guards = some []) (hr : Room k X.A) (hg : Gl X x) (hm : X.mg x = some (.ref f)) (hk : PySem.W.keepIn X.K (.ref f) = true)
    (hb : Binds X.K fd ps []) (hx : Passes CX X E) (ha : PA X (a :: es) (upA (Cx.ky X) t)) (hdb : (x == ("__debug__" : Str)) = false := by decide) (he : starEach (a :: es) X.env = (false, eval a X.env) :: starEach es X.env := by rfl)
    (hpl : (backTo pos (starEach es X.env)).any (·.1) = false := by rfl) : PE X (.Call (.Name x p) (a :: es) [] pos) (upF (Cx.ky X) (dCall g t)) := by
  refine PE.imp (pe_callG F gd hr hg hm hk hb .nil hx ha hdb he hpl) fun σ H Q ⟨δ, R, c, L, es, h, k1⟩ => ?_
  refine ⟨δ, _, c, L, es, h, fun vs H1 ds x1 r1 h1 => ?_⟩
  show spF (Cx.ky X) g (vs ++ []) H1 Q E
  rw [List.append_nil]
  refine ⟨ds, R, oor c.P L, (es.on x1).dom, r1, h1, fun p H' zs xs x2 hp ep ra h2 => k1 p H' zs xs (x1.trans x2) (x1.none hp) ep (ra.ext (hide_less H' fun b z => ?_)) h2⟩
  unfold oor plus at *
  rw [Bool.or_assoc]
  exact z
end
section
variable {X : Cx}
theorem cr_sortKF {k : Nat} (hc : X.calm = true) (hr : Room k X.A) : CallR X (.builtin "sorted") (upCF (Cx.ky X) fSortK) := by
  intro pins s σ H xs us Q I rx ⟨ds, R, P, dm, r, ⟨ks, e, h⟩, kk⟩
  subst e
  obtain ⟨v, q, e1, ⟨a, n, ev, ha⟩, e2⟩ := r
  have e3 : q = [] := e2
  subst e1 e3 ev
  obtain ⟨u, rfl, ru⟩ := Vals.one rx
  obtain rfl : u = Value.ref a := ru
  have g := setG_get I (show H a = some (SetGO X.w a (hasK (ks.map Sum.inr)) n) from by
    unfold hide at ha
    split at ha
    · cases ha
    · exact ha)
  refine sorted_setG g (I.ok.hd hc) (by have := hr.un; omega) (fun k hk => ?_) fun s' p out c zs kp hg ho hp hl each hz => ?_
  · obtain ⟨x, _, e⟩ := List.mem_map.mp (hasK_iff.mp hk)
    exact ⟨x, e.symm⟩
  · obtain ⟨ys, rfl, hyz, nd, mem⟩ := hz
    have hN : H p = none := I.hok.fresh hp
    have lenz : out.toList.length = (ys.mergeSort (PySem.W.dataLe false PyData.str)).length := each.length
    have hbd : (ys.mergeSort (PySem.W.dataLe false PyData.str)).length ≤ sizeLine := by
      rw [List.length_mergeSort]
      exact hyz
    have I2 : Inv X pins σ (upd H p (.lst ((ys.mergeSort (PySem.W.dataLe false PyData.str)).map V.str))) s' := by
      obtain ⟨h2, g2, d2, t2, o2⟩ := s'
      have eg : g2 = s.gens := hg
      have eo : o2 = s.os := ho
      subst eg eo
      have J := (I.laid (t' := t2) (o := .lst ((ys.mergeSort (PySem.W.dataLe false PyData.str)).map V.str)) kp hp ⟨by rw [List.length_map]; exact hbd, out.toList, c, each_vals each, by rw [Array.toArray_toList]; exact hl⟩)
      exact ⟨J.ok, J.os, J.bare, J.base, J.loc, J.cell, J.free, J.freeC, J.pin, J.hok, J.len⟩
    refine ⟨.ref p, _, I2, rfl, kk p _ ((ys.mergeSort (PySem.W.dataLe false PyData.str)).map .str) _ (Ext.new hN) hN upd_same (rpA_txt _) (h _ (risS_of nd) (fun x => ?_) hbd)⟩
    rw [(List.mergeSort_perm ys _).mem_iff, mem x, hasK_iff, List.mem_map]
    exact ⟨fun ⟨y, hy, e⟩ => Sum.inr.inj e ▸ hy, fun hx => ⟨x, hx, rfl⟩⟩
end
section
variable {X : Cx} {p pos : Pos} {tk : TD} {s : Expr}
/-- sorted(a set of texts), as a new list -/
theorem df_sortK {k : Nat} (hc : X.calm = true) (hr : Room k X.A) (hs1 : PE X s (up (Cx.ky X) tk)) (hg : Gl X "sorted") (hm : X.mg "sorted" = none)
    (hs : starEach [s] X.env = (false, eval s X.env) :: starEach [] X.env := by rfl) (hpl : (backTo pos (starEach [] X.env)).any (·.1) = false := by rfl) : PE X (.Call (.Name "sorted" p) [s] [] pos) (upF (Cx.ky X) (dCall fSortK (dCons tk dNil))) := by
  refine PE.imp (pe_callB (cr_sortKF hc hr) hg hm (by decide +kernel) (da_cons hs1 da_nil hs) (by decide) (by decide) hs hpl) fun σ H Q ⟨δ, R, c, L, es, h, k1⟩ => ?_
  refine ⟨δ, _, c, L, es, h, fun vs H1 ds x1 r1 h1 => ⟨ds, R, oor c.P L, (es.on x1).dom, r1, h1, fun o H' zs xs x2 hp ep ra h2 => k1 o H' zs xs (x1.trans x2) (x1.none hp) ep (ra.ext (hide_less H' fun b z => ?_)) h2⟩⟩
  unfold oor plus at *
  rw [Bool.or_assoc]
  exact z
end
end MR

/-! sorted({pair for ..}) as a new list. -/
namespace MR
open PySem PySem.Spec PyProof.Rows L2
section
variable {X : Cx} {elt tg iter : Expr} {ifs : List Expr} {scope : Scope} {own : List (PySem.Str × Nat)} {p pos pos2 : Pos} {ti : TDI} {g : TDG} {tt : TB} {te : TD}
theorem df_sortScP (hc : X.calm = true) (hu : X.A.units + 64 < cLine) (hN : X.N.Nodup) (hi : PI X tg iter (upI (Cx.ky X) ti)) (ok : BlkOk X.N X.env.scope scope own)
    (hg : ∀ (s : Shared) (H : Hp) (C : Addr) (cl : List (Str × Addr)) (fp : List Addr), PG (X.blk s H scope (compEnvC scope cl C X.env) fp) tg (upG (Cx.ky X) (own.map (·.2)) g)) (ht : ∀ (s : Shared) (H : Hp) (C : Addr) (cl : List (Str × Addr)) (fp : List Addr), PTs (X.blk s H scope (compEnvC scope cl C X.env) fp) ifs (upT (Cx.ky X) tt))
    (he : ∀ (s : Shared) (H : Hp) (C : Addr) (cl : List (Str × Addr)) (fp : List Addr), PE (X.blk s H scope (compEnvC scope cl C X.env) fp) elt (up (Cx.ky X) te)) (hgl : Gl X "sorted") (hm : X.mg "sorted" = none) (hs : ∀ x, foldedSetIterable iter X.env x = pure x := by intro _; rfl)
    (hs2 : starEach [.SetComp elt [⟨tg, iter, ifs, 0⟩] scope pos2] X.env = (false, eval (.SetComp elt [⟨tg, iter, ifs, 0⟩] scope pos2) X.env) :: starEach [] X.env := by rfl) (hpl : (backTo pos (starEach [] X.env)).any (·.1) = false := by rfl) :
    PE X (.Call (.Name "sorted" p) [.SetComp elt [⟨tg, iter, ifs, 0⟩] scope pos2] [] pos) (upF (Cx.ky X) (dScP ti g tt te (own.map (·.2)))) := by
  refine PE.imp (pe_callB (cr_sortP hc hu) hgl hm (by decide +kernel) (pa_cons (pe_scG (obj := objP X.prog X.w) (ok := okP X.K) (nx := nxP) (z0 := []) hc hN hi ok hg ht he bornP (fun s H C cl fp => addsP (X := X.blk s H scope (compEnvC scope cl C X.env) fp) hu) hs) pa_nil hs2) (by decide) (by decide) hs2 hpl) fun σ H Q ⟨δ, R, c, L, es, h, k⟩ => ?_
  show tScG (objP X.prog X.w) (okP X.K) nxP [] (upI (Cx.ky X) ti) (upG (Cx.ky X) (own.map (·.2)) g) (upT (Cx.ky X) tt) (up (Cx.ky X) te) (own.map (·.2)) σ H fun y H2 => rSortP X.K X.prog X.w [y] H2 Q
  refine up_scG (κ := Cx.ky X) (enc := encP) (Rel := relP X.K) (B := 64) (R := fun ps => ∀ qs : List (Str × Str), qs.Pairwise ltP → (∀ x, x ∈ qs ↔ x ∈ ps) → R (.p (.list (qs.map encP)))) (fun D z w => ?_) (fun x r => ?_) (fun H => ⟨fun q hq => absurd hq List.not_mem_nil, fun q hq => absurd hq List.not_mem_nil, Nat.le_refl 0⟩) (fun {P H z acc j v} r q b => ?_) es h fun D Hc z acc x hD e r f => ?_
  · obtain ⟨_, _, e, _⟩ := w
    cases e
  · exact ⟨fun q hq => ⟨x.seqT (r.1 q hq).1, (r.1 q hq).2⟩, r.2.1, r.2.2⟩
  · obtain ⟨a, ev, ta⟩ := rp_pair r
    refine ⟨⟨a, ev, (hide_ext _ _).seqT ta, fun n hn => (hide_ext _ _).seqT (q.1 n hn).1, by have := q.2.2; omega⟩, fun z' ⟨a', ev', w⟩ => ?_⟩
    rw [ev] at ev'
    cases ev'
    rcases w with ⟨m, rfl⟩ | ⟨m, pm⟩
    · refine ⟨fun n hn => ⟨(q.1 n hn).1, List.mem_append_left _ (q.1 n hn).2⟩, fun y hy => ?_, ?_⟩
      · rcases List.mem_append.mp hy with y1 | y1
        · exact q.2.1 y y1
        · rw [List.mem_singleton.mp y1]; exact m
      · rw [List.length_append]
        exact Nat.le_trans q.2.2 (Nat.le_add_right _ _)
    · refine ⟨fun n hn => ?_, fun y hy => (pm.map fun z => z.2).mem_iff.mpr ?_, ?_⟩
      · rcases List.mem_cons.mp (pm.mem_iff.mp hn) with e | hn
        · rw [e]; exact ⟨ta, List.mem_append_right _ List.mem_cons_self⟩
        · exact ⟨(q.1 n hn).1, List.mem_append_left _ (q.1 n hn).2⟩
      · rcases List.mem_append.mp hy with y1 | y1
        · exact List.mem_cons_of_mem _ (q.2.1 y y1)
        · rw [List.mem_singleton.mp y1]; exact List.mem_cons_self
      · rw [pm.length_eq, List.length_append, List.length_cons, List.length_singleton]
        have := q.2.2
        omega
  · refine ⟨D, z, rfl, e, fun n hn => (hide_ext _ _).seqT (r.1 n hn).1, fun o Z ho pm so few => ?_⟩
    refine k o _ ((Z.map fun n : Addr × (Str × Str) => n.2).map encP) _ (x.trans (Ext.new ho)) (x.none ho) upd_same ?_ (f _ so fun y => ?_)
    · have read : RpA X.K (hide (oor c.P L) Hc) ((Z.map fun n : Addr × (Str × Str) => n.2).map encP) (Z.map fun n => V.ref n.1) := read_pairs fun n hn => (r.1 n (pm.mem_iff.mp hn)).1
      exact read.ext (xplus (κ := Cx.ky X) ho)
    constructor
    · intro hy
      obtain ⟨n, hn, rfl⟩ := List.mem_map.mp hy
      exact (r.1 n (pm.mem_iff.mp hn)).2
    · intro hy
      exact (pm.map fun z => z.2).mem_iff.mpr (r.2.1 y hy)
end
end MR

/-! x = [f(), g(), h()]; if test(x): return ..; for y in x: y.append(None) -/
namespace MR
open PySem PySem.Spec PyProof.Rows L2
def dTold (i f : Nat) (t1 t2 t3 : TD) (tt : TB) (tr : TDS) : TDS := fun E δ => t1 δ fun d1 => asL d1 fun z1 => t2 δ fun d2 => asL d2 fun z2 => t3 δ fun d3 => asL d3 fun z3 => i < δ.length ∧ f < δ.length ∧ z1.length < sizeLine ∧ z2.length < sizeLine ∧ z3.length < sizeLine ∧
  tt (δ.set i (.v (.p (.list [.list z1, .list z2, .list z3])))) fun b => if b = true then tr { E with nx := fun _ => False } (δ.set i (.v (.p (.list [.list z1, .list z2, .list z3])))) else E.nx ((δ.set i .un).set f .un)
section
variable {X : Cx} {e1 e2 e3 c : Expr} {t1 t2 t3 : TD} {tt : TB} {tr : TDS} {i f : Nat} {x y : Str} {px pl ps pn pi pf py : Pos} {rets : List Stmt} {b : Stmt}
theorem dss_told (hc : X.calm = true) (hp : PassesOwn (model X.prog X.w) X.A X.env X.xe) (hN : X.N.Nodup) (hi : X.N[i]? = some x) (hx : Loc X.env.scope x) (hf : X.N[f]? = some y) (hy : Loc X.env.scope y) (hif : i ≠ f)
    (c1 : PE X e1 (upF (Cx.ky X) t1)) (c2 : PE X e2 (upF (Cx.ky X) t2)) (c3 : PE X e3 (upF (Cx.ky X) t3)) (ht : PT X c (upT (Cx.ky X) tt)) (hr : PSs X rets (upS (Cx.ky X) tr)) (hv : PE X (.Name x pn) (tVar i))
    (hb : PS X b (tDrop (tBM X.K "list" rAppend (tVar f) (tCons (tC .non) tNil)))) (gx : PG X (.Name y py) (gName f)) (fx : X.fn x = true ∨ X.env.scope.names.lookup x = some .local)
    (s1 : starEach [e1, e2, e3] X.env = (false, eval e1 X.env) :: starEach [e2, e3] X.env := by rfl) (s2 : starEach [e2, e3] X.env = (false, eval e2 X.env) :: starEach [e3] X.env := by rfl) (s3 : starEach [e3] X.env = (false, eval e3 X.env) :: starEach [] X.env := by rfl)
    (hs : swapsWith (.List [e1, e2, e3] pl) (some (.Name x px)) ps.line X.env = pure false := by rfl) (hfs : ∀ z, foldedSetIterable (.Name x pn) X.env z = pure z := by intro _; rfl) :
    PSs X [.Assign [.Name x px] (.List [e1, e2, e3] pl) ps, .If c rets [] pi, .For (.Name y py) (.Name x pn) [b] [] pf] (upS (Cx.ky X) (dTold i f t1 t2 t3 tt tr)) := by
  refine PSs.imp (pss_cons (ps_set hN hi hx (pe_lst (pa_cons c1 (pa_cons c2 (pa_cons c3 pa_nil s3) s2) s1)) hs fx) (pss_cons (ps_if ht hr pss_nil) (pss_one (ps_for hp hc (pi_list hv) gx (pss_one hb) hfs)))) fun D σ H ⟨δ, E, cc, L, es, h, fz⟩ => ?_
  refine ⟨δ, _, cc, L, es, h, fun p1 H1 z1 xs1 x1 n1 a1 r1 h1 => ⟨δ, _, cc, L, es.on x1, h1, fun p2 H2 z2 xs2 x2 n2 a2 r2 h2 => ⟨δ, _, cc, L, es.on (x1.trans x2), h2, fun p3 H3 z3 xs3 x3 n3 a3 r3 h3 => ⟨(show 3 ≤ sizeLine by decide), fun p4 n4 => ?_⟩⟩⟩⟩
  obtain ⟨li, lf, l1, l2, l3, h4⟩ := h3
  have n12 : H p2 = none := x1.none n2
  have n13 : H p3 = none := x1.none (x2.none n3)
  have n14 : H p4 = none := x1.none (x2.none (x3.none n4))
  have d12 : p1 ≠ p2 := fun e => by rw [← e, a1] at n2; cases n2
  have d23 : p2 ≠ p3 := fun e => by rw [← e, a2] at n3; cases n3
  have d13 : p1 ≠ p3 := fun e => by
    have := x2.none n3
    rw [← e, a1] at this
    cases this
  have d34 : p3 ≠ p4 := fun e => by rw [← e, a3] at n4; cases n4
  have d24 : p2 ≠ p4 := fun e => by
    have := x3.none n4
    rw [← e, a2] at this
    cases this
  have d14 : p1 ≠ p4 := fun e => by
    have := x2.none (x3.none n4)
    rw [← e, a1] at this
    cases this
  have x123 := x1.trans (x2.trans x3)
  have x4 : Ext H3 (upd H3 p4 (.lst [.ref p1, .ref p2, .ref p3])) := Ext.new n4
  have es3 := es.on x123
  have seen : ∀ p (G : Hp), H p = none → hide (oor cc.P L) G p = G p := fun p G n => hide_at (by
    cases q : oor cc.P L p with
    | false => rfl
    | true => exact absurd n (es.dom.2 p q))
  have less : ∀ (G : Hp) p, Ext (hide (oor cc.P (plus L p)) G) (hide (oor cc.P L) G) := fun G p => hide_less G fun a z => by
    unfold oor at *
    rw [Bool.or_eq_true] at z ⊢
    exact z.imp id plus_of
  have rd1 : Rp X.K (hide (oor cc.P L) H3) (.list z1) (.ref p1) := ⟨p1, xs1, rfl, by rw [seen p1 _ n1]; exact (x2.trans x3).lst a1, (r1.ext (less H1 p1)).ext ((x2.trans x3).hide _)⟩
  have rd2 : Rp X.K (hide (oor cc.P L) H3) (.list z2) (.ref p2) := ⟨p2, xs2, rfl, by rw [seen p2 _ n12]; exact x3.lst a2, (r2.ext (less H2 p2)).ext (x3.hide _)⟩
  have rd3 : Rp X.K (hide (oor cc.P L) H3) (.list z3) (.ref p3) := ⟨p3, xs3, rfl, by rw [seen p3 _ n13]; exact a3, r3.ext (less H3 p3)⟩
  have told : Rv (Cx.ky X) (hide (oor cc.P L) (upd H3 p4 (.lst [.ref p1, .ref p2, .ref p3]))) (.p (.list [.list z1, .list z2, .list z3])) (.ref p4) := new_lst es3.dom n4 ⟨_, _, rfl, rd1, _, _, rfl, rd2, _, _, rfl, rd3, rfl⟩
  have es4 := (es3.on x4).set (i := i) told
  refine ⟨_, _, cc, L, es4, h4, fun bb H5 x5 h5 => ?_⟩
  cases bb with
  | true => exact ⟨_, _, cc, L, es4.on x5, h5, ⟨fun _ _ _ _ _ z => z.elim, fz.rt, fz.bk, fz.ct⟩⟩
  | false =>
    have len : σ.length = δ.length := es.len.symm
    have at4 : H5 p4 = some (.lst [.ref p1, .ref p2, .ref p3]) := x5.lst upd_same
    have b1 : H5 p1 = some (.lst xs1) := (x2.trans (x3.trans (x4.trans x5))).lst a1
    have b2 : H5 p2 = some (.lst xs2) := (x3.trans (x4.trans x5)).lst a2
    have b3 : H5 p3 = some (.lst xs3) := (x4.trans x5).lst a3
    have m1 : xs1.length < sizeLine := by rw [← r1.len]; exact l1
    have m2 : xs2.length < sizeLine := by rw [← r2.len]; exact l2
    have m3 : xs3.length < sizeLine := by rw [← r3.len]; exact l3
    rw [len.symm] at li lf
    have sf : f < (σ.set i (some (V.ref p4))).length := by rw [List.length_set]; exact lf
    have own_ : ∀ {G : Hp} {p : Addr} {v : HO}, H p = none → Ext H G → Ext H (upd G p v) := fun {G p v} n z a o e => by
      rw [upd_ne (ne_of_none e n)]
      exact z a o e
    have xH5 : Ext H H5 := x123.trans (x4.trans x5)
    refine ⟨.ref p4, by rw [List.getElem?_set_self li], p4, rfl, ⟨_, SqL.of at4⟩, ?_⟩
    refine ⟨fun j m τ G => j + m = 3 ∧ (∃ o, τ = (σ.set i (some (V.ref p4))).set f o) ∧ Ext H G ∧ G p4 = some (.lst [.ref p1, .ref p2, .ref p3]) ∧ (j ≤ 0 → G p1 = some (.lst xs1)) ∧ (j ≤ 1 → G p2 = some (.lst xs2)) ∧ (j ≤ 2 → G p3 = some (.lst xs3)),
      ⟨3, rfl, ⟨(σ.set i (some (V.ref p4)))[f], (List.set_getElem_self sf).symm⟩, xH5, at4, fun _ => b1, fun _ => b2, fun _ => b3⟩, fun j m τ G ⟨em, ⟨o, eo⟩, xG, g4, g1, g2, g3⟩ => ?_⟩
    by_cases hj : j < 3
    · refine .inr ⟨⟨_, _, SqL.of g4, List.getElem?_eq_getElem (show j < [V.ref p1, V.ref p2, V.ref p3].length from hj)⟩, fun τ' G' => (∃ o, τ' = (σ.set i (some (V.ref p4))).set f o) ∧ Ext H G' ∧ G' p4 = some (.lst [.ref p1, .ref p2, .ref p3]) ∧ (j + 1 ≤ 0 → G' p1 = some (.lst xs1)) ∧ (j + 1 ≤ 1 → G' p2 = some (.lst xs2)) ∧ (j + 1 ≤ 2 → G' p3 = some (.lst xs3)),
        fun τ' G' ⟨q1, q2, q3, q4, q5, q6⟩ => ⟨m - 1, by omega, by omega, q1, q2, q3, q4, q5, q6⟩, fun v G' ⟨eG, ev⟩ => ?_⟩
      subst eG
      have ev := ev _ (SqL.of g4)
      have lf2 : f < τ.length := by rw [eo, List.length_set]; exact sf
      have turn : ∀ (p : Addr) (xs : List V), v = .ref p → H p = none → G' p = some (.lst xs) → xs.length < sizeLine → p ≠ p4 → (∀ q, q ≠ p → (upd G' p (.lst (xs ++ [V.non]))) q = G' q) → ((j + 1 ≤ 0 → (upd G' p (.lst (xs ++ [V.non]))) p1 = some (.lst xs1)) ∧ (j + 1 ≤ 1 → (upd G' p (.lst (xs ++ [V.non]))) p2 = some (.lst xs2)) ∧ (j + 1 ≤ 2 → (upd G' p (.lst (xs ++ [V.non]))) p3 = some (.lst xs3))) →
          gName f v τ G' fun τ2 G2 => tDrop (tBM X.K "list" rAppend (tVar f) (tCons (tC .non) tNil)) { D with nx := fun τ' G' => (∃ o, τ' = (σ.set i (some (V.ref p4))).set f o) ∧ Ext H G' ∧ G' p4 = some (.lst [.ref p1, .ref p2, .ref p3]) ∧ (j + 1 ≤ 0 → G' p1 = some (.lst xs1)) ∧ (j + 1 ≤ 1 → G' p2 = some (.lst xs2)) ∧ (j + 1 ≤ 2 → G' p3 = some (.lst xs3)), ct := fun τ' G' => (∃ o, τ' = (σ.set i (some (V.ref p4))).set f o) ∧ Ext H G' ∧ G' p4 = some (.lst [.ref p1, .ref p2, .ref p3]) ∧ (j + 1 ≤ 0 → G' p1 = some (.lst xs1)) ∧ (j + 1 ≤ 1 → G' p2 = some (.lst xs2)) ∧ (j + 1 ≤ 2 → G' p3 = some (.lst xs3)), bk := D.nx } τ2 G2 := fun p xs ep np gp lp p4' oth rest => by
        subst ep
        refine ⟨.ref p, by rw [List.getElem?_set_self lf2], .inl ⟨rfl, _, SqL.of gp⟩, p, xs, .non, rfl, rfl, gp, lp, ⟨some (.ref p), by rw [eo, List.set_set]⟩, own_ np xG, by rw [oth p4 p4'.symm]; exact g4, rest⟩
      match j, hj, em, g1, g2, g3, ev, turn with
      | 0, _, _, g1, g2, g3, ev, turn =>
        cases ev
        exact turn p1 xs1 rfl n1 (g1 (Nat.le_refl 0)) m1 d14 (fun q ne => upd_ne ne) ⟨fun z => absurd z (by omega), fun _ => by rw [upd_ne d12.symm]; exact g2 (by omega), fun _ => by rw [upd_ne d13.symm]; exact g3 (by omega)⟩
      | 1, _, _, g1, g2, g3, ev, turn =>
        cases ev
        exact turn p2 xs2 rfl n12 (g2 (Nat.le_refl 1)) m2 d24 (fun q ne => upd_ne ne) ⟨fun z => absurd z (by omega), fun z => absurd z (by omega), fun _ => by rw [upd_ne d23.symm]; exact g3 (by omega)⟩
      | 2, _, _, g1, g2, g3, ev, turn =>
        cases ev
        exact turn p3 xs3 rfl n13 (g3 (Nat.le_refl 2)) m3 d34 (fun q ne => upd_ne ne) ⟨fun z => absurd z (by omega), fun z => absurd z (by omega), fun z => absurd z (by omega)⟩
    · refine .inl ⟨⟨_, SqL.of g4, (show 3 ≤ j by omega)⟩, ?_⟩
      rw [eo]
      exact fz.nx _ _ G L (((es.on xG).wipe1 i _).wipe1 f _) h5
end
end MR

/-! Calls without arguments. -/
namespace MR
open PySem PySem.Spec PyProof.Rows L2
section
variable {X : Cx} {p pos : Pos} {x : Str}
theorem de_call0 {k : Nat} {f : Addr} {fd : FuncData} {ps : List Str} {g : FL} {CX : CXT} {E : XK} (F : FnG X.prog X.w X.K X.mg X.base CX k f fd ps (spD (Cx.ky X) g)) (gd : X.A.guards = some []) (hr : Room k X.A) (hg : Gl X x) (hm : X.mg x = some (.ref f)) (hk : PySem.W.keepIn X.K (.ref f) = true)
    (hb : Binds X.K fd ps []) (hx : Passes CX X E) (hdb : (x == ("__debug__" : Str)) = false := by decide) : PE X (.Call (.Name x p) [] [] pos) (up (Cx.ky X) (dCall g dNil)) := by
  refine PE.imp (pe_callG0 F gd hr hg hm hk hb .nil hx hdb) fun σ H Q ⟨δ, R, c, L, es, h, k1⟩ => ?_
  show spD (Cx.ky X) g ([] ++ []) H Q E
  exact ⟨[], R, oor c.P L, es.dom, rfl, h, fun v H2 d x2 q1 q2 => k1 v H2 d x2 q1 q2⟩
end
end MR

/-! enumerate(a text). -/
namespace MR
open PySem PySem.Spec PyProof.Rows L2
/-- a text's signs, each with its place in a new pair -/
def IteS (x : Str) : It :=
  ⟨fun i _ => i < x.cps.size, fun i H v H' => ∃ T c, v = .ref T ∧ H T = none ∧ H' = upd H T (.tup [.int (i : Nat), .str ⟨#[c]⟩]) ∧ x.cps[i]? = some c, fun i _ => x.cps.size ≤ i⟩
theorem turn_enumS {P : Program} {w : World} {K : PySem.W.Frag} {elts : List Expr} {kk : Nat} {tpos : Pos} (x : Str) (t : Tok) (ty : String) (hty : ty = "str_ascii_iterator" ∨ ty = "str_iterator") (e it : Addr) :
    Turn P w K (.Tuple elts kk tpos) (IteS x) [e, it] e (fun i h => i ≤ x.cps.size ∧ (∃ old, IsEnum h e it ((i : Nat) : Int) old) ∧ h.IsStrIter it ty x t i ∧ e ≠ it) where
  mem := by simp
  obj := fun i h st b hb => by
    obtain ⟨_, ⟨old, he⟩, ⟨o, ho, hc, hd⟩, _⟩ := st
    have e' : b = e ∨ b = it := by simpa using hb
    rcases e' with z | z
    · rw [z]; exact ⟨_, he, fun v q => nomatch q⟩
    · rw [z]; exact ⟨o, ho, fun v q => by rw [hd] at q; cases q⟩
  keep := fun i h h' st k => let ⟨hle, ⟨old, he⟩, ⟨o, ho, r⟩, hne⟩ := st; ⟨hle, ⟨old, k e (by simp) _ he⟩, ⟨o, k it (by simp) o ho, r⟩, hne⟩
  item := by
    intro X hP hw hK hc i pins s σ H E I hf st hg
    subst hP hw hK
    obtain ⟨_, ⟨old, he⟩, hit, hne⟩ := st
    have hel : e < s.heap.objs.size := Heap.lt_size he
    have hil : it < s.heap.objs.size := by obtain ⟨_, q, _⟩ := hit; exact Heap.lt_size q
    have D : Draws X.prog X.w X.A.in1 it [it] x.cps.size (SignAt x) (fun i h => h.IsStrIter it ty x t i) := by
      rcases hty with e | e
      · rw [e]; exact Draws.strAscii (A := X.A.in1) (show X.A.in1.handled = none from I.ok.hd hc) it x t
      · rw [e]; exact Draws.strWide (A := X.A.in1) (show X.A.in1.handled = none from I.ok.hd hc) it x t
    have hg' : i < x.cps.size := hg
    refine wpAny_pyNext_enum_itemD D he hit hg' hne (by simpa using hne) fun u h' tk hP ho hit' hT hsz hk => ?_
    obtain ⟨c, tc, hcx, rfl⟩ := hP
    refine ⟨_, rfl, wpAny_letOwnedTupleGo_enum (s := { s with heap := h', toks := tk + 1 }) ho fun h'' he' sb => ?_⟩
    have hT2 : h''.get? s.heap.objs.size = some { cls := .type "tuple", data := .seq #[.int i tk, .str ⟨#[c]⟩ tc] } := (sb.2 _ (Nat.ne_of_gt hel)).trans hT
    have new : ObjOk X.prog X.w (upd H s.heap.objs.size (.tup [.int (i : Nat), .str ⟨#[c]⟩])) h'' s.heap.objs.size (.tup [.int (i : Nat), .str ⟨#[c]⟩]) :=
      ⟨by show 2 ≤ sizeLine; decide, [.int i tk, .str ⟨#[c]⟩ tc], .cons ⟨_, rfl⟩ (.cons ⟨_, rfl⟩ .nil), ⟨_, hT2, rfl, _, rfl⟩⟩
    have I1 : Inv X pins σ (upd H s.heap.objs.size (.tup [.int (i : Nat), .str ⟨#[c]⟩])) { s with heap := h'', toks := tk + 1 } :=
      I.turnedNew (t' := tk + 1) (ch := [e, it]) (fun b ob hb q => (sb.2 b (fun z => hb (by simp [z]))).trans (hk b ob (fun z => hb (by simp [z])) (fun z => hb (by simp [z])) q)) hf (Nat.le_refl _) new
    refine ⟨.ref s.heap.objs.size, _, I1, rfl, ⟨_, c, rfl, I.hok.fresh (Nat.le_refl _), rfl, hcx⟩, ⟨hg', ⟨.str ⟨#[c]⟩ tc, ?_⟩, ?_, hne⟩, fun b hb => ?_⟩
    · have e1 : ((i + 1 : Nat) : Int) = (i : Int) + 1 := by omega
      rw [e1]; exact he'
    · obtain ⟨o, q1, q2⟩ := hit'
      exact ⟨o, (sb.2 it (Ne.symm hne)).trans q1, q2⟩
    · have hb' : b < s.heap.objs.size := by
        have e' : b = e ∨ b = it := by simpa using hb
        rcases e' with z | z
        · rw [z]; exact hel
        · rw [z]; exact hil
      rw [upd_ne (Nat.ne_of_lt hb')]
      exact (hf b hb).1
  done := by
    intro X hP hw hK hc i pins s σ H E I hf st hg
    subst hP hw hK
    obtain ⟨hle, ⟨old, he⟩, hit, hne⟩ := st
    have hge : x.cps.size ≤ i := hg
    have hi : i = x.cps.size := Nat.le_antisymm hle hge
    subst hi
    have D : Draws X.prog X.w X.A.in1 it [it] x.cps.size (SignAt x) (fun i h => h.IsStrIter it ty x t i) := by
      rcases hty with e | e
      · rw [e]; exact Draws.strAscii (A := X.A.in1) (show X.A.in1.handled = none from I.ok.hd hc) it x t
      · rw [e]; exact Draws.strWide (A := X.A.in1) (show X.A.in1.handled = none from I.ok.hd hc) it x t
    obtain ⟨f0, f1, f2, f3, f4, f5⟩ := hf it (by simp)
    exact wpAny_pyNext_enum_endD D he hit fun h' eb => ⟨rfl, I.turned (t' := s.toks) (fun b o hb q => eb b o hb q) f0 f1 f3 f4 f5⟩
  self := fun A i s Q E st h => let ⟨_, ⟨_, he⟩, _⟩ := st; wpAny_pyIter_enum he h
def iEnumS (ta : TA) : TI := fun σ H R => ta σ H fun vs H1 => ∃ x, vs = [.str x] ∧ R (IteS x) H1
theorem strIterType_of (x : Str) : strIterType x = "str_ascii_iterator" ∨ strIterType x = "str_iterator" := by
  unfold strIterType
  split
  · exact .inl rfl
  · exact .inr rfl
theorem pi_enumS {X : Cx} {e : Expr} {ta : TA} {p pos tpos : Pos} {elts : List Expr} {kk : Nat} (hg : Gl X "enumerate") (hm : X.mg "enumerate" = none) (ha : PA X [e] ta) (hs : starEach [e] X.env = [(false, eval e X.env)] := by rfl) :
    PI X (.Tuple elts kk tpos) (.Call (.Name "enumerate" p) [e] [] pos) (iEnumS ta) := by
  refine ⟨fun pins s σ H R I h => ?_⟩
  refine Call_ (ld_blt I hg hm boot_enumerate (PyProof.Rows.callWith_type1 (thn (ha.run pos pins s σ H _ I h) fun us s1 ⟨vs, H1, I1, r1, q1⟩ => ?_) hs rfl))
  obtain ⟨x, ex, q⟩ := q1
  subst ex
  cases r1 with
  | cons r rr =>
    cases rr
    obtain ⟨t, rfl⟩ := r
    refine call_enumerate_str fun h' he hit hsz hk => wpAny_pyIter_enum he ?_
    have I2 : Inv X pins σ H1 { s1 with heap := h' } := I1.kept (t' := s1.toks) hk
    refine ⟨s1.heap.objs.size + 1, [s1.heap.objs.size + 1, s1.heap.objs.size], _, _, H1, rfl, I2, turn_enumS x t _ (strIterType_of x) (s1.heap.objs.size + 1) s1.heap.objs.size, ⟨Nat.zero_le _, ⟨.none, he⟩, hit, Nat.succ_ne_self _⟩, fun b hb => ?_, q⟩
    have e' : b = s1.heap.objs.size + 1 ∨ b = s1.heap.objs.size := by simpa using hb
    have hle : s1.heap.objs.size ≤ b := by
      rcases e' with z | z
      · rw [z]; exact Nat.le_add_right _ _
      · rw [z]; exact Nat.le_refl _
    exact I1.fpOk hle (I1.hok.fresh hle)
/-! by data -/
def enumD (x : Str) : List PyData := (List.range x.cps.size).map fun i => .tuple [.int (i : Nat), .str ⟨#[x.cps.getD i 0]⟩]
theorem itk_enumS {κ : Ky} {x : Str} : ItK κ (IteS x) (enumD x) [] [] where
  go := fun H P' i _ r hi => by
    unfold enumD at hi
    rw [List.length_map, List.length_range] at hi
    exact hi
  stop := fun H P' i _ r hi => by
    unfold enumD at hi
    rw [List.length_map, List.length_range] at hi
    exact hi
  yld := fun H P' i y H2 dm r hi hy => by
    obtain ⟨T, c, rfl, hT, rfl, hc⟩ := hy
    unfold enumD at hi ⊢
    rw [List.length_map, List.length_range] at hi
    refine ⟨.tuple [.int (i : Nat), .str ⟨#[c]⟩], ?_, Ext.new hT, ⟨T, [.int (i : Nat), .str ⟨#[c]⟩], rfl, SqT.of (fresh_at dm hT), ⟨_, _, rfl, rfl, _, _, rfl, rfl, rfl⟩⟩⟩
    rw [List.getElem?_map, List.getElem?_range hi]
    have e : x.cps.getD i 0 = c := by rw [Array.getD_eq_getD_getElem?, hc]; rfl
    show some (PyData.tuple [.int (i : Nat), .str ⟨#[x.cps.getD i 0]⟩]) = _
    rw [e]
def dItEn (ta : TL) : TDI := fun δ R => ta δ fun ds => ∃ x, ds = [.p (.str x)] ∧ R (enumD x)
theorem di_enumS {X : Cx} {e : Expr} {ta : TL} {p pos tpos : Pos} {elts : List Expr} {kk : Nat} (hg : Gl X "enumerate") (hm : X.mg "enumerate" = none) (ha : PA X [e] (upA (Cx.ky X) ta)) (hs : starEach [e] X.env = [(false, eval e X.env)] := by rfl) :
    PI X (.Tuple elts kk tpos) (.Call (.Name "enumerate" p) [e] [] pos) (upI (Cx.ky X) (dItEn ta)) := by
  refine PI.imp (pi_enumS hg hm ha hs) fun σ H R ⟨δ, R', c, L, es, h, k⟩ => ⟨δ, _, c, L, es, h, fun vs H1 ds x1 r1 h1 => ?_⟩
  obtain ⟨x, rfl, h2⟩ := h1
  obtain ⟨v, rfl, rv⟩ := rvA1 r1
  exact ⟨x, by rw [show v = .str x from rv], k _ H1 (enumD x) [] [] x1 rfl itk_enumS h2⟩
/-! ### t[::-1] of a tuple -/
theorem adjust_rev (n : Nat) : Builtin.Slice.sliceAdjust none none (-1) (n : Int) = ((n : Int) - 1, -1) := by
  unfold Builtin.Slice.sliceAdjust
  rfl
theorem places_rev (n : Nat) : Builtin.Slice.slicePlaces ((n : Int) - 1) (-1) (-1) = n := by
  unfold Builtin.Slice.slicePlaces
  have h1 : ¬ ((-1 : Int) > 0) := by omega
  rw [if_neg h1]
  have e : -(-1 : Int) = 1 := rfl
  rw [e, Int.ediv_one]
  split <;> omega
theorem fm_congr {α β : Type} {f g : α → Option β} : ∀ {l : List α}, (∀ x ∈ l, f x = g x) → l.filterMap f = l.filterMap g
  | [], _ => rfl
  | a :: l, h => by
    have e := h a List.mem_cons_self
    have ih := fm_congr (l := l) fun x m => h x (List.mem_cons_of_mem _ m)
    cases q : g a with
    | none => rw [List.filterMap_cons_none (by rw [e]; exact q), List.filterMap_cons_none q, ih]
    | some b => rw [List.filterMap_cons_some (by rw [e]; exact q), List.filterMap_cons_some q, ih]
theorem pick_rev (xs : Array Value) : ((List.range xs.size).filterMap fun (k : Nat) => xs[(((xs.size : Nat) : Int) - 1 + (k : Int) * (-1)).toNat]?) = xs.toList.reverse := by
  have key : ∀ (ys : List Value), ((List.range ys.length).filterMap fun (k : Nat) => ys[((ys.length : Int) - 1 + (k : Int) * (-1)).toNat]?) = ys.reverse := by
    intro ys
    have e1 : ((List.range ys.length).filterMap fun (k : Nat) => ys[((ys.length : Int) - 1 + (k : Int) * (-1)).toNat]?) = (List.range ys.length).filterMap fun (k : Nat) => some (ys.reverse.getD k .none) := by
      apply fm_congr
      intro k hk
      have hk := List.mem_range.mp hk
      have e2 : ((ys.length : Int) - 1 + (k : Int) * (-1)).toNat = ys.length - 1 - k := by omega
      rw [e2, List.getElem?_eq_getElem (by omega), List.getD_eq_getElem?_getD, List.getElem?_eq_getElem (by rw [List.length_reverse]; exact hk), List.getElem_reverse]
      rfl
    rw [e1]
    have e3 : ∀ (f : Nat → Value) (l : List Nat), l.filterMap (fun k => some (f k)) = l.map f := fun f l => by
      induction l with
      | nil => rfl
      | cons a l ih => rw [List.filterMap_cons, ih, List.map_cons]
    rw [e3]
    apply List.ext_getElem?
    intro i
    by_cases hi : i < ys.length
    · rw [List.getElem?_map, List.getElem?_range hi, Option.map_some, List.getD_eq_getElem?_getD, List.getElem?_eq_getElem (by rw [List.length_reverse]; exact hi)]
      rfl
    · rw [List.getElem?_eq_none (by rw [List.length_map, List.length_range]; omega), List.getElem?_eq_none (by rw [List.length_reverse]; omega)]
  have := key xs.toList
  rw [Array.length_toList] at this
  rw [← this]
  apply fm_congr
  intro k _
  rw [Array.getElem?_toList]
section
variable {prog : Program} {w : World} {A : Around} {E : Value → Shared → Prop} {s : Shared}
theorem sliceApplied_rev {sl : Addr} {vs : Value} {n : Nat} {Q : Int × Int × Nat → Shared → Prop} (hs : s.heap.IsSliceOf sl .none .none vs) (ps : IsPart vs (some (-1)))
    (h : Q ((n : Int) - 1, -1, n) s) : wpAny (model prog w) A (Builtin.Slice.sliceApplied (.ref sl) (pure (n : Int))) Q E s := by
  obtain ⟨os, hos, hcs, hds⟩ := id hs
  unfold Builtin.Slice.sliceApplied Builtin.Slice.sliceFields
  refine wpAny_bind (wpAny_bind (wpAny_field hos hds (x := .none) rfl (wpAny_bind (wpAny_field hos hds (x := .none) rfl (wpAny_bind (wpAny_field hos hds (x := vs) rfl (wpAny_pure ?_)))))))
  refine wpAny_bind (HT.slicePart_ ps ?_)
  show wpAny _ _ (if ((-1 : Int) == 0) = true then _ else _) _ _ s
  rw [if_neg (by decide)]
  refine wpAny_bind (HT.slicePart_ .none (wpAny_bind (HT.slicePart_ .none (wpAny_bind (wpAny_pure ?_)))))
  show wpAny _ _ (match Builtin.Slice.sliceAdjust none none (-1) (n : Int) with | (lo, hi) => pure (lo, (-1 : Int), Builtin.Slice.slicePlaces lo hi (-1))) _ _ s
  rw [adjust_rev n]
  show wpAny _ _ (pure ((n : Int) - 1, (-1 : Int), Builtin.Slice.slicePlaces ((n : Int) - 1) (-1) (-1))) _ _ s
  rw [places_rev]
  exact wpAny_pure h
theorem getItem_tuple_rev {t sl : Addr} {items : Array Value} {vs : Value} {Q : Value → Shared → Prop} (ht : IsTup s.heap t items) (hs : s.heap.IsSliceOf sl .none .none vs) (ps : IsPart vs (some (-1)))
    (h : Q (.ref s.heap.objs.size) { s with heap := s.heap.push { cls := .type "tuple", data := .seq items.toList.reverse.toArray } })
    (hsz : items.size ≤ sizeLine) : wpAny (model prog w) A (getItem (.ref t) (.ref sl)) Q E s := by
  have htake : sizeOk (.seq items.toList.reverse.toArray) := by
    show items.toList.reverse.toArray.size ≤ sizeLine
    rw [List.size_toArray, List.length_reverse, Array.length_toList]
    exact hsz
  obtain ⟨os, hos, hcs, hds⟩ := id hs
  have hTs : s.TypeIs (.ref sl) "slice" := ⟨os, hos, hcs⟩
  unfold getItem
  try with_reducible refine wpAny_holding ?_
  first | refine wpAny_bind (wpAny_pure ?_) | skip
  refine wpAny_bind (wpAny_sequenceKey ht.typeIs (by decide) ?_)
  refine wpAny_bind (wpAny_callSpecial?_slot (name := Str.ofString "__getitem__") ht.typeIs PyProof.Rows.slot_tuple_getitem
    (wpAny_call_entry PyProof.Rows.slot_tuple_getitem ht.typeIs PyProof.Rows.entry_tuple_getitem ?_ (PyProof.Rows.args_tuple_getitem _ _)))
  show wpAny _ _ (Builtin.Tuple.tupleItemsOf (.ref t) >>= _) _ _ s
  refine wpAny_bind (tupleItemsOf_ ht ?_)
  refine wpAny_bind (wpAny_typeOf hTs ?_)
  rw [if_pos (by decide)]
  refine wpAny_bind (sliceApplied_rev hs ps ?_)
  have hno : ¬ (((items.size : Int) - 1 == 0 && (-1 : Int) == 1 && items.size == items.size) = true) := by
    intro q
    rw [Bool.and_eq_true, Bool.and_eq_true] at q
    have q1 : (-1 : Int) = 1 := eq_of_beq q.1.2
    omega
  show wpAny _ _ (if ((items.size : Int) - 1 == 0 && (-1 : Int) == 1 && items.size == items.size) = true then _ else _) _ _ s
  rw [if_neg hno, pick_rev]
  first
    | exact wpAny_bind (m := Builtin.Tuple.tupleExact _) (wpAny_newObj_type (wpAny_pure ⟨_, rfl, wpAny_pure h⟩) htake)
    | exact wpAny_bind (m := Builtin.Tuple.tupleExact _) (wpAny_newObj_type (wpAny_bind (wpAny_pure (wpAny_pure ⟨_, rfl, wpAny_pure h⟩))) htake)
    | exact wpAny_bind (wpAny_bind (m := Builtin.Tuple.tupleExact _) (wpAny_newObj_type (wpAny_pure (wpAny_pure ⟨_, rfl, wpAny_pure h⟩)) htake))
    | exact wpAny_bind (wpAny_bind (m := Builtin.Tuple.tupleExact _) (wpAny_newObj_type (wpAny_pure ⟨_, rfl, wpAny_pure h⟩) htake))
end
def dRevU (te : TD) (ts : TDO) : TD := fun δ R => te δ fun d => asU d fun xs => ts δ fun o => o = some (-1) ∧ R (.p (.tuple xs.reverse))
section
variable {X : Cx} {e st : Expr} {te : TD} {ts : TDO} {p2 pos : Pos}
theorem de_revU (he : PE X e (up (Cx.ky X) te)) (hst : PO X (some st) (upP (Cx.ky X) ts)) : PE X (.Subscript e (.Slice none none (some st) p2) pos) (up (Cx.ky X) (dRevU te ts)) := by
  refine ⟨fun pins s σ H Q I ⟨δ, R, c, L, es, h, k⟩ => ?_⟩
  refine Subscript_ (thn (he.run pins s σ H (fun x H1 => ∃ xs, Ext H H1 ∧ Rp X.K (hide (oor c.P L) H1) (.tuple xs) x ∧ ts δ fun o => o = some (-1) ∧ R (.p (.tuple xs.reverse))) I ⟨δ, _, c, L, es, h, fun v H1 d x1 r1 h1 => ?_⟩) fun v s1 ⟨x, H1, I1, r1, q1⟩ => ?_)
  · obtain ⟨xs, rfl, h2⟩ := asU_of h1
    exact ⟨xs, x1, r1, h2⟩
  obtain ⟨xs, x1, rx, h2⟩ := q1
  refine wpAny_Slice ?_
  rw [evalPart_none]
  refine wpAny_pure ?_
  refine wpAny_pure ?_
  refine thn (hst.run pins s1 σ H1 (fun o H2 => Ext H1 H2 ∧ o = some (-1) ∧ R (.p (.tuple xs.reverse))) I1 ⟨δ, _, c, L, es.on x1, h2, fun o H2 x2 h3 => ⟨x2, h3⟩⟩) fun vs s3 ⟨o, H3, I3, ps, x3, eo, q3⟩ => ?_
  subst eo
  have I4 : Inv X pins σ H3 { s3 with heap := s3.heap.push { cls := .type "slice", data := .fields #[.none, .none, vs] } } := I3.kept (t' := s3.toks) fun b ob q => Heap.get?_push_of_some _ q
  obtain ⟨a, us, e1, q, ra⟩ := rx.ext (x3.hide (oor c.P L))
  subst e1
  cases r1
  have q' : SqT X.K H3 a us := (hide_ext _ _).seqT q
  obtain ⟨its, rv, hl, hz⟩ := I4.tuple q'
  have hlen := rv.length
  show wpAny (model X.prog X.w) X.A (subscriptTail e (.Slice none none (some st) p2) (.ref a) (.ref s3.heap.objs.size)) (EP X pins σ Q) X.xe { s3 with heap := s3.heap.push { cls := .type "slice", data := .fields #[.none, .none, vs] } }
  refine tail_any (ops := [.ref a, .ref s3.heap.objs.size]) hl.typeIs PyProof.Rows.slot_tuple_getitem.lookup ?_ (by with_unfolding_all rfl)
  refine getItem_tuple_rev hl (Heap.IsSliceOf.new ..) ps ?_ (by rw [List.size_toArray] <;> omega)
  have hf : H3 { s3 with heap := s3.heap.push { cls := .type "slice", data := .fields #[.none, .none, vs] } }.heap.objs.size = none := I4.hok.fresh (Nat.le_refl _)
  refine ⟨.ref _, upd H3 _ (.tup us.reverse), I4.laid (t' := s3.toks) (o := .tup us.reverse) (fun b ob q => Heap.get?_push_of_some _ q) (Nat.le_refl _) ?_, rfl, ?_⟩
  · exact ⟨by rw [List.length_reverse]; exact hz, its.reverse, vals_rev rv, ⟨_, Heap.get?_push_size _ rfl, rfl, 0, rfl⟩⟩
  · exact k _ _ (.p (.tuple xs.reverse)) (x1.trans (x3.trans (Ext.new hf))) (new_tup (es.on (x1.trans x3)).dom hf ra.rev) q3
end
/-! a new list, taken as any value -/
theorem up_F {κ : Ky} {t : TD} {σ : Sg} {H : Hp} {Q : VK} (h : up κ t σ H Q) : upF κ t σ H Q := by
  obtain ⟨δ, R, c, L, es, h, k⟩ := h
  refine ⟨δ, R, c, L, es, h, fun p H' ds xs x hp ep ra h2 => k (.ref p) H' (.p (.list ds)) x ?_ h2⟩
  have Pp : oor c.P L p = false := by
    cases q : oor c.P L p with
    | false => rfl
    | true => exact absurd hp (es.dom.2 p q)
  refine ⟨p, xs, rfl, ?_, ra.ext (hide_less H' fun a z => ?_)⟩
  · rw [hide_at Pp]
    exact ep
  · unfold oor plus at *
    rw [Bool.or_eq_true] at z ⊢
    rcases z with z | z
    · exact .inl z
    · exact .inr (by rw [z]; rfl)
theorem de_F {X : Cx} {e : Expr} {t : TD} (h : PE X e (upF (Cx.ky X) t)) : PE X e (up (Cx.ky X) t) := PE.imp h fun _ _ _ z => up_F z
end MR

namespace MR
open PySem PySem.Spec PyProof.Rows L2
def topS (i : Nat) : Stmt := PySem.Challenge.pw_mailrings_k05_conditions_and_their_parts.main.body.getD i (.Pass ⟨0, 0, 0, 0⟩)
abbrev s_subject_passes : Stmt := topS 3
theorem sc_subject_passes : FnScope ["word", "text", "subject"] ["word", "text", "subject"] (defScope s_subject_passes) := ⟨rfl, rfl, rfl, by decide +kernel, rfl, by decide +kernel, by decide +kernel⟩
abbrev s_single_holds : Stmt := topS 4
theorem sc_single_holds : FnScope ["word", "part", "message", "sender", "_", "subject", "marks"] ["word", "part", "message"] (defScope s_single_holds) := ⟨rfl, rfl, rfl, by decide +kernel, rfl, by decide +kernel, by decide +kernel⟩
abbrev s_holds : Stmt := topS 5
theorem sc_holds : FnScope ["condition", "message", "word", "part", "inner"] ["condition", "message"] (defScope s_holds) := ⟨rfl, rfl, rfl, by decide +kernel, rfl, by decide +kernel, by decide +kernel⟩
abbrev s_singles_of : Stmt := topS 6
theorem sc_singles_of : FnScope ["condition", "word", "part", "inner", "single"] ["condition"] (defScope s_singles_of) := ⟨rfl, rfl, rfl, by decide +kernel, rfl, by decide +kernel, by decide +kernel⟩
abbrev s_tests_of : Stmt := topS 7
theorem sc_tests_of : FnScope ["condition", "word", "part"] ["condition"] (defScope s_tests_of) := ⟨rfl, rfl, rfl, by decide +kernel, rfl, by decide +kernel, by decide +kernel⟩
abbrev s_marks_of : Stmt := topS 8
theorem sc_marks_of : FnScope ["condition", "word", "part"] ["condition"] (defScope s_marks_of) := ⟨rfl, rfl, rfl, by decide +kernel, rfl, by decide +kernel, by decide +kernel⟩
abbrev s_names_of : Stmt := topS 9
theorem sc_names_of : FnScope ["condition", "word", "part", "name"] ["condition"] (defScope s_names_of) := ⟨rfl, rfl, rfl, by decide +kernel, rfl, by decide +kernel, by decide +kernel⟩
abbrev s_w_well : Stmt := topS 11
theorem sc_w_well : FnScope ["script", "start", "mixed", "entry", "digits"] ["script", "start"] (defScope s_w_well) := ⟨rfl, rfl, rfl, by decide +kernel, rfl, by decide +kernel, by decide +kernel⟩
abbrev s_w_draw : Stmt := topS 12
theorem sc_w_draw : FnScope ["well", "many", "found"] ["well", "many"] (defScope s_w_draw) := ⟨rfl, rfl, rfl, by decide +kernel, rfl, by decide +kernel, by decide +kernel⟩
abbrev s_w_choose : Stmt := topS 13
theorem sc_w_choose : FnScope ["well", "things"] ["well", "things"] (defScope s_w_choose) := ⟨rfl, rfl, rfl, by decide +kernel, rfl, by decide +kernel, by decide +kernel⟩
abbrev s_w_text : Stmt := topS 14
theorem sc_w_text : FnScope ["well", "many", "turn"] ["well"] (defScope s_w_text) := ⟨rfl, rfl, rfl, by decide +kernel, rfl, by decide +kernel, by decide +kernel⟩
abbrev s_w_names : Stmt := topS 15
theorem sc_w_names : FnScope ["well", "some", "found", "turn"] ["well", "some"] (defScope s_w_names) := ⟨rfl, rfl, rfl, by decide +kernel, rfl, by decide +kernel, by decide +kernel⟩
abbrev s_w_condition : Stmt := topS 16
theorem sc_w_condition : FnScope ["well", "deep", "pick", "inner", "turn"] ["well", "deep"] (defScope s_w_condition) := ⟨rfl, rfl, rfl, by decide +kernel, rfl, by decide +kernel, by decide +kernel⟩
abbrev s_w_message : Stmt := topS 17
theorem sc_w_message : FnScope ["well", "subject", "turn", "marks", "word", "sender"] ["well"] (defScope s_w_message) := ⟨rfl, rfl, rfl, by decide +kernel, rfl, by decide +kernel, by decide +kernel⟩
abbrev s_w_holds : Stmt := topS 18
theorem sc_w_holds : FnScope ["condition", "message", "word", "what", "subject", "at", "found", "one"] ["condition", "message"] (defScope s_w_holds) := ⟨rfl, rfl, rfl, by decide +kernel, rfl, by decide +kernel, by decide +kernel⟩
abbrev s_w_leaves : Stmt := topS 19
theorem sc_w_leaves : FnScope ["condition", "found", "one"] ["condition"] (defScope s_w_leaves) := ⟨rfl, rfl, rfl, by decide +kernel, rfl, by decide +kernel, by decide +kernel⟩
abbrev s_w_typed_right : Stmt := topS 20
theorem sc_w_typed_right : FnScope ["wide", "letter", "eight", "sign", "at", "page", "nots", "one", "found"] [] (defScope s_w_typed_right) := ⟨rfl, rfl, rfl, by decide +kernel, rfl, by decide +kernel, by decide +kernel⟩
abbrev s_law : Stmt := topS 21
theorem sc_law : FnScope ["script", "start", "well", "turn", "one", "parts", "tests", "part", "marks", "names", "due", "again", "told", "found", "look", "message", "text", "some"] ["script"] (defScope s_law) := ⟨rfl, rfl, rfl, by decide +kernel, rfl, by decide +kernel, by decide +kernel⟩
theorem bt_enumerate : bootBuiltins "enumerate" = some (.type "enumerate") := by decide +kernel
theorem bt_int : bootBuiltins "int" = some (.type "int") := by decide +kernel
theorem bt_len : bootBuiltins "len" = some (.builtin "len") := by decide +kernel
theorem bt_list : bootBuiltins "list" = some (.type "list") := by decide +kernel
theorem bt_max : bootBuiltins "max" = some (.builtin "max") := by decide +kernel
theorem bt_min : bootBuiltins "min" = some (.builtin "min") := by decide +kernel
theorem bt_range : bootBuiltins "range" = some (.type "range") := by decide +kernel
theorem bt_repr : bootBuiltins "repr" = some (.builtin "repr") := by decide +kernel
theorem bt_set : bootBuiltins "set" = some (.type "set") := by decide +kernel
theorem bt_sorted : bootBuiltins "sorted" = some (.builtin "sorted") := by decide +kernel
theorem bt_tuple : bootBuiltins "tuple" = some (.type "tuple") := by decide +kernel
structure Tx (K : PySem.W.Frag) (mg : Str → Option Value) where
  a_subject_passes : Addr
  d_subject_passes : FuncData
  F_subject_passes : Fun K "subject_passes" "subject_passes" s_subject_passes a_subject_passes d_subject_passes
  b_subject_passes : Binds K d_subject_passes ["word", "text", "subject"] []
  m_subject_passes : mg "subject_passes" = some (.ref a_subject_passes)
  a_single_holds : Addr
  d_single_holds : FuncData
  F_single_holds : Fun K "single_holds" "single_holds" s_single_holds a_single_holds d_single_holds
  b_single_holds : Binds K d_single_holds ["word", "part", "message"] []
  m_single_holds : mg "single_holds" = some (.ref a_single_holds)
  a_holds : Addr
  d_holds : FuncData
  F_holds : Fun K "holds" "holds" s_holds a_holds d_holds
  b_holds : Binds K d_holds ["condition", "message"] []
  m_holds : mg "holds" = some (.ref a_holds)
  a_singles_of : Addr
  d_singles_of : FuncData
  F_singles_of : Fun K "singles_of" "singles_of" s_singles_of a_singles_of d_singles_of
  b_singles_of : Binds K d_singles_of ["condition"] []
  m_singles_of : mg "singles_of" = some (.ref a_singles_of)
  a_tests_of : Addr
  d_tests_of : FuncData
  F_tests_of : Fun K "tests_of" "tests_of" s_tests_of a_tests_of d_tests_of
  b_tests_of : Binds K d_tests_of ["condition"] []
  m_tests_of : mg "tests_of" = some (.ref a_tests_of)
  a_marks_of : Addr
  d_marks_of : FuncData
  F_marks_of : Fun K "marks_of" "marks_of" s_marks_of a_marks_of d_marks_of
  b_marks_of : Binds K d_marks_of ["condition"] []
  m_marks_of : mg "marks_of" = some (.ref a_marks_of)
  a_names_of : Addr
  d_names_of : FuncData
  F_names_of : Fun K "names_of" "names_of" s_names_of a_names_of d_names_of
  b_names_of : Binds K d_names_of ["condition"] []
  m_names_of : mg "names_of" = some (.ref a_names_of)
  a_w_well : Addr
  d_w_well : FuncData
  F_w_well : Fun K "_law_well" "_law_well" s_w_well a_w_well d_w_well
  b_w_well : Binds K d_w_well ["script", "start"] []
  m_w_well : mg "_law_well" = some (.ref a_w_well)
  a_w_draw : Addr
  d_w_draw : FuncData
  F_w_draw : Fun K "_law_draw" "_law_draw" s_w_draw a_w_draw d_w_draw
  b_w_draw : Binds K d_w_draw ["well", "many"] []
  m_w_draw : mg "_law_draw" = some (.ref a_w_draw)
  a_w_choose : Addr
  d_w_choose : FuncData
  F_w_choose : Fun K "_law_choose" "_law_choose" s_w_choose a_w_choose d_w_choose
  b_w_choose : Binds K d_w_choose ["well", "things"] []
  m_w_choose : mg "_law_choose" = some (.ref a_w_choose)
  a_w_text : Addr
  d_w_text : FuncData
  F_w_text : Fun K "_law_text" "_law_text" s_w_text a_w_text d_w_text
  b_w_text : Binds K d_w_text ["well"] []
  m_w_text : mg "_law_text" = some (.ref a_w_text)
  a_w_names : Addr
  d_w_names : FuncData
  F_w_names : Fun K "_law_names" "_law_names" s_w_names a_w_names d_w_names
  b_w_names : Binds K d_w_names ["well", "some"] []
  m_w_names : mg "_law_names" = some (.ref a_w_names)
  a_w_condition : Addr
  d_w_condition : FuncData
  F_w_condition : Fun K "_law_condition" "_law_condition" s_w_condition a_w_condition d_w_condition
  b_w_condition : Binds K d_w_condition ["well", "deep"] []
  m_w_condition : mg "_law_condition" = some (.ref a_w_condition)
  a_w_message : Addr
  d_w_message : FuncData
  F_w_message : Fun K "_law_message" "_law_message" s_w_message a_w_message d_w_message
  b_w_message : Binds K d_w_message ["well"] []
  m_w_message : mg "_law_message" = some (.ref a_w_message)
  a_w_holds : Addr
  d_w_holds : FuncData
  F_w_holds : Fun K "_law_holds" "_law_holds" s_w_holds a_w_holds d_w_holds
  b_w_holds : Binds K d_w_holds ["condition", "message"] []
  m_w_holds : mg "_law_holds" = some (.ref a_w_holds)
  a_w_leaves : Addr
  d_w_leaves : FuncData
  F_w_leaves : Fun K "_law_leaves" "_law_leaves" s_w_leaves a_w_leaves d_w_leaves
  b_w_leaves : Binds K d_w_leaves ["condition"] []
  m_w_leaves : mg "_law_leaves" = some (.ref a_w_leaves)
  a_w_typed_right : Addr
  d_w_typed_right : FuncData
  F_w_typed_right : Fun K "_law_typed_right" "_law_typed_right" s_w_typed_right a_w_typed_right d_w_typed_right
  b_w_typed_right : Binds K d_w_typed_right [] []
  m_w_typed_right : mg "_law_typed_right" = some (.ref a_w_typed_right)
  n_enumerate : mg "enumerate" = none
  n_int : mg "int" = none
  n_len : mg "len" = none
  n_list : mg "list" = none
  n_max : mg "max" = none
  n_min : mg "min" = none
  n_range : mg "range" = none
  n_repr : mg "repr" = none
  n_set : mg "set" = none
  n_sorted : mg "sorted" = none
  n_tuple : mg "tuple" = none
  u_GROUP_WORDS : Value
  c_GROUP_WORDS : mg "GROUP_WORDS" = some u_GROUP_WORDS
  q_GROUP_WORDS : Wtn K u_GROUP_WORDS ["all", "any"]
  u_TEST_WORDS : Value
  c_TEST_WORDS : mg "TEST_WORDS" = some u_TEST_WORDS
  q_TEST_WORDS : Wtn K u_TEST_WORDS ["contains", "begins", "ends", "is"]
def okC (c : Nat) : Bool := decide (32 ≤ c) && decide (c ≤ 126) && !decide (c = 37)
def loC (c : Nat) : Bool := decide (97 ≤ c) && decide (c ≤ 122)
def isName (d : PyData) : Bool := match d with
  | .str x => decide (1 ≤ x.length) && decide (x.length ≤ 12) && x.cps.toList.all loC
  | _ => false
def isSubj (d : PyData) : Bool := match d with
  | .str x => x.cps.toList.all okC
  | _ => false
def isTxt (d : PyData) : Bool := match d with
  | .str x => isSubj (.str x) && decide (1 ≤ x.length) && decide (x.length ≤ 8)
  | _ => false
def risB : List PyData → Bool
  | .str x :: .str y :: r => ltS x y && risB (.str y :: r)
  | _ => true
def isNT (d : PyData) : Bool := match d with
  | .tuple xs => xs.all isName && risB xs
  | _ => false
def isMsg (d : PyData) : Bool := match d with
  | .tuple [a, b, c, m] => isName a && isName b && isSubj c && isNT m
  | _ => false
abbrev Wt (d : PyData) : Prop := d.weight ≤ 4000
def gP (f : PyData → Bool) : FL := fun ds R => ∃ d, ds = [.p d] ∧ Wt d ∧ R (.p (.bool (f d)))
def gCode : FL := fun ds R => ∃ c : Nat, ds = [.p (.int c)] ∧ R (.p (.bool (okC c)))
theorem leS_1 {a b : Nat} : leS ⟨#[a]⟩ ⟨#[b]⟩ = decide (a ≤ b) := by
  unfold leS
  have e : ([b] < [a]) ↔ b < a := by
    rw [List.cons_lt_cons_iff]
    simp
  show (!decide ([b] < [a])) = _
  by_cases h : b < a
  · rw [decide_eq_true (e.mpr h), decide_eq_false (by omega)]
    rfl
  · rw [decide_eq_false (fun z => h (e.mp z)), decide_eq_true (by omega)]
    rfl
theorem wt_str {x : Str} (h : Wt (.str x)) : x.length ≤ 4000 := by
  have h' : PyData.weight (.str x) ≤ 4000 := h
  rw [show PyData.weight (.str x) = x.cps.size by simp only [PyData.weight]] at h'
  exact h'
theorem big {n : Nat} (h : n ≤ 4000) : n ≤ sizeLine := Nat.le_trans h (by decide)
theorem signs_len (x : Str) : (signsD x).length = x.length := by
  unfold signsD
  rw [List.length_map, Array.length_toList]
  rfl
theorem mem_signs {x : Str} {d : PyData} (h : d ∈ signsD x) : ∃ c ∈ x.cps.toList, d = .str ⟨#[c]⟩ := by
  unfold signsD at h
  obtain ⟨c, hc, e⟩ := List.mem_map.mp h
  exact ⟨c, hc, e.symm⟩
theorem all_signs {x : Str} {q : PyData → Bool} {p : Nat → Bool} (e : ∀ c, q (.str ⟨#[c]⟩) = p c) : (signsD x).all q = x.cps.toList.all p := by
  unfold signsD
  rw [List.all_map]
  congr 1
  funext c
  exact e c
theorem all_map_of {ds : List PyData} {q : PyData → Bool} {R : DV → Prop} (h : R (.p (.bool (ds.all q)))) : fAll [.p (.list (ds.map fun d => .bool (q d)))] R := ⟨ds.map q, by rw [List.map_map]; rfl, by rw [List.all_map]; exact h⟩
theorem s_a : (Str.ofString "a") = ⟨#[97]⟩ := by decide +kernel
theorem s_z : (Str.ofString "z") = ⟨#[122]⟩ := by decide +kernel
theorem s_sp : (Str.ofString " ") = ⟨#[32]⟩ := by decide +kernel
theorem s_ti : (Str.ofString "~") = ⟨#[126]⟩ := by decide +kernel
def sg1 (p : Nat → Bool) (d : PyData) : Bool := match d with
  | .str x => (match x.cps.toList with | [c] => p c | _ => false)
  | _ => false
abbrev loD := sg1 loC
abbrev okD' := sg1 okC
theorem emp_fm {ds : List PyData} {q : PyData → Bool} : (ds.filterMap fun d => if q d = true then none else some d).isEmpty = ds.all q := by
  induction ds with
  | nil => rfl
  | cons d ds ih =>
    cases e : q d with
    | true => rw [List.filterMap_cons_none (by simp [e]), ih, List.all_cons, e, Bool.true_and]
    | false => rw [List.filterMap_cons_some (b := d) (by simp [e]), List.all_cons, e]; rfl
theorem isName_str {x : Str} (h : isName (.str x) = true) : x.length ≤ 12 := by
  simp only [isName, Bool.and_eq_true, decide_eq_true_eq] at h
  exact h.1.2
theorem wt_mem {x : PyData} : ∀ {xs : List PyData}, x ∈ xs → x.weight + 1 ≤ PyData.weightAll xs
  | [], h => absurd h List.not_mem_nil
  | y :: ys, h => by
    rw [show PyData.weightAll (y :: ys) = y.weight + 1 + PyData.weightAll ys by simp only [PyData.weightAll]]
    rcases List.mem_cons.mp h with e | m
    · rw [e]; omega
    · have := wt_mem m; omega
theorem wt_len : ∀ xs : List PyData, xs.length ≤ PyData.weightAll xs
  | [] => Nat.zero_le _
  | y :: ys => by
    rw [show PyData.weightAll (y :: ys) = y.weight + 1 + PyData.weightAll ys by simp only [PyData.weightAll], List.length_cons]
    have := wt_len ys
    omega
theorem wt_tup {xs : List PyData} (h : Wt (.tuple xs)) : PyData.weightAll xs ≤ 4000 := by
  have h' : PyData.weight (.tuple xs) ≤ 4000 := h
  rw [show PyData.weight (.tuple xs) = PyData.weightAll xs by simp only [PyData.weight]] at h'
  exact h'
theorem wt_in {xs : List PyData} {x : PyData} (h : Wt (.tuple xs)) (m : x ∈ xs) : Wt x := by
  have := wt_tup h
  have := wt_mem m
  show x.weight ≤ 4000
  omega
theorem all_sorted {x : Str} {zs : List Str} {p : Nat → Bool} (hm : ∀ y, y ∈ zs ↔ y ∈ x.cps.toList.map fun c => (⟨#[c]⟩ : Str)) : (zs.map PyData.str).all (sg1 p) = x.cps.toList.all p := by
  rw [Bool.eq_iff_iff, List.all_eq_true, List.all_eq_true]
  constructor
  · intro h c hc
    exact h (.str ⟨#[c]⟩) (List.mem_map.mpr ⟨_, (hm _).mpr (List.mem_map.mpr ⟨c, hc, rfl⟩), rfl⟩)
  · intro h d hd
    obtain ⟨y, hy, rfl⟩ := List.mem_map.mp hd
    obtain ⟨c, hc, rfl⟩ := List.mem_map.mp ((hm y).mp hy)
    exact h c hc
theorem cut_from {xs : List PyData} (k : Nat) : cutD xs (some (k : Int)) none = xs.drop k := by
  unfold cutD
  rw [HT.sIx_nat, HT.sIx_none]
  by_cases h : k ≤ xs.length
  · rw [Nat.min_eq_left h]
    exact List.take_of_length_le (by rw [List.length_drop]; exact Nat.le_refl _)
  · rw [Nat.min_eq_right (by omega), Nat.sub_self, List.take_zero, List.drop_eq_nil_of_le (by omega)]
theorem cut_to {xs : List PyData} (k : Nat) : cutD xs none (some (k : Int)) = xs.take k := by
  unfold cutD
  rw [HT.sIx_nat, HT.sIx_none, List.drop_zero, Nat.sub_zero]
  by_cases h : k ≤ xs.length
  · rw [Nat.min_eq_left h]
  · rw [Nat.min_eq_right (by omega), List.take_length, List.take_of_length_le (by omega)]
def prB (d : PyData) : Bool := match d with
  | .tuple [.str a, .str b] => ltS a b
  | _ => false
theorem name_str {d : PyData} (h : isName d = true) : ∃ x, d = .str x := by
  cases d with
  | str x => exact ⟨x, rfl⟩
  | _ => exact Bool.noConfusion h
theorem mem_pairs {d : PyData} : ∀ {xs ys : List PyData}, d ∈ pairsD xs ys → ∃ a ∈ xs, ∃ b ∈ ys, d = .tuple [a, b]
  | [], _, h => absurd h List.not_mem_nil
  | _ :: _, [], h => absurd h List.not_mem_nil
  | x :: xs, y :: ys, h => by
    rcases List.mem_cons.mp (show d ∈ PyData.tuple [x, y] :: pairsD xs ys from h) with e | m
    · exact ⟨x, List.mem_cons_self, y, List.mem_cons_self, e⟩
    · obtain ⟨a, ha, b, hb, e⟩ := mem_pairs m
      exact ⟨a, List.mem_cons_of_mem _ ha, b, List.mem_cons_of_mem _ hb, e⟩
theorem all_pairs : ∀ {xs : List PyData}, xs.all isName = true → (pairsD xs (xs.drop 1)).all prB = risB xs
  | [], _ => rfl
  | [x], h => by
    obtain ⟨a, rfl⟩ := name_str (List.all_eq_true.mp h x List.mem_cons_self)
    rfl
  | x :: y :: r, h => by
    rw [List.all_cons, Bool.and_eq_true] at h
    obtain ⟨a, rfl⟩ := name_str h.1
    obtain ⟨b, rfl⟩ := name_str (List.all_eq_true.mp h.2 y List.mem_cons_self)
    have ih := all_pairs h.2
    show (prB (.tuple [.str a, .str b]) && (pairsD (.str b :: r) ((PyData.str b :: r).drop 1)).all prB) = (ltS a b && risB (.str b :: r))
    rw [ih]
    rfl
theorem risB_iff : ∀ {xs : List Str}, risB (xs.map .str) = true ↔ RisS xs
  | [] => ⟨fun _ => List.Pairwise.nil, fun _ => rfl⟩
  | [x] => ⟨fun _ => List.pairwise_singleton _ _, fun _ => rfl⟩
  | x :: y :: r => by
    have ih := risB_iff (xs := y :: r)
    show (ltS x y && risB ((y :: r).map .str)) = true ↔ _
    rw [Bool.and_eq_true, ih]
    constructor
    · rintro ⟨h1, h2⟩
      have h1 : x.cps.toList < y.cps.toList := of_decide_eq_true h1
      refine List.Pairwise.cons (fun z hz => ?_) h2
      rcases List.mem_cons.mp hz with e | m
      · rw [e]; exact h1
      · exact Std.lt_trans h1 ((List.pairwise_cons.mp h2).1 z m)
    · intro h
      obtain ⟨h1, h2⟩ := List.pairwise_cons.mp h
      exact ⟨decide_eq_true (h1 y List.mem_cons_self), h2⟩
theorem names_strs : ∀ {xs : List PyData}, xs.all isName = true → ∃ ks : List Str, xs = ks.map .str
  | [], _ => ⟨[], rfl⟩
  | x :: xs, h => by
    rw [List.all_cons, Bool.and_eq_true] at h
    obtain ⟨a, rfl⟩ := name_str h.1
    obtain ⟨ks, rfl⟩ := names_strs h.2
    exact ⟨a :: ks, rfl⟩
theorem isMsg_not {xs : List PyData} (h : xs.length ≠ 4) : isMsg (.tuple xs) = false := by
  match xs, h with
  | [], _ => rfl
  | [_], _ => rfl
  | [_, _], _ => rfl
  | [_, _, _], _ => rfl
  | [_, _, _, _], h => exact absurd rfl h
  | _ :: _ :: _ :: _ :: _ :: _, _ => rfl
theorem eqv_int {a b : Int} : PyData.eqv (.int a) (.int b) = decide (a = b) := by
  simp only [PyData.eqv]
  by_cases z : a = b
  · subst z; rw [decide_eq_true rfl]; exact beq_self_eq_true a
  · rw [decide_eq_false z]
    exact beq_eq_false_iff_ne.mpr z
theorem plain_strs (ks : List Str) : (PyData.list (ks.map .str)).plain = true := by
  simp only [PyData.plain]
  induction ks with
  | nil => rfl
  | cons k ks ih => simp only [List.map_cons, PyData.plainAll, PyData.plain, ih, Bool.true_and]
theorem depthAll_strs (ks : List Str) : PyData.depthAll (ks.map .str) = 0 := by
  induction ks with
  | nil => rfl
  | cons k ks ih => simp only [List.map_cons, PyData.depthAll, PyData.depth, ih, Nat.max_self]
theorem depth_strs (ks : List Str) : (PyData.list (ks.map .str)).depth = 1 := by
  simp only [PyData.depth, depthAll_strs]
theorem eqvAll_strs : ∀ ks zs : List Str, PyData.eqvAll (ks.map .str) (zs.map .str) = decide (ks = zs)
  | [], [] => rfl
  | [], z :: zs => rfl
  | k :: ks, [] => rfl
  | k :: ks, z :: zs => by
    simp only [List.map_cons, PyData.eqvAll, PyData.eqv, eqvAll_strs ks zs]
    by_cases h : k = z
    · subst h
      simp
    · simp [h]
theorem eqv_strs (ks zs : List Str) : PyData.eqv (.list (ks.map .str)) (.list (zs.map .str)) = decide (ks = zs) := by
  simp only [PyData.eqv, eqvAll_strs]
theorem ris_dec {ks zs : List Str} (hr : RisS zs) (hm : ∀ x, x ∈ zs ↔ x ∈ ks) : decide (ks = zs) = risB (ks.map .str) := by
  rw [Bool.eq_iff_iff, risB_iff, decide_eq_true_iff]
  exact ⟨fun e => e ▸ hr, fun h => risS_one h hr fun x => (hm x).symm⟩
/-- a drawn number: any below m -/
def gDraw : FL := fun ds R => ∃ m : Int, ds = [.well, .p (.int m)] ∧ 0 < m ∧ m < 1000000 ∧ ∀ k : Nat, (k : Int) < m → R (.p (.int k))
def gWell : FL := fun ds R => ∃ (ns : List Int) (a : Nat), ds = [.scr ns, .p (.int a)] ∧ ns.length ≤ 63 ∧ (∀ n ∈ ns, Bd 1048576 n) ∧ a ≤ 63 ∧ R .well
def gChoose : FL := fun ds R => ∃ xs : List PyData, ds = [.well, .p (.list xs)] ∧ 0 < xs.length ∧ xs.length < 1000000 ∧ ∀ x ∈ xs, R (.p x)
theorem bd32 {n : Nat} {i : Int} (h : i.natAbs < 4294967296) (hn : 32 ≤ n := by decide) : Bd n i := ⟨32, by decide, hn, h⟩
theorem bd64 {n : Nat} {i : Int} (h : i.natAbs < 18446744073709551616) (hn : 64 ≤ n := by decide) : Bd n i := ⟨64, by decide, hn, h⟩
structure Gd (n m : Nat) (d : PyData) : Prop where
  lf : d.leavesShort 64 = true
  sh : d.showable = true
  wt : d.weight ≤ n
  dp : d.depth ≤ m
theorem no_depth {xs : List PyData} (h : (PyData.tuple xs).depth ≤ 0) : False := by
  rw [show (PyData.tuple xs).depth = PyData.depthAll xs + 1 by simp only [PyData.depth]] at h
  omega
theorem Gd.shows {n m : Nat} {d : PyData} (g : Gd n m d) (hn : n ≤ 100000) (hm : m ≤ 90) : Shows d := ⟨g.sh, by
  have := PyData.shown_le 64 (by decide) d g.lf
  have := g.wt
  refine Nat.le_trans ‹d.shown.length ≤ _› (Nat.le_trans (Nat.add_le_add_right (Nat.mul_le_mul (Nat.le_refl _) (Nat.le_trans g.wt hn)) _) (by decide)), Nat.le_trans g.dp (by omega)⟩
def contD (d : PyData) : Prop := (∃ xs, d = .list xs) ∨ (∃ xs, d = .tuple xs)
def gBent (n : Nat) : FL := fun ds R => ∃ (xs : List PyData) (m : Nat), ds = [.well, .p (.tuple xs)] ∧ Gd m n (.tuple xs) ∧ m ≤ 3000 ∧ ∀ d, Gd (m + 600) (n + 1) d → contD d → R (.p d)
def anyL : List PyData := [.none, .bool true, .bool false, .int 0, .int 1, .int (-1), .int (10 ^ Int.toNat 59), .str (Str.ofString ""), .str (Str.ofString "a"), .str (Str.ofString "A"), .str (Str.ofString "a b"), .str (Str.ofString "abcdefghijkl"), .str (Str.ofString "abcdefghijklm"), .str (Str.ofString "a\n"), .str (Str.ofString "\t"), .str (Str.ofString "12345678"), .str (Str.ofString "123456789"), .tuple [], .tuple [.str (Str.ofString "a")], .tuple [.str (Str.ofString "b"), .str (Str.ofString "a")], .tuple [.str (Str.ofString "a"), .str (Str.ofString "a")], .list [.str (Str.ofString "a")], .list [], .dict [], .tuple [.str (Str.ofString "a"), .str (Str.ofString "b")], .str (Txt.mul (Str.ofString "~") 40)]
theorem cut_from1 {xs : List PyData} (k : Nat) : cutD xs (some ((k : Int) + 1)) none = xs.drop (k + 1) := cut_from (k + 1)
theorem lf_all {B : Nat} : ∀ xs : List PyData, PyData.leavesShortAll B xs = xs.all (PyData.leavesShort B)
  | [] => rfl
  | x :: xs => by simp only [PyData.leavesShortAll, List.all_cons, lf_all xs]
theorem sh_all : ∀ xs : List PyData, PyData.showableAll xs = xs.all PyData.showable
  | [] => rfl
  | x :: xs => by simp only [PyData.showableAll, List.all_cons, sh_all xs]
theorem dp_all {k : Nat} : ∀ {xs : List PyData}, PyData.depthAll xs ≤ k ↔ ∀ x ∈ xs, x.depth ≤ k
  | [] => by simp [PyData.depthAll]
  | x :: xs => by
    simp only [PyData.depthAll, List.mem_cons, forall_eq_or_imp]
    rw [Nat.max_le, dp_all (xs := xs)]
theorem wt_app : ∀ xs ys : List PyData, PyData.weightAll (xs ++ ys) = PyData.weightAll xs + PyData.weightAll ys
  | [], ys => by rw [List.nil_append, show PyData.weightAll [] = 0 by simp only [PyData.weightAll], Nat.zero_add]
  | x :: xs, ys => by
    rw [List.cons_append, show PyData.weightAll (x :: (xs ++ ys)) = x.weight + 1 + PyData.weightAll (xs ++ ys) by simp only [PyData.weightAll], wt_app xs ys, show PyData.weightAll (x :: xs) = x.weight + 1 + PyData.weightAll xs by simp only [PyData.weightAll]]
    omega
theorem wt_one (x : PyData) : PyData.weightAll [x] = x.weight + 1 := by simp only [PyData.weightAll, Nat.add_zero]
theorem wt_td (xs : List PyData) (i : Nat) : PyData.weightAll (xs.take i) + PyData.weightAll (xs.drop i) = PyData.weightAll xs := by rw [← wt_app, List.take_append_drop]
theorem wt_drop (xs : List PyData) (i : Nat) : PyData.weightAll (xs.drop (i + 1)) ≤ PyData.weightAll (xs.drop i) := by
  rw [← List.drop_drop]
  have := wt_td (xs.drop i) 1
  omega
structure GdA (n m : Nat) (xs : List PyData) : Prop where
  lf : ∀ x ∈ xs, x.leavesShort 64 = true
  sh : ∀ x ∈ xs, x.showable = true
  wt : PyData.weightAll xs ≤ n
  dp : ∀ x ∈ xs, x.depth + 1 ≤ m
theorem GdA.tup {n m : Nat} {xs : List PyData} (g : GdA n m xs) (h1 : 1 ≤ m) : Gd n m (.tuple xs) := ⟨by simp only [PyData.leavesShort]; rw [lf_all]; exact List.all_eq_true.mpr g.lf, by simp only [PyData.showable]; rw [sh_all]; exact List.all_eq_true.mpr g.sh, by simp only [PyData.weight]; exact g.wt, by
  simp only [PyData.depth]
  have : PyData.depthAll xs ≤ m - 1 := dp_all.mpr fun x hx => by have := g.dp x hx; omega
  omega⟩
theorem GdA.lst {n m : Nat} {xs : List PyData} (g : GdA n m xs) (h1 : 1 ≤ m) : Gd n m (.list xs) := ⟨by simp only [PyData.leavesShort]; rw [lf_all]; exact List.all_eq_true.mpr g.lf, by simp only [PyData.showable]; rw [sh_all]; exact List.all_eq_true.mpr g.sh, by simp only [PyData.weight]; exact g.wt, by
  simp only [PyData.depth]
  have : PyData.depthAll xs ≤ m - 1 := dp_all.mpr fun x hx => by have := g.dp x hx; omega
  omega⟩
theorem Gd.all {n m : Nat} {xs : List PyData} (g : Gd n m (.tuple xs)) : GdA n m xs := by
  have lf := g.lf
  have sh := g.sh
  have wt := g.wt
  have dp := g.dp
  simp only [PyData.leavesShort, PyData.showable, PyData.weight, PyData.depth, lf_all, sh_all] at lf sh wt dp
  have dp' := dp_all.mp (show PyData.depthAll xs ≤ m - 1 by omega)
  exact ⟨List.all_eq_true.mp lf, List.all_eq_true.mp sh, wt, fun x hx => by have := dp' x hx; omega⟩
theorem Gd.up {n m n' m' : Nat} {d : PyData} (g : Gd n m d) (h1 : n ≤ n') (h2 : m ≤ m') : Gd n' m' d := ⟨g.lf, g.sh, Nat.le_trans g.wt h1, Nat.le_trans g.dp h2⟩
theorem gd_cut {m n N i : Nat} {xs : List PyData} (q : Gd m n (.tuple xs)) (hn : n ≤ N) (h1 : 1 ≤ N) : Gd m N (.tuple (xs.take i ++ xs.drop (i + 1))) := by
  have g := q.all
  have w1 := wt_td xs i
  have w2 := wt_drop xs i
  have w3 := g.wt
  have mem : ∀ y ∈ xs.take i ++ xs.drop (i + 1), y ∈ xs := fun y hy => by
    rcases List.mem_append.mp hy with z | z
    · exact List.mem_of_mem_take z
    · exact List.mem_of_mem_drop z
  exact GdA.tup ⟨fun y hy => g.lf y (mem y hy), fun y hy => g.sh y (mem y hy), by rw [wt_app]; omega, fun y hy => Nat.le_trans (g.dp y (mem y hy)) hn⟩ h1
theorem gd_put {m n a b N i j : Nat} {xs : List PyData} {x : PyData} (q : Gd m n (.tuple xs)) (g : Gd a b x) (hij : j = i ∨ j = i + 1) (hn : n ≤ N) (hb : b + 1 ≤ N) : Gd (m + a + 1) N (.tuple (xs.take i ++ [x] ++ xs.drop j)) := by
  have g' := q.all
  have w1 := wt_td xs i
  have w2 := wt_drop xs i
  have w3 := g'.wt
  have w4 := g.wt
  have mem : ∀ y ∈ xs.take i ++ [x] ++ xs.drop j, y ∈ xs ∨ y = x := fun y hy => by
    rcases List.mem_append.mp hy with z | z
    · rcases List.mem_append.mp z with z | z
      · exact .inl (List.mem_of_mem_take z)
      · exact .inr (List.mem_singleton.mp z)
    · exact .inl (List.mem_of_mem_drop z)
  refine GdA.tup ⟨fun y hy => ?_, fun y hy => ?_, ?_, fun y hy => ?_⟩ (by omega)
  · rcases mem y hy with z | z
    · exact g'.lf y z
    · rw [z]; exact g.lf
  · rcases mem y hy with z | z
    · exact g'.sh y z
    · rw [z]; exact g.sh
  · rw [wt_app, wt_app, wt_one]
    rcases hij with e | e
    · subst e; omega
    · subst e; omega
  · rcases mem y hy with z | z
    · exact Nat.le_trans (g'.dp y z) hn
    · rw [z]; have := g.dp; omega
theorem gd_swap {m n b N c i : Nat} {xs : List PyData} {x : PyData} (hi : i < xs.length) (q : Gd m n (.tuple xs)) (g : Gd (xs[i].weight + c) b x) (hn : n ≤ N) (hb : b + 1 ≤ N) : Gd (m + c) N (.tuple (xs.take i ++ [x] ++ xs.drop (i + 1))) := by
  have g' := q.all
  have w1 := wt_td xs i
  have w3 := g'.wt
  have w4 := g.wt
  rw [List.drop_eq_getElem_cons hi] at w1
  rw [show PyData.weightAll (xs[i] :: xs.drop (i + 1)) = xs[i].weight + 1 + PyData.weightAll (xs.drop (i + 1)) by simp only [PyData.weightAll]] at w1
  have big := gd_put (i := i) (j := i + 1) q g (.inr rfl) hn hb
  refine ⟨big.lf, big.sh, ?_, big.dp⟩
  simp only [PyData.weight]
  rw [wt_app, wt_app, wt_one]
  omega
theorem any_gd {d : PyData} (h : d ∈ anyL) : Gd 500 1 d := by
  have e : (anyL.all fun d => d.leavesShort 64 && d.showable && decide (d.weight ≤ 500) && decide (d.depth ≤ 1)) = true := by decide +kernel
  have q := List.all_eq_true.mp e d h
  rw [Bool.and_eq_true, Bool.and_eq_true, Bool.and_eq_true] at q
  exact ⟨q.1.1.1, q.1.1.2, of_decide_eq_true q.1.2, of_decide_eq_true q.2⟩
theorem eqv_str (a : Str) : PyData.eqv (.str a) (.str a) = true := by
  simp only [PyData.eqv]
  exact beq_self_eq_true a
theorem shows4 (a b c e : Bool) : Shows (.list [.bool a, .bool b, .bool c, .bool e]) := Gd.shows (n := 100) (m := 5) ⟨by simp only [PyData.leavesShort, PyData.leavesShortAll, Bool.and_true], by simp only [PyData.showable, PyData.showableAll, Bool.and_true], by simp only [PyData.weight, PyData.weightAll]; decide, by simp only [PyData.depth, PyData.depthAll]; decide⟩ (by decide) (by decide)
theorem txt_not {d : PyData} (h : isSubj d = false) : isTxt d = false := by
  cases d with
  | str x => simp only [isTxt, h, Bool.false_and]
  | _ => rfl
theorem subj_str {d : PyData} (h : isSubj d = true) : ∃ x, d = .str x := by
  cases d with
  | str x => exact ⟨x, rfl⟩
  | _ => exact Bool.noConfusion h
theorem mem_rng {d : PyData} {lo : Int} {n : Nat} (h : d ∈ rngD lo n) : ∃ k : Nat, k < n ∧ d = .int (lo + (k : Int)) := by
  unfold rngD at h
  obtain ⟨k, hk, e⟩ := List.mem_map.mp h
  exact ⟨k, List.mem_range.mp hk, e.symm⟩
theorem tl_app (a b : Str) : (a ++ b).cps.toList = a.cps.toList ++ b.cps.toList := by
  rw [show (a ++ b).cps = a.cps ++ b.cps from rfl, Array.toList_append]
theorem len_app (a b : Str) : (a ++ b).length = a.length + b.length := by
  show (a.cps ++ b.cps).size = _
  rw [Array.size_append]
  rfl
theorem wt_s {x : Str} (h : x.length ≤ 4000) : Wt (.str x) := by
  show PyData.weight (.str x) ≤ 4000
  rw [show PyData.weight (.str x) = x.cps.size by simp only [PyData.weight]]
  exact h
theorem sz2 {a b : Nat} (ha : a ≤ 4000) (hb : b ≤ 4000) : a + b ≤ sizeLine := Nat.le_trans (Nat.add_le_add ha hb) (by decide)
theorem fold_rep (a : Array Nat) : ∀ (k : Nat) (acc : Array Nat), ((List.replicate k a).foldl (· ++ ·) acc).toList = acc.toList ++ (List.replicate k a.toList).flatten
  | 0, acc => by simp
  | k + 1, acc => by
    rw [List.replicate_succ, List.foldl_cons, fold_rep a k, List.replicate_succ, List.flatten_cons, Array.toList_append, List.append_assoc]
theorem mul_tl (x : Str) (k : Nat) (h1 : 1 < k) (h2 : x.length ≠ 0) : (Txt.mul x (k : Int)).cps.toList = (List.replicate k x.cps.toList).flatten := by
  unfold Txt.mul
  rw [if_neg (by omega), if_neg (by
    intro z
    rcases (Bool.or_eq_true _ _).mp z with z | z
    · have := eq_of_beq z
      omega
    · exact h2 (eq_of_beq z))]
  show ((List.replicate ((k : Int)).toNat x.cps).foldl (· ++ ·) #[]).toList = _
  rw [fold_rep, Int.toNat_natCast]
  rfl
theorem ab_ne : (Str.ofString "ab").length ≠ 0 := by decide
theorem len_mul_ab (k : Nat) (h : 1 < k := by decide) : (Txt.mul (Str.ofString "ab") (k : Int)).length = k * 2 := by
  have e := mul_tl (Str.ofString "ab") k h ab_ne
  show (Txt.mul (Str.ofString "ab") (k : Int)).cps.size = _
  rw [← Array.length_toList, e, List.length_flatten, List.map_replicate, List.sum_replicate_nat]
  rfl
theorem subj_app (x y : Str) : isSubj (.str (x ++ y)) = (isSubj (.str x) && isSubj (.str y)) := by
  simp only [isSubj, tl_app, List.all_append]
theorem subj_ab (k : Nat) (h : 1 < k := by decide) : isSubj (.str (Txt.mul (Str.ofString "ab") (k : Int))) = true := by
  simp only [isSubj]
  rw [mul_tl _ k h ab_ne]
  refine List.all_eq_true.mpr fun c hc => ?_
  obtain ⟨l, hl, hc⟩ := List.mem_flatten.mp hc
  rw [(List.mem_replicate.mp hl).2] at hc
  exact List.all_eq_true.mp (show (Str.ofString "ab").cps.toList.all okC = true by decide +kernel) c hc
theorem chk_az {c : Nat} (h : PyData.str ⟨#[c]⟩ ∈ signsD (Str.ofString "abcdefghijklmnopqrstuvwxyz")) : isName (.str (Str.ofString "abcdefghijk" ++ ⟨#[c]⟩)) = true ∧ isName (.str ⟨#[c]⟩) = true ∧ isTxt (.str ⟨#[c]⟩) = true := by
  have e : ((signsD (Str.ofString "abcdefghijklmnopqrstuvwxyz")).all fun d => match d with | .str y => isName (.str (Str.ofString "abcdefghijk" ++ y)) && isName (.str y) && isTxt (.str y) | _ => false) = true := by decide +kernel
  have q := List.all_eq_true.mp e _ h
  have q : (isName (.str (Str.ofString "abcdefghijk" ++ ⟨#[c]⟩)) && isName (.str ⟨#[c]⟩) && isTxt (.str ⟨#[c]⟩)) = true := q
  rw [Bool.and_eq_true, Bool.and_eq_true] at q
  exact ⟨q.1.1, q.1.2, q.2⟩
abbrev otS : Str := Str.ofString " !\"#$&'()*+,-./0123456789:;<=>?@ABCDEFGHIJKLMNOPQRSTUVWXYZ[\\]^_`{|}~"
theorem chk_ot {c : Nat} (h : PyData.str ⟨#[c]⟩ ∈ signsD otS) : isName (.str (Str.ofString "abc" ++ ⟨#[c]⟩ ++ Str.ofString "efgh")) = false ∧ isName (.str ⟨#[c]⟩) = false ∧ isSubj (.str (Txt.mul (Str.ofString "ab") 600 ++ ⟨#[c]⟩)) = true ∧ isTxt (.str ⟨#[c]⟩) = true := by
  have e : ((signsD otS).all fun d => match d with | .str y => !isName (.str (Str.ofString "abc" ++ y ++ Str.ofString "efgh")) && !isName (.str y) && isSubj (.str y) && isTxt (.str y) | _ => false) = true := by decide +kernel
  have q := List.all_eq_true.mp e _ h
  have q : (!isName (.str (Str.ofString "abc" ++ ⟨#[c]⟩ ++ Str.ofString "efgh")) && !isName (.str ⟨#[c]⟩) && isSubj (.str ⟨#[c]⟩) && isTxt (.str ⟨#[c]⟩)) = true := q
  rw [Bool.and_eq_true, Bool.and_eq_true, Bool.and_eq_true, Bool.not_eq_true', Bool.not_eq_true'] at q
  exact ⟨q.1.1.1, q.1.1.2, by rw [subj_app, q.1.2, Bool.and_true]; exact subj_ab 600, q.2⟩
theorem l1s (c : Nat) : (⟨#[c]⟩ : Str).length ≤ 2000 := by
  show 1 ≤ 2000
  decide
theorem l600 : (Txt.mul (Str.ofString "ab") 600).length = 1200 := len_mul_ab 600
theorem l1500 : (Txt.mul (Str.ofString "ab") 1500).length = 3000 := len_mul_ab 1500
theorem wt_a {a b : Str} (ha : a.length ≤ 2000) (hb : b.length ≤ 2000) : Wt (.str (a ++ b)) := wt_s (by rw [len_app]; omega)
theorem sz4 {a b : Nat} (ha : a ≤ 2000) (hb : b ≤ 2000) : a + b ≤ sizeLine := Nat.le_trans (Nat.add_le_add ha hb) (by decide)
theorem le_a {a b : Str} (ha : a.length ≤ 1000) (hb : b.length ≤ 1000) : (a ++ b).length ≤ 2000 := by rw [len_app]; omega
theorem l1t (c : Nat) : (⟨#[c]⟩ : Str).length ≤ 1000 := by
  show 1 ≤ 1000
  decide
theorem chk_nt {d : PyData} (h : d ∈ [PyData.str (Str.ofString "\n"), .str (Str.ofString "\t")]) : ∃ y, d = .str y ∧ y.length ≤ 1000 ∧ isSubj (.str y) = false ∧ isSubj (.str (Str.ofString "a" ++ y ++ Str.ofString "b")) = false ∧ isTxt (.str (Str.ofString "a" ++ y)) = false := by
  rcases List.mem_cons.mp h with e | h
  · exact ⟨_, e, by decide, by decide +kernel, by decide +kernel, by decide +kernel⟩
  · exact ⟨_, List.mem_singleton.mp h, by decide, by decide +kernel, by decide +kernel, by decide +kernel⟩
theorem wt_m {xs : List PyData} (h : PyData.weightAll xs ≤ 4000) : Wt (.tuple xs) := by
  show PyData.weight (.tuple xs) ≤ 4000
  simp only [PyData.weight]
  exact h
theorem msg1 : Wt (.tuple [.str (Str.ofString "a"), .str (Str.ofString "b"), .str (Txt.mul (Str.ofString "ab") 1500), .tuple [.str (Str.ofString "m")]]) ∧ isMsg (.tuple [.str (Str.ofString "a"), .str (Str.ofString "b"), .str (Txt.mul (Str.ofString "ab") 1500), .tuple [.str (Str.ofString "m")]]) = true := by
  constructor
  · refine wt_m ?_
    have e : (Txt.mul (Str.ofString "ab") 1500).cps.size = 3000 := l1500
    simp only [PyData.weightAll, PyData.weight, e]
    decide
  · simp only [isMsg]
    rw [show isName (.str (Str.ofString "a")) = true by decide +kernel, show isName (.str (Str.ofString "b")) = true by decide +kernel, show isNT (.tuple [.str (Str.ofString "m")]) = true by decide +kernel, show isSubj (.str (Txt.mul (Str.ofString "ab") 1500)) = true from subj_ab 1500]
    rfl
theorem msg2 : Wt (.tuple [.str (Str.ofString "a"), .str (Str.ofString "b"), .str (Txt.mul (Str.ofString "ab") 600 ++ Str.ofString "\n"), .tuple []]) ∧ isMsg (.tuple [.str (Str.ofString "a"), .str (Str.ofString "b"), .str (Txt.mul (Str.ofString "ab") 600 ++ Str.ofString "\n"), .tuple []]) = false := by
  constructor
  · refine wt_m ?_
    have e : (Txt.mul (Str.ofString "ab") 600 ++ Str.ofString "\n").cps.size = 1201 := by
      have := len_app (Txt.mul (Str.ofString "ab") 600) (Str.ofString "\n")
      rw [l600] at this
      exact this
    simp only [PyData.weightAll, PyData.weight, e]
    decide
  · simp only [isMsg]
    rw [subj_app, show isSubj (.str (Str.ofString "\n")) = false by decide +kernel, Bool.and_false, Bool.and_false, Bool.false_and]
structure SOk (n : Nat) (x : Str) : Prop where
  len : x.cps.toList.length ≤ n
  cp : ∀ c ∈ x.cps.toList, c < 16 ^ 8
theorem SOk.app {n m : Nat} {x y : Str} (a : SOk n x) (b : SOk m y) : SOk (n + m) (x ++ y) := ⟨by rw [tl_app, List.length_append]; exact Nat.add_le_add a.len b.len, fun c hc => by
  rw [tl_app] at hc
  exact (List.mem_append.mp hc).elim (a.cp c) (b.cp c)⟩
theorem SOk.join : ∀ {ys : List Str}, (∀ y ∈ ys, SOk 1 y) → SOk ys.length (Str.join (Str.ofString "") ys)
  | [], _ => ⟨Nat.le_refl 0, fun c hc => absurd hc List.not_mem_nil⟩
  | [x], h => h x List.mem_cons_self
  | x :: y :: r, h => by
    have ih := SOk.join (ys := y :: r) fun z hz => h z (List.mem_cons_of_mem _ hz)
    have e : SOk 0 (Str.ofString "") := ⟨Nat.le_refl 0, fun c hc => absurd hc List.not_mem_nil⟩
    have q := ((h x List.mem_cons_self).app e).app ih
    show SOk ((y :: r).length + 1) (x ++ Str.ofString "" ++ Str.join (Str.ofString "") (y :: r))
    rw [Nat.add_comm]
    exact q
theorem SOk.gd {n : Nat} {x : Str} (a : SOk n x) (h : n ≤ 100) : Gd 100 1 (.str x) := ⟨by simp only [PyData.leavesShort]; exact List.all_eq_true.mpr fun c hc => decide_eq_true (a.cp c hc), by simp only [PyData.showable], by
  simp only [PyData.weight]
  have := a.len
  rw [Array.length_toList] at this
  omega, by simp only [PyData.depth]; decide⟩
def gdB (d : PyData) : Bool := d.leavesShort 64 && d.showable && decide (d.weight ≤ 100) && decide (d.depth ≤ 1)
theorem gd_chk {L : List PyData} (e : L.all gdB = true) {d : PyData} (h : d ∈ L) : Gd 100 1 d := by
  have q := List.all_eq_true.mp e d h
  unfold gdB at q
  rw [Bool.and_eq_true, Bool.and_eq_true, Bool.and_eq_true] at q
  exact ⟨q.1.1.1, q.1.1.2, of_decide_eq_true q.1.2, of_decide_eq_true q.2⟩
theorem gd4 {a b c d : PyData} (ga : Gd 100 1 a) (gb : Gd 100 1 b) (gc : Gd 100 1 c) (gd : Gd 100 1 d) : Gd 1000 2 (.tuple [a, b, c, d]) := by
  have mem : ∀ (p : PyData → Prop), p a → p b → p c → p d → ∀ x ∈ [a, b, c, d], p x := fun p pa pb pc pd x hx => by
    rcases List.mem_cons.mp hx with e | hx
    · rw [e]; exact pa
    rcases List.mem_cons.mp hx with e | hx
    · rw [e]; exact pb
    rcases List.mem_cons.mp hx with e | hx
    · rw [e]; exact pc
    rw [List.mem_singleton.mp hx]
    exact pd
  refine GdA.tup ⟨mem _ ga.lf gb.lf gc.lf gd.lf, mem _ ga.sh gb.sh gc.sh gd.sh, ?_, mem _ (Nat.succ_le_succ ga.dp) (Nat.succ_le_succ gb.dp) (Nat.succ_le_succ gc.dp) (Nat.succ_le_succ gd.dp)⟩ (by decide)
  simp only [PyData.weightAll]
  have := ga.wt
  have := gb.wt
  have := gc.wt
  have := gd.wt
  omega
theorem menu_ok {x : PyData} (h : x ∈ [PyData.str (Str.ofString "a"), .str (Str.ofString " "), .str (Str.ofString "~"), .str (Str.ofString "Z"), .str (Str.ofString "9")]) : ∃ y, x = .str y ∧ SOk 1 y := by
  have e : ([PyData.str (Str.ofString "a"), .str (Str.ofString " "), .str (Str.ofString "~"), .str (Str.ofString "Z"), .str (Str.ofString "9")].all fun d => match d with | .str y => decide (y.cps.toList.length ≤ 1) && y.cps.toList.all (fun c => decide (c < 16 ^ 8)) | _ => false) = true := by decide +kernel
  have q := List.all_eq_true.mp e x h
  cases x with
  | str y =>
    rw [Bool.and_eq_true] at q
    exact ⟨y, rfl, of_decide_eq_true q.1, fun c hc => of_decide_eq_true (List.all_eq_true.mp q.2 c hc)⟩
  | _ => exact Bool.noConfusion q
theorem strs_of : ∀ {zs : List PyData}, (∀ z ∈ zs, ∃ y, z = .str y ∧ SOk 1 y) → ∃ ys : List Str, zs = ys.map .str ∧ ys.length = zs.length ∧ ∀ y ∈ ys, SOk 1 y
  | [], _ => ⟨[], rfl, rfl, fun _ h => absurd h List.not_mem_nil⟩
  | z :: zs, h => by
    obtain ⟨y, rfl, sy⟩ := h z List.mem_cons_self
    obtain ⟨ys, rfl, e, hs⟩ := strs_of fun z hz => h z (List.mem_cons_of_mem _ hz)
    exact ⟨y :: ys, rfl, by rw [List.length_cons, List.length_cons, e], fun u hu => by
      rcases List.mem_cons.mp hu with e | m
      · rw [e]; exact sy
      · exact hs u m⟩
theorem sum1 : ∀ {ys : List Str}, (∀ y ∈ ys, SOk 1 y) → (ys.map (·.length)).sum ≤ ys.length
  | [], _ => Nat.le_refl 0
  | y :: ys, h => by
    rw [List.map_cons, List.sum_cons, List.length_cons]
    have a := (h y List.mem_cons_self).len
    rw [Array.length_toList] at a
    have b := sum1 fun z hz => h z (List.mem_cons_of_mem _ hz)
    have : y.length ≤ 1 := a
    omega
theorem rng_len (lo : Int) (n : Nat) : (rngD lo n).length = n := by
  unfold rngD
  rw [List.length_map, List.length_range]
theorem take_cap (xs : List PyData) (i : Nat) : (xs.take i).length ≤ xs.length := by rw [List.length_take]; omega
theorem drop_cap (xs : List PyData) (i : Nat) : (xs.drop i).length ≤ xs.length := by rw [List.length_drop]; omega
def gAny : FL := fun ds R => ds = [.well] ∧ ∀ d ∈ anyL, R (.p d)
def gTold : FL := fun ds R => ∃ d, ds = [.p d] ∧ Gd 4000 90 d ∧ R (.p (.bool true))
theorem u66 {k : Nat} {A : Around} (hr : Room k A) : A.units + 66 < cLine := by
  have := hr.un
  omega
def fAnyG : FL := fun ds R => False
def fNoG : FL := fun _ _ => False
theorem fnNo {P : Program} {w : World} {K : PySem.W.Frag} {mg : Str → Option Value} {base : Heap} {k : Nat} {f : Addr} {fd : FuncData} {ps : List Str} {κ : Ky} : FnG P w K mg base CX0 k f fd ps (spD κ fNoG) := ⟨fun vs H Q E ⟨ds, R, P, dm, r, h, k⟩ => h.elim, fun A gd o s H a us vs Q E r e b v ⟨ds, R, P, dm, r, h, k⟩ => h.elim⟩
def neU (d : PyData) : Bool := match d with | .tuple xs => !xs.isEmpty | _ => false
def leL (d : PyData) (k : Nat) : Bool := match d with | .str x => decide (x.length ≤ k) | _ => false
def isSing (x p : PyData) : Bool :=
  if eqW x "from" = true then isNT p && neU p
  else if eqW x "marked" = true then isName p
  else if eqW x "is" = true then isSubj p && leL p 8
  else inW x ["contains", "begins", "ends"] && isTxt p
def gSing : FL := fun ds R => ∃ x p, ds = [.p x, .p p] ∧ Wt p ∧ R (.p (.bool (isSing x p)))
def isCW : Nat → PyData → Bool
  | 0, _ => false
  | n + 1, .tuple [w, p] => if eqW w "not" = true then isCW n p
    else if inW w ["all", "any"] = true then (match p with | .tuple xs => decide (xs.length ≤ 8) && xs.all (isCW n) | _ => false)
    else isSing w p
  | _ + 1, _ => false
def isAC (n : Nat) (p : PyData) : Bool := match p with | .tuple xs => decide (xs.length ≤ 8) && xs.all (isCW n) | _ => false
def gCW (n : Nat) : FL := fun ds R => ∃ v, ds = [.p v, .p (.int n)] ∧ Wt v ∧ R (.p (.bool (isCW n v)))
def gAC (n : Nat) : FL := fun ds R => ∃ v, ds = [.p v, .p (.int n)] ∧ Wt v ∧ R (.p (.bool (isAC n v)))
theorem isCW_not {n : Nat} {xs : List PyData} (h : xs.length ≠ 2) : isCW (n + 1) (.tuple xs) = false := by
  match xs, h with
  | [], _ => rfl
  | [_], _ => rfl
  | [_, _], h => exact absurd rfl h
  | _ :: _ :: _ :: _, _ => rfl
def isNTn (d : PyData) : Bool := match d with | .tuple xs => !xs.isEmpty && (xs.all isName && risB xs) | _ => false
def gText : FL := fun ds R => ds = [.well] ∧ ∀ y, SOk 8 y → R (.p (.str y))
def gNames : FL := fun ds R => ∃ xs : List Str, ds = [.well, .p (.list (xs.map .str))] ∧ 0 < xs.length ∧ xs.length < 1000 ∧ (∀ x ∈ xs, SOk 4 x) ∧ ∀ zs : List Str, zs.length ≤ 3 → (∀ z ∈ zs, SOk 4 z) → R (.p (.tuple (zs.map .str)))
theorem SOk.up {n m : Nat} {x : Str} (a : SOk n x) (h : n ≤ m) : SOk m x := ⟨Nat.le_trans a.len h, a.cp⟩
theorem many_ok {m : PyData} (h : m ∈ [PyData.int 0, .int 0, .int 1, .int 1, .int 2, .int 4, .int 6, .int 7]) : ∃ k : Nat, m = .int k ∧ k ≤ 7 := by
  rcases List.mem_cons.mp h with e | h
  · exact ⟨0, e, by decide⟩
  rcases List.mem_cons.mp h with e | h
  · exact ⟨0, e, by decide⟩
  rcases List.mem_cons.mp h with e | h
  · exact ⟨1, e, by decide⟩
  rcases List.mem_cons.mp h with e | h
  · exact ⟨1, e, by decide⟩
  rcases List.mem_cons.mp h with e | h
  · exact ⟨2, e, by decide⟩
  rcases List.mem_cons.mp h with e | h
  · exact ⟨4, e, by decide⟩
  rcases List.mem_cons.mp h with e | h
  · exact ⟨6, e, by decide⟩
  exact ⟨7, List.mem_singleton.mp h, by decide⟩
theorem menu4_ok {x : PyData} (h : x ∈ [PyData.str (Str.ofString "a"), .str (Str.ofString "b"), .str (Str.ofString "a"), .str (Str.ofString " "), .str (Str.ofString "~")]) : ∃ y, x = .str y ∧ SOk 1 y := by
  have e : ([PyData.str (Str.ofString "a"), .str (Str.ofString "b"), .str (Str.ofString "a"), .str (Str.ofString " "), .str (Str.ofString "~")].all fun d => match d with | .str y => decide (y.cps.toList.length ≤ 1) && y.cps.toList.all (fun c => decide (c < 16 ^ 8)) | _ => false) = true := by decide +kernel
  have q := List.all_eq_true.mp e x h
  cases x with
  | str y =>
    rw [Bool.and_eq_true] at q
    exact ⟨y, rfl, of_decide_eq_true q.1, fun c hc => of_decide_eq_true (List.all_eq_true.mp q.2 c hc)⟩
  | _ => exact Bool.noConfusion q
theorem strs_of4 {n : Nat} : ∀ {zs : List PyData}, (∀ z ∈ zs, ∃ y, z = .str y ∧ SOk n y) → ∃ ys : List Str, zs = ys.map .str ∧ ys.length = zs.length ∧ ∀ y ∈ ys, SOk n y
  | [], _ => ⟨[], rfl, rfl, fun _ h => absurd h List.not_mem_nil⟩
  | z :: zs, h => by
    obtain ⟨y, rfl, sy⟩ := h z List.mem_cons_self
    obtain ⟨ys, rfl, e, hs⟩ := strs_of4 fun z hz => h z (List.mem_cons_of_mem _ hz)
    exact ⟨y :: ys, rfl, by rw [List.length_cons, List.length_cons, e], fun u hu => by
      rcases List.mem_cons.mp hu with e | m
      · rw [e]; exact sy
      · exact hs u m⟩
theorem ris_len : ∀ {zs ks : List Str}, RisS zs → (∀ z ∈ zs, z ∈ ks) → zs.length ≤ ks.length
  | [], _, _, _ => Nat.zero_le _
  | z :: zs, ks, hr, h => by
    obtain ⟨h1, h2⟩ := List.pairwise_cons.mp hr
    have hz := h z List.mem_cons_self
    have ih := ris_len (zs := zs) (ks := ks.erase z) h2 fun y hy => by
      have ne : y ≠ z := fun e => by
        subst e
        exact absurd (h1 y hy) (Std.lt_irrefl)
      exact (List.mem_erase_of_ne ne).mpr (h y (List.mem_cons_of_mem _ hy))
    rw [List.length_erase_of_mem hz] at ih
    have : 0 < ks.length := List.length_pos_of_mem hz
    rw [List.length_cons]
    omega
def mn9 (j : Int) : Int := if j < 9 then j else 9
def txB (lo : Nat) (p : PyData) : Bool := isSubj p && (match p with | .str x => decide (lo ≤ x.length) && decide (x.length ≤ 8) | _ => false)
def mxL (l : List Int) : Int := l.foldr max 0
def deepF : Nat → PyData → Int
  | 0, _ => 9
  | n + 1, .tuple [.str w, p] =>
    if eqW (.str w) "from" = true then (if isNTn p = true then 1 else 9)
    else if eqW (.str w) "marked" = true then (if isName p = true then 1 else 9)
    else if inW (.str w) ["contains", "begins", "ends", "is"] = true then (if txB (if eqW (.str w) "is" = true then 0 else 1) p = true then 1 else 9)
    else if eqW (.str w) "not" = true then mn9 (1 + deepF n p)
    else if inW (.str w) ["all", "any"] = true then (match p with | .tuple xs => if 8 < xs.length then 9 else mn9 (1 + mxL (xs.map (deepF n))) | _ => 9)
    else 9
  | _ + 1, _ => 9
def gDeep (n : Nat) : FL := fun ds R => ∃ d, ds = [.p d] ∧ d.depth ≤ n ∧ Wt d ∧ R (.p (.int (deepF n d)))
theorem mx_le {l : List Int} {m : Int} (h0 : 0 ≤ m) : mxL l ≤ m ↔ ∀ y ∈ l, y ≤ m := by
  unfold mxL
  induction l with
  | nil => simp [h0]
  | cons a l ih =>
    rw [List.foldr_cons, Int.max_le, ih]
    simp
theorem mx_mem (l : List Int) : mxL l = 0 ∨ mxL l ∈ l := by
  unfold mxL
  induction l with
  | nil => exact .inl rfl
  | cons a l ih =>
    rw [List.foldr_cons]
    rcases Int.le_total a (l.foldr max 0) with h | h
    · rw [Int.max_eq_right h]
      exact ih.imp id fun z => List.mem_cons_of_mem _ z
    · rw [Int.max_eq_left h]
      exact .inr List.mem_cons_self
theorem mx_pos (l : List Int) : 0 ≤ mxL l := by
  unfold mxL
  induction l with
  | nil => exact Int.le_refl 0
  | cons a l ih => rw [List.foldr_cons]; exact Int.le_trans ih (Int.le_max_right _ _)
theorem mx_of {l : List Int} {m : Int} (hm : m ∈ (0 :: l)) (hle : ∀ y ∈ (0 :: l), y ≤ m) : m = mxL l := by
  refine Int.le_antisymm ?_ ?_
  · rcases List.mem_cons.mp hm with e | h
    · rw [e]; exact mx_pos l
    · exact (mx_le (mx_pos l)).mp (Int.le_refl _) m h
  · exact (mx_le (hle 0 List.mem_cons_self)).mpr fun y hy => hle y (List.mem_cons_of_mem _ hy)
theorem dp_tup {n : Nat} {xs : List PyData} {x : PyData} (h : (PyData.tuple xs).depth ≤ n + 1) (m : x ∈ xs) : x.depth ≤ n := by
  rw [show (PyData.tuple xs).depth = PyData.depthAll xs + 1 by simp only [PyData.depth]] at h
  exact dp_all.mp (show PyData.depthAll xs ≤ n by omega) x m
theorem d19 {b : Bool} {m : Nat} (h : m + 1 ≤ 8) : decide ((if b = true then (1 : Int) else 9) ≤ ((m + 1 : Nat) : Int)) = b := by
  cases b with
  | true => exact decide_eq_true (by rw [if_pos rfl]; omega)
  | false => exact decide_eq_false (by rw [if_neg Bool.false_ne_true]; omega)
theorem d9 {m : Nat} (h : m + 1 ≤ 8) : decide ((9 : Int) ≤ ((m + 1 : Nat) : Int)) = false := decide_eq_false (by omega)
theorem dmn {m : Nat} {x : Int} (h : m + 1 ≤ 8) : decide (mn9 (1 + x) ≤ ((m + 1 : Nat) : Int)) = decide (x ≤ (m : Int)) := by
  rw [decide_eq_decide]
  unfold mn9
  split <;> omega
theorem deep_pos : ∀ (n : Nat) (d : PyData), 1 ≤ deepF n d
  | 0, d => by show (1 : Int) ≤ 9; decide
  | n + 1, d => by
    unfold deepF
    split
    · cases ‹n + 1 = 0›
    · rename_i n' w p e
      cases e
      split
      · split <;> decide
      · split
        · split <;> decide
        · split
          · split <;> first | decide | (split <;> decide)
          · split
            · have := deep_pos n p
              unfold mn9
              split <;> omega
            · split
              · split
                · split
                  · decide
                  · have := mx_pos (List.map (deepF n) ‹_›)
                    unfold mn9
                    split <;> omega
                · decide
              · decide
    · decide
theorem txt_tx {p : PyData} : isTxt p = txB 1 p := by
  cases p with
  | str x => simp only [isTxt, txB, Bool.and_assoc]
  | _ => rfl
theorem is_tx {p : PyData} : (isSubj p && leL p 8) = txB 0 p := by
  cases p with
  | str x => simp only [leL, txB, Nat.zero_le, decide_true, Bool.true_and]
  | _ => rfl
theorem ntn {p : PyData} : (isNT p && neU p) = isNTn p := by
  cases p with
  | tuple xs =>
    simp only [isNT, neU, isNTn]
    cases xs.isEmpty <;> simp
  | _ => rfl
theorem deep_eq : ∀ (m n : Nat) (d : PyData), m ≤ 8 → d.depth ≤ n → isCW m d = decide (deepF n d ≤ (m : Int))
  | 0, n, d, _, _ => by
    have := deep_pos n d
    rw [decide_eq_false (by omega)]
    unfold isCW
    rfl
  | m + 1, n, d, h8, hd => by
    cases d with
    | tuple xs =>
      cases n with
      | zero => exact (no_depth hd).elim
      | succ n =>
        by_cases h2 : xs.length = 2
        · match xs, h2 with
          | [x, p], _ =>
            have hp : p.depth ≤ n := dp_tup hd (by simp)
            cases x with
            | str w =>
              unfold isCW deepF
              have c1 := @deep_eq m n p (by omega) hp
              have lit : ∀ y : Str, eqW (.str w) y = true → w = y := fun y e => of_decide_eq_true e
              have inL : ∀ ys : List Str, inW (.str w) ys = true → w ∈ ys := fun ys e => by
                obtain ⟨y, hy, q⟩ := List.any_eq_true.mp e
                rw [lit y q]
                exact hy
              by_cases q1 : eqW (.str w) "from" = true
              · have e := lit _ q1
                subst e
                have f1 : eqW (.str (Str.ofString "from")) "not" = false := by decide +kernel
                have f2 : inW (.str (Str.ofString "from")) ["all", "any"] = false := by decide +kernel
                simp only [f1, f2, q1, Bool.false_eq_true, if_false, if_true, isSing, ntn]
                exact (d19 h8).symm
              · by_cases q2 : eqW (.str w) "marked" = true
                · have e := lit _ q2
                  subst e
                  have f1 : eqW (.str (Str.ofString "marked")) "not" = false := by decide +kernel
                  have f2 : inW (.str (Str.ofString "marked")) ["all", "any"] = false := by decide +kernel
                  simp only [f1, f2, q1, q2, Bool.false_eq_true, if_false, if_true, isSing]
                  exact (d19 h8).symm
                · by_cases q3 : inW (.str w) ["contains", "begins", "ends", "is"] = true
                  · have hw := inL _ q3
                    by_cases q4 : eqW (.str w) "is" = true
                    · have e := lit _ q4
                      subst e
                      have f1 : eqW (.str (Str.ofString "is")) "not" = false := by decide +kernel
                      have f2 : inW (.str (Str.ofString "is")) ["all", "any"] = false := by decide +kernel
                      simp only [f1, f2, q1, q2, q3, q4, Bool.false_eq_true, if_false, if_true, isSing, is_tx]
                      exact (d19 h8).symm
                    · have f3 : inW (.str w) ["contains", "begins", "ends"] = true ∧ eqW (.str w) "not" = false ∧ inW (.str w) ["all", "any"] = false := by
                        rcases List.mem_cons.mp hw with e | hw
                        · subst e; exact ⟨by decide +kernel, by decide +kernel, by decide +kernel⟩
                        rcases List.mem_cons.mp hw with e | hw
                        · subst e; exact ⟨by decide +kernel, by decide +kernel, by decide +kernel⟩
                        rcases List.mem_cons.mp hw with e | hw
                        · subst e; exact ⟨by decide +kernel, by decide +kernel, by decide +kernel⟩
                        · exact absurd (decide_eq_true (List.mem_singleton.mp hw)) q4
                      simp only [f3.1, f3.2.1, f3.2.2, q1, q2, q3, q4, Bool.false_eq_true, if_false, if_true, isSing, Bool.true_and, txt_tx]
                      exact (d19 h8).symm
                  · by_cases q4 : eqW (.str w) "not" = true
                    · simp only [q1, q2, q3, q4, Bool.false_eq_true, if_false, if_true]
                      rw [dmn h8]
                      exact c1
                    · by_cases q5 : inW (.str w) ["all", "any"] = true
                      · simp only [q1, q2, q3, q4, q5, Bool.false_eq_true, if_false, if_true]
                        cases p with
                        | tuple ys =>
                          show (decide (ys.length ≤ 8) && ys.all (isCW m)) = decide ((if 8 < ys.length then (9 : Int) else mn9 (1 + mxL (ys.map (deepF n)))) ≤ _)
                          by_cases q6 : 8 < ys.length
                          · rw [if_pos q6, d9 h8, decide_eq_false (by omega), Bool.false_and]
                          · rw [if_neg q6, decide_eq_true (show ys.length ≤ 8 by omega), Bool.true_and, dmn h8, Bool.eq_iff_iff, List.all_eq_true, decide_eq_true_iff, mx_le (by omega)]
                            have hy : ∀ y ∈ ys, y.depth ≤ n := fun y hy => by
                              rw [show (PyData.tuple ys).depth = PyData.depthAll ys + 1 by simp only [PyData.depth]] at hp
                              exact dp_all.mp (show PyData.depthAll ys ≤ n by omega) y hy
                            constructor
                            · intro h z hz
                              obtain ⟨y, hy2, rfl⟩ := List.mem_map.mp hz
                              have := h y hy2
                              rw [deep_eq m n y (by omega) (hy y hy2)] at this
                              exact of_decide_eq_true this
                            · intro h y hy2
                              rw [deep_eq m n y (by omega) (hy y hy2)]
                              exact decide_eq_true (h _ (List.mem_map.mpr ⟨y, hy2, rfl⟩))
                        | _ => exact (d9 h8).symm
                      · have f3 : inW (.str w) ["contains", "begins", "ends"] = false ∧ eqW (.str w) "is" = false := by
                          have q3' : (eqW (.str w) "contains" || (eqW (.str w) "begins" || (eqW (.str w) "ends" || (eqW (.str w) "is" || false)))) = false := Bool.eq_false_iff.mpr q3
                          rw [Bool.or_eq_false_iff, Bool.or_eq_false_iff, Bool.or_eq_false_iff, Bool.or_eq_false_iff] at q3'
                          obtain ⟨a1, a2, a3, a4, _⟩ := q3'
                          refine ⟨?_, a4⟩
                          show (eqW (.str w) "contains" || (eqW (.str w) "begins" || (eqW (.str w) "ends" || false))) = false
                          rw [a1, a2, a3]
                          rfl
                        simp only [f3.1, f3.2, q1, q2, q3, q4, q5, Bool.false_eq_true, if_false, isSing, Bool.false_and]
                        exact (d9 h8).symm
            | _ => exact (d9 h8).symm
        · rw [isCW_not h2]
          have e : deepF (n + 1) (.tuple xs) = 9 := by
            match xs, h2 with
            | [], _ => rfl
            | [x], _ => cases x <;> rfl
            | [_, _], h => exact absurd rfl h
            | x :: _ :: _ :: _, _ => cases x <;> rfl
          rw [e]
          exact (d9 h8).symm
    | _ =>
      first
        | (cases n <;> exact (d9 h8).symm)
        | exact (d9 h8).symm
def Wc : Nat → Nat
  | 0 => 21
  | n + 1 => 3 * Wc n + 8
def gCond (n : Nat) : FL := fun ds R => ds = [.well, .p (.int ((n + 1 : Nat) : Int))] ∧ ∀ d, Gd (Wc n) (2 * n + 2) d → (∃ xs, d = .tuple xs) → R (.p d)
theorem gd2 {a b m : Nat} {x y : PyData} (gx : Gd a m x) (gy : Gd b m y) : Gd (a + b + 2) (m + 1) (.tuple [x, y]) := by
  have mem : ∀ (p : PyData → Prop), p x → p y → ∀ z ∈ [x, y], p z := fun p px py z hz => by
    rcases List.mem_cons.mp hz with e | hz
    · rw [e]; exact px
    · rw [List.mem_singleton.mp hz]; exact py
  refine GdA.tup ⟨mem _ gx.lf gy.lf, mem _ gx.sh gy.sh, ?_, mem _ (Nat.succ_le_succ gx.dp) (Nat.succ_le_succ gy.dp)⟩ (by omega)
  simp only [PyData.weightAll]
  have := gx.wt
  have := gy.wt
  omega
theorem SOk.gs {n : Nat} {x : Str} (a : SOk n x) : Gd n 0 (.str x) := ⟨by simp only [PyData.leavesShort]; exact List.all_eq_true.mpr fun c hc => decide_eq_true (a.cp c hc), by simp only [PyData.showable], by
  simp only [PyData.weight]
  have := a.len
  rw [Array.length_toList] at this
  omega, by simp only [PyData.depth]; decide⟩
theorem wt_all {W : Nat} : ∀ {xs : List PyData}, (∀ x ∈ xs, x.weight ≤ W) → PyData.weightAll xs ≤ xs.length * (W + 1)
  | [], _ => by simp only [PyData.weightAll]; exact Nat.zero_le _
  | x :: xs, h => by
    have a := h x List.mem_cons_self
    have b := wt_all fun y hy => h y (List.mem_cons_of_mem _ hy)
    rw [show PyData.weightAll (x :: xs) = x.weight + 1 + PyData.weightAll xs by simp only [PyData.weightAll], List.length_cons, Nat.succ_mul]
    omega
theorem gdMany {W m k : Nat} {xs : List PyData} (h : ∀ x ∈ xs, Gd W m x) (hk : xs.length ≤ k) : GdA (k * (W + 1)) (m + 1) xs := ⟨fun x hx => (h x hx).lf, fun x hx => (h x hx).sh, Nat.le_trans (wt_all fun x hx => (h x hx).wt) (Nat.mul_le_mul hk (Nat.le_refl _)), fun x hx => Nat.succ_le_succ (h x hx).dp⟩
theorem sok {n : Nat} {x : Str} (h : (decide (x.cps.toList.length ≤ n) && x.cps.toList.all fun c => decide (c < 16 ^ 8)) = true) : SOk n x := by
  rw [Bool.and_eq_true] at h
  exact ⟨of_decide_eq_true h.1, fun c hc => of_decide_eq_true (List.all_eq_true.mp h.2 c hc)⟩
theorem sok_all {n : Nat} {L : List PyData} (h : (L.all fun d => match d with | .str x => decide (x.cps.toList.length ≤ n) && x.cps.toList.all (fun c => decide (c < 16 ^ 8)) | _ => false) = true) {d : PyData} (hd : d ∈ L) : ∃ y, d = .str y ∧ SOk n y := by
  have q := List.all_eq_true.mp h d hd
  cases d with
  | str y => exact ⟨y, rfl, sok q⟩
  | _ => exact Bool.noConfusion q
theorem leaf2 {a b : Nat} {x y : Str} (hx : SOk a x) (hy : SOk b y) (h : a + b + 2 ≤ 21) : Gd 21 2 (.tuple [.str x, .str y]) := (gd2 hx.gs hy.gs).up h (by decide)
theorem leaf_from {zs : List Str} (lz : zs.length ≤ 3) (hz : ∀ z ∈ zs, SOk 4 z) : Gd 21 2 (.tuple [.str (Str.ofString "from"), .tuple (zs.map .str)]) := by
  have g : Gd 15 1 (.tuple (zs.map .str)) := GdA.tup (gdMany (W := 4) (m := 0) (k := 3) (fun x hx => by
    obtain ⟨y, hy, rfl⟩ := List.mem_map.mp hx
    exact (hz y hy).gs) (by rw [List.length_map]; exact lz)) (by decide)
  exact (gd2 ((sok (n := 4) (by decide +kernel)).gs.up (Nat.le_refl _) (Nat.zero_le 1)) g).up (by decide) (by decide)
theorem names4_ok : ∀ x ∈ (["ann", "bob", "box", "team"] : List Str), SOk 4 x := fun x hx => by
  rcases List.mem_cons.mp hx with e | hx
  · rw [e]; exact sok (by decide +kernel)
  rcases List.mem_cons.mp hx with e | hx
  · rw [e]; exact sok (by decide +kernel)
  rcases List.mem_cons.mp hx with e | hx
  · rw [e]; exact sok (by decide +kernel)
  rw [List.mem_singleton.mp hx]
  exact sok (by decide +kernel)
theorem wc_le : ∀ n, 21 ≤ Wc n
  | 0 => Nat.le_refl _
  | n + 1 => by
    have := wc_le n
    show 21 ≤ 3 * Wc n + 8
    omega
def any4 : List PyData := [.none, .bool true, .int 0, .int 1, .str (Str.ofString ""), .str (Str.ofString "a"), .str (Str.ofString "all"), .str (Str.ofString "from"), .str (Str.ofString "is"), .tuple [], .tuple [.str (Str.ofString "a")], .list [.str (Str.ofString "a")], .tuple [.str (Str.ofString "b"), .str (Str.ofString "a")], .dict [], .str (Str.ofString "123456789"), .str (Str.ofString "a\n"), .tuple [.str (Str.ofString "all"), .tuple []], .tuple [.str (Str.ofString "any"), .tuple []], .tuple [.str (Str.ofString "not"), .tuple []], .tuple [.str (Str.ofString "is"), .str (Str.ofString "")], .tuple [.str (Str.ofString "begins"), .str (Str.ofString "")], .tuple [.str (Str.ofString "from"), .tuple []], .tuple [.str (Str.ofString "marked"), .str (Str.ofString "A")], .tuple [.str (Str.ofString "all"), .tuple (List.replicate (Int.toNat 8) [.tuple [.str (Str.ofString "is"), .str (Str.ofString "a")]]).flatten], .tuple [.str (Str.ofString "all"), .tuple (List.replicate (Int.toNat 9) [.tuple [.str (Str.ofString "is"), .str (Str.ofString "a")]]).flatten], .tuple [.str (Str.ofString "never")], .tuple [.str (Str.ofString "all")]]
theorem any4_gd {d : PyData} (h : d ∈ any4) : Gd 80 3 d := by
  have e : (any4.all fun d => d.leavesShort 64 && d.showable && decide (d.weight ≤ 80) && decide (d.depth ≤ 3)) = true := by decide +kernel
  have q := List.all_eq_true.mp e d h
  rw [Bool.and_eq_true, Bool.and_eq_true, Bool.and_eq_true] at q
  exact ⟨q.1.1.1, q.1.1.2, of_decide_eq_true q.1.2, of_decide_eq_true q.2⟩
def gAny4 : FL := fun ds R => ds = [.well] ∧ ∀ d ∈ any4, R (.p d)
def gBent4 (n : Nat) : FL := fun ds R => ∃ (xs : List PyData) (m : Nat), ds = [.well, .p (.tuple xs)] ∧ Gd m n (.tuple xs) ∧ m ≤ 3000 ∧ ∀ d, Gd (m + 90) (n + 3) d → contD d → R (.p d)
theorem FnG.ex {P : Program} {w : World} {K : PySem.W.Frag} {mg : Str → Option Value} {base : Heap} {k : Nat} {f : Addr} {fd : FuncData} {ps : List Str} {κ : Ky} {g : Nat → FL} {p : Nat → Prop} (len : ∀ vs H Q E, spD κ (fun ds R => ∃ i, p i ∧ g i ds R) vs H Q E → vs.length = ps.length) (F : ∀ i, p i → FnG P w K mg base CX0 k f fd ps (spD κ (g i))) : FnG P w K mg base CX0 k f fd ps (spD κ fun ds R => ∃ i, p i ∧ g i ds R) :=
  ⟨len, fun A gd o s H a us vs Q E r e b v ⟨ds, R, P, dm, rv, ⟨i, hi, h⟩, kk⟩ => (F i hi).go A gd o s H a us vs Q E r e b v ⟨ds, R, P, dm, rv, h, kk⟩⟩
def gCondA : FL := fun ds R => ∃ n, n ≤ 4 ∧ gCond n ds R
theorem wc4 : ∀ n, n ≤ 4 → Wc n ≤ 2021
  | 0, _ => by decide
  | 1, _ => by decide
  | 2, _ => by decide
  | 3, _ => by decide
  | 4, _ => by decide
  | n + 5, h => absurd h (by omega)
/-- for, counted -/
theorem for_ix {E : DE} {g : TDG} {tb : TDS} (I : Nat → Dn → Prop) : ∀ (ds : List PyData) (i : Nat) (δ : Dn), I i δ → (∀ d ∈ ds, ∀ j δ', I j δ' → ∀ (E' : DE), E'.rt = E.rt → (∀ δ2, I (j + 1) δ2 → E'.nx δ2) → g (.p d) δ' fun δ2 => tb E' δ2) → (∀ δ', I (i + ds.length) δ' → E.nx δ') → forL E g tb ds δ
  | [], i, δ, h, _, he => he δ h
  | d :: ds, i, δ, h, hb, he => hb d List.mem_cons_self i δ h _ rfl (fun δ2 h2 => for_ix I ds (i + 1) δ2 h2 (fun d' m => hb d' (List.mem_cons_of_mem _ m)) fun δ3 h3 => he δ3 (by rw [List.length_cons, Nat.add_comm ds.length 1, ← Nat.add_assoc]; exact h3))
def nest : Nat → PyData
  | 0 => .tuple [.str (Str.ofString "is"), .str (Str.ofString "")]
  | n + 1 => .tuple [.str (Str.ofString "not"), nest n]
theorem shows_b (b : Bool) : Shows (.bool b) := Gd.shows (n := 100) (m := 5) ⟨rfl, rfl, by show 0 ≤ 100; decide, by show 0 ≤ 5; decide⟩ (by decide) (by decide)
theorem deep5 {d : PyData} (h : d.depth ≤ 20) : decide (deepF 20 d < 5) = isCW 4 d := by
  rw [deep_eq 4 20 d (by decide) h, decide_eq_decide]
  omega
theorem eqv_bools {as bs : List Bool} : PyData.eqv (.list (as.map .bool)) (.list (bs.map .bool)) = decide (as = bs) := by
  simp only [PyData.eqv]
  induction as generalizing bs with
  | nil => cases bs <;> rfl
  | cons a as ih =>
    cases bs with
    | nil => rfl
    | cons b bs =>
      simp only [List.map_cons, PyData.eqvAll, PyData.eqv, ih]
      cases a <;> cases b <;> simp
theorem plain_bools (as : List Bool) : (PyData.list (as.map .bool)).plain = true := by
  simp only [PyData.plain]
  induction as with
  | nil => rfl
  | cons a as ih => simp only [List.map_cons, PyData.plainAll, PyData.plain, ih, Bool.true_and]
theorem depth_bools (as : List Bool) : (PyData.list (as.map .bool)).depth = 1 := by
  simp only [PyData.depth]
  have : PyData.depthAll (as.map PyData.bool) = 0 := by
    induction as with
    | nil => rfl
    | cons a as ih => simp only [List.map_cons, PyData.depthAll, PyData.depth, ih, Nat.max_self]
  rw [this]
def cntF (c : PyData) : PyData := match c with
  | .int i => .tuple (List.replicate i.toNat [PyData.tuple [.str (Str.ofString "is"), .str (Str.ofString "a")]]).flatten
  | _ => .none
abbrev rep8 (i : Int) : PyData := cntF (.int i)
def JA (ns : List Int) (δ : Dn) : Prop := ∃ y1 y2 y3 y4 y5 y6 y7 y8 y9 y10 y11 y12 y13 y14 y15 y16 : Sl, δ = [.v (.scr ns), y1, y2, y3, y4, y5, y6, y7, y8, y9, y10, y11, y12, y13, y14, y15, y16]
def nms4 : List PyData := [.str (Str.ofString "abcdefghijkl"), .str (Str.ofString "abcdefghijklm"), .str (Str.ofString "a b"), .str (Str.ofString "")]
def JN (ns : List Int) (δ : Dn) : Prop := ∃ y1 y2 y3 y4 y5 y6 y7 y8 y9 y10 y11 y13 y14 y15 y16 : Sl, δ = [.v (.scr ns), y1, y2, y3, y4, y5, y6, y7, y8, y9, y10, y11, .v (.p (.list nms4)), y13, y14, y15, y16]
def nDeep : Nat → PyData
  | 0 => .tuple [.str (Str.ofString "is"), .str (Str.ofString "")]
  | n + 1 => .tuple [.str (Str.ofString "not"), nDeep n]
def JD (n : Nat) (ns : List Int) (δ : Dn) : Prop := ∃ y1 y2 y3 y4 y5 y6 y7 y8 y9 y10 y11 y12 y13 y14 y15 : Sl, δ = [.v (.scr ns), y1, y2, y3, y4, y5, y6, y7, y8, y9, y10, y11, y12, y13, y14, y15, .v (.p (nDeep n))]
theorem eqB {as bs : List Bool} {R : DV → Prop} (h : as = bs) (hR : R (.p (.bool false))) : fEqQ true (.p (.list (as.map .bool))) (.p (.list (bs.map .bool))) R := by
  subst h
  refine ⟨plain_bools as, plain_bools as, Nat.le_trans (Nat.min_le_right _ _) (by rw [depth_bools]; decide), ?_⟩
  rw [show PyData.eqv (.list (as.map .bool)) (.list (as.map .bool)) = true by rw [eqv_bools]; exact decide_eq_true rfl]
  exact hR
theorem for_nat {E : DE} {g : TDG} {tb : TDS} (I : Nat → Dn → Prop) : ∀ (ds : List PyData) (n : Nat) (δ : Dn), I n δ → (∀ d ∈ ds, ∀ i δ', I i δ' → ∀ (E' : DE), E'.rt = E.rt → (∀ δ2, I (i + 1) δ2 → E'.nx δ2) → g (.p d) δ' fun δ2 => tb E' δ2) → (∀ δ', I (n + ds.length) δ' → E.nx δ') → forL E g tb ds δ
  | [], n, δ, h, _, he => he δ h
  | d :: ds, n, δ, h, hb, he => hb d List.mem_cons_self n δ h _ rfl fun δ2 h2 => for_nat I ds (n + 1) δ2 h2 (fun d' m => hb d' (List.mem_cons_of_mem _ m)) fun δ' h' => he δ' (by rw [List.length_cons, show n + (ds.length + 1) = n + 1 + ds.length by omega]; exact h')
theorem two_ok (d : PyData) (hd : d ∈ [PyData.str (Str.ofString "all"), PyData.str (Str.ofString "any")]) : ∃ w : Str, d = .str w ∧ isCW 4 (.tuple [.str w, rep8 0]) = true ∧ isCW 4 (.tuple [.str w, rep8 8]) = true ∧ isCW 4 (.tuple [.str w, rep8 9]) = false ∧ Wt (.tuple [.str w, rep8 0]) ∧ Wt (.tuple [.str w, rep8 8]) ∧ Wt (.tuple [.str w, rep8 9]) := by
  rcases List.mem_cons.mp hd with e | hd
  · exact ⟨_, e, by decide +kernel, by decide +kernel, by decide +kernel, by decide +kernel, by decide +kernel, by decide +kernel⟩
  · exact ⟨_, List.mem_singleton.mp hd, by decide +kernel, by decide +kernel, by decide +kernel, by decide +kernel, by decide +kernel, by decide +kernel⟩
theorem forD {E : DE} {g : TDG} {tb : TDS} {δ : Dn} {xs : List PyData} (h : forL E g tb xs δ) : asL (.p (.list xs)) (fun ds => forL E g tb ds δ) := h
theorem lcD {g : TDG} {tt : TB} {te : TD} {δ : Dn} {fin : List PyData → Prop} {xs : List PyData} (h : lcL g tt te δ fin xs []) : asL (.p (.list xs)) (fun ds => lcL g tt te δ fin ds []) := h
def pre8 (z : PyData) : PyData := match z with
  | .int i => .str (cutS (Str.ofString "abcdefgh") none (some i))
  | _ => .none
def ok5 (d : PyData) : Bool := match d with
  | .str w => decide ((rngD 0 9).map (fun z => isCW 4 (.tuple [.str w, pre8 z])) = eqW (.str w) "is" :: List.replicate 8 true) && !isCW 4 (.tuple [.str w, .str (Str.ofString "abcdefghi")]) && decide (Wt (.tuple [.str w, .str (Str.ofString "abcdefghi")])) && (rngD 0 9).all (fun z => decide (Wt (.tuple [.str w, pre8 z])))
  | _ => false
theorem ok5_of {d : PyData} (h : ok5 d = true) : ∃ w : Str, d = .str w ∧ (rngD 0 9).map (fun z => isCW 4 (.tuple [.str w, pre8 z])) = eqW (.str w) "is" :: List.replicate 8 true ∧ isCW 4 (.tuple [.str w, .str (Str.ofString "abcdefghi")]) = false ∧ Wt (.tuple [.str w, .str (Str.ofString "abcdefghi")]) ∧ ∀ z ∈ rngD 0 9, Wt (.tuple [.str w, pre8 z]) := by
  cases d with
  | str w =>
    have h : (decide ((rngD 0 9).map (fun z => isCW 4 (.tuple [.str w, pre8 z])) = eqW (.str w) "is" :: List.replicate 8 true) && !isCW 4 (.tuple [.str w, .str (Str.ofString "abcdefghi")]) && decide (Wt (.tuple [.str w, .str (Str.ofString "abcdefghi")])) && (rngD 0 9).all (fun z => decide (Wt (.tuple [.str w, pre8 z])))) = true := h
    simp only [Bool.and_eq_true, Bool.not_eq_true'] at h
    exact ⟨w, rfl, of_decide_eq_true h.1.1.1, h.1.1.2, of_decide_eq_true h.1.2, fun z hz => of_decide_eq_true (List.all_eq_true.mp h.2 z hz)⟩
  | _ => cases h
theorem u64 {k : Nat} {A : Around} (hr : Room k A) : A.units + 64 < cLine := by
  have := hr.un
  omega
def fAnyG05 : FL := fun ds R => False
def J0 (ns : List Int) (δ : Dn) : Prop := True
def pasB (w : Str) (t u : Str) : Bool := if eqW (.str w) "contains" = true then inS t u else if eqW (.str w) "begins" = true then Txt.startswith u t else if eqW (.str w) "ends" = true then Txt.endswith u t else decide (u = t)
def gPas : FL := fun ds R => ∃ w t u : Str, ds = [.p (.str w), .p (.str t), .p (.str u)] ∧ t.length ≤ 4000 ∧ u.length ≤ 4000 ∧ R (.p (.bool (pasB w t u)))
inductive Lf where
  | frm (ns : List Str) | mrk (m : Str) | txt (w t : Str)
def Lf.w : Lf → Str
  | .frm _ => "from"
  | .mrk _ => "marked"
  | .txt w _ => w
def Lf.pt : Lf → PyData
  | .frm ns => .tuple (ns.map .str)
  | .mrk m => .str m
  | .txt _ t => .str t
def Lf.ok : Lf → Prop
  | .txt w t => inW (.str w) ["contains", "begins", "ends", "is"] = true ∧ t.length ≤ 4000
  | _ => True
def lfB : Lf → Str → Str → List Str → Bool
  | .frm ns, s, _, _ => inW (.str s) ns
  | .mrk m, _, _, ms => inW (.str m) ms
  | .txt w t, _, u, _ => pasB w t u
abbrev msgD (s a u : Str) (ms : List Str) : PyData := .tuple [.str s, .str a, .str u, .tuple (ms.map .str)]
def gSgl : FL := fun ds R => ∃ (l : Lf) (s a u : Str) (ms : List Str), ds = [.p (.str l.w), .p l.pt, .p (msgD s a u ms)] ∧ l.ok ∧ u.length ≤ 4000 ∧ R (.p (.bool (lfB l s u ms)))
theorem txt_w {w : Str} (h : inW (.str w) ["contains", "begins", "ends", "is"] = true) : eqW (.str w) "from" = false ∧ eqW (.str w) "marked" = false ∧ eqW (.str w) "not" = false ∧ inW (.str w) ["all", "any"] = false := by
  obtain ⟨y, hy, q⟩ := List.any_eq_true.mp h
  have e : w = y := of_decide_eq_true q
  subst e
  rcases List.mem_cons.mp hy with e | hy
  · subst e; decide +kernel
  rcases List.mem_cons.mp hy with e | hy
  · subst e; decide +kernel
  rcases List.mem_cons.mp hy with e | hy
  · subst e; decide +kernel
  have e := List.mem_singleton.mp hy
  subst e; decide +kernel
theorem lf_w {l : Lf} (h : l.ok) : eqW (.str l.w) "not" = false ∧ inW (.str l.w) ["all", "any"] = false := by
  cases l with
  | frm ns => exact (show eqW (.str (Str.ofString "from")) "not" = false ∧ inW (.str (Str.ofString "from")) ["all", "any"] = false by decide +kernel)
  | mrk m => exact (show eqW (.str (Str.ofString "marked")) "not" = false ∧ inW (.str (Str.ofString "marked")) ["all", "any"] = false by decide +kernel)
  | txt w t => exact (txt_w h.1).2.2
inductive Cnd where
  | lf (l : Lf) | nt (c : Cnd) | gr (b : Bool) (cs : List Cnd)
def grW (b : Bool) : Str := if b = true then "all" else "any"
mutual
def Cnd.d : Cnd → PyData
  | .lf l => .tuple [.str l.w, l.pt]
  | .nt c => .tuple [.str "not", c.d]
  | .gr b cs => .tuple [.str (grW b), .tuple (Cnd.ds cs)]
def Cnd.ds : List Cnd → List PyData
  | [] => []
  | c :: cs => c.d :: Cnd.ds cs
end
mutual
def Cnd.hold (s u : Str) (ms : List Str) : Cnd → Bool
  | .lf l => lfB l s u ms
  | .nt c => !c.hold s u ms
  | .gr b cs => Cnd.holdG s u ms b cs
def Cnd.holdG (s u : Str) (ms : List Str) (b : Bool) : List Cnd → Bool
  | [] => b
  | c :: cs => if c.hold s u ms = b then Cnd.holdG s u ms b cs else !b
end
mutual
def Cnd.lvs : Cnd → List Lf
  | .lf l => [l]
  | .nt c => c.lvs
  | .gr _ cs => Cnd.lvsA cs
def Cnd.lvsA : List Cnd → List Lf
  | [] => []
  | c :: cs => c.lvs ++ Cnd.lvsA cs
end
def Cnd.okn : Nat → Cnd → Prop
  | 0, _ => False
  | _ + 1, .lf l => l.ok
  | n + 1, .nt c => c.okn n
  | n + 1, .gr _ cs => cs.length ≤ 100 ∧ ∀ c ∈ cs, c.okn n
def gHold (n : Nat) : FL := fun ds R => ∃ (c : Cnd) (s a u : Str) (ms : List Str), ds = [.p c.d, .p (msgD s a u ms)] ∧ c.okn n ∧ u.length ≤ 4000 ∧ R (.p (.bool (c.hold s u ms)))
def encL (l : Lf) : PyData := .tuple [.str l.w, l.pt]
def gSng (n : Nat) : FL := fun ds R => ∃ c : Cnd, ds = [.p c.d] ∧ c.okn n ∧ c.lvs.length ≤ 60 ∧ R (.p (.list (c.lvs.map encL)))
def tstL (ls : List Lf) : List (Str × Str) := ls.filterMap fun l => match l with | .txt w t => some (w, t) | _ => none
def mrkL (ls : List Lf) : List Str := ls.filterMap fun l => match l with | .mrk m => some m | _ => none
def namL (ls : List Lf) : List Str := ls.flatMap fun l => match l with | .frm ns => ns | _ => []
def gTst : FL := fun ds R => ∃ c : Cnd, ds = [.p c.d] ∧ c.okn 4 ∧ c.lvs.length ≤ 60 ∧ ∀ qs : List (Str × Str), qs.Pairwise ltP → (∀ x, x ∈ qs ↔ x ∈ tstL c.lvs) → R (.p (.list (qs.map encP)))
def gMrk : FL := fun ds R => ∃ c : Cnd, ds = [.p c.d] ∧ c.okn 4 ∧ c.lvs.length ≤ 60 ∧ ∀ zs : List Str, RisS zs → (∀ x, x ∈ zs ↔ x ∈ mrkL c.lvs) → R (.p (.list (zs.map .str)))
def gNam : FL := fun ds R => ∃ c : Cnd, ds = [.p c.d] ∧ c.okn 4 ∧ c.lvs.length ≤ 60 ∧ (namL c.lvs).length ≤ 1000 ∧ ∀ zs : List Str, RisS zs → (∀ x, x ∈ zs ↔ x ∈ namL c.lvs) → R (.p (.list (zs.map .str)))
theorem fEqW_of {x w : Str} {b : Bool} {K1 : DV → Prop} (e : eqW (.str x) w = b) (h : K1 (.p (.bool b))) : fEqW (.p (.str x)) (.p (.str w)) K1 := by
  show K1 (.p (.bool (eqW (.str x) w)))
  rw [e]
  exact h
theorem sc_names {d0 d1 d2 : DV} {fin : List Key → Prop} : ∀ (ns : List Str) (acc : List Key), fin (acc ++ ns.map Sum.inr) → scL keyD (gdName 3) dYes (dVar 3) [.v d0, .v d1, .v d2, .un] fin (ns.map .str) acc
  | [], acc, h => by rw [List.map_nil, List.append_nil] at h; exact h
  | n :: ns, acc, h => ⟨Sum.inr n, rfl, sc_names ns (acc ++ [Sum.inr n]) (by rw [List.append_assoc]; exact h)⟩
theorem sc_fm {I : Type} {enc : I → PyData} {g : TDG} {tt : TB} {te : TD} {δ : Dn} {fin : List I → Prop} (f : Lf → Option I) : ∀ (ls : List Lf) (acc : List I), (∀ l ∈ ls, ∀ (K1 : I → Prop) (K2 : Prop), (match f l with | some j => K1 j | none => K2) → g (.p (encL l)) δ fun δ2 => tt δ2 fun b => if b = true then te δ2 fun y => asP y fun z => ∃ j, z = enc j ∧ K1 j else K2) → fin (acc ++ ls.filterMap f) → scL enc g tt te δ fin (ls.map encL) acc
  | [], acc, _, h => by rw [List.filterMap_nil, List.append_nil] at h; exact h
  | l :: ls, acc, hd, h => by
    refine hd l List.mem_cons_self _ _ ?_
    cases e : f l with
    | some z => exact sc_fm f ls (acc ++ [z]) (fun l' m => hd l' (List.mem_cons_of_mem _ m)) (by rw [List.filterMap_cons_some e] at h; rw [List.append_assoc]; exact h)
    | none => exact sc_fm f ls acc (fun l' m => hd l' (List.mem_cons_of_mem _ m)) (by rw [List.filterMap_cons_none e] at h; exact h)
theorem mem_lvsA {l : Lf} : ∀ {cs : List Cnd}, l ∈ Cnd.lvsA cs → ∃ c ∈ cs, l ∈ c.lvs
  | [], h => by simp only [Cnd.lvsA] at h; exact absurd h List.not_mem_nil
  | c :: cs, h => by
    simp only [Cnd.lvsA] at h
    rcases List.mem_append.mp h with z | z
    · exact ⟨c, List.mem_cons_self, z⟩
    · obtain ⟨c', m, z⟩ := mem_lvsA z
      exact ⟨c', List.mem_cons_of_mem _ m, z⟩
theorem lvs_ok : ∀ (n : Nat) (c : Cnd), c.okn n → ∀ l ∈ c.lvs, l.ok
  | 0, _, h, _, _ => h.elim
  | n + 1, .lf l, h, l', m => by
    simp only [Cnd.lvs] at m
    rw [List.mem_singleton.mp m]
    exact h
  | n + 1, .nt c, h, l', m => by
    simp only [Cnd.lvs] at m
    exact lvs_ok n c h l' m
  | n + 1, .gr b cs, h, l', m => by
    simp only [Cnd.lvs] at m
    obtain ⟨c, hc, z⟩ := mem_lvsA m
    exact lvs_ok n c ((show cs.length ≤ 100 ∧ ∀ c ∈ cs, c.okn n from h).2 c hc) l' z
theorem grW_f (b : Bool) : eqW (.str (grW b)) "not" = false ∧ inW (.str (grW b)) ["all", "any"] = true ∧ eqW (.str (grW b)) "all" = b ∧ eqW (.str (grW b)) "any" = !b := by cases b <;> decide +kernel
theorem eqv_ss (u t : Str) : PyData.eqv (.str u) (.str t) = decide (u = t) := by
  simp only [PyData.eqv]
  by_cases h : u = t
  · subst h; rw [decide_eq_true rfl]; exact beq_self_eq_true u
  · rw [decide_eq_false h]; exact beq_eq_false_iff_ne.mpr h
def Lf.fine : Lf → Prop
  | .frm ns => ns.length ≤ 3 ∧ ∀ z ∈ ns, SOk 4 z
  | .mrk m => SOk 4 m
  | .txt w t => inW (.str w) ["contains", "begins", "ends", "is"] = true ∧ SOk 8 w ∧ SOk 8 t ∧ (eqW (.str w) "is" = false → 1 ≤ t.length)
theorem Lf.fine.ok {l : Lf} (h : l.fine) : l.ok := by
  cases l with
  | frm ns => trivial
  | mrk m => trivial
  | txt w t => exact ⟨h.1, Nat.le_trans (show t.cps.toList.length ≤ 8 from h.2.2.1.len) (by decide)⟩
structure CF (n : Nat) (c : Cnd) : Prop where
  ok : c.okn (n + 1)
  fine : ∀ l ∈ c.lvs, l.fine
  many : c.lvs.length ≤ 3 ^ n
def gText5 : FL := fun ds R => ds = [.well] ∧ ∀ y, SOk 8 y → 1 ≤ y.length → R (.p (.str y))
def gCnd (n : Nat) : FL := fun ds R => ds = [.well, .p (.int ((n + 1 : Nat) : Int))] ∧ ∀ c, CF n c → R (.p c.d)
theorem menu5_ok {x : PyData} (h : x ∈ [PyData.str (Str.ofString "a"), .str (Str.ofString "b"), .str (Str.ofString "a"), .str (Str.ofString " "), .str (Str.ofString "~")]) : ∃ y, x = .str y ∧ SOk 1 y ∧ y.length = 1 := by
  have e : ([PyData.str (Str.ofString "a"), .str (Str.ofString "b"), .str (Str.ofString "a"), .str (Str.ofString " "), .str (Str.ofString "~")].all fun d => match d with | .str y => (decide (y.cps.toList.length ≤ 1) && y.cps.toList.all (fun c => decide (c < 16 ^ 8))) && decide (y.length = 1) | _ => false) = true := by decide +kernel
  have q := List.all_eq_true.mp e x h
  cases x with
  | str y =>
    rw [Bool.and_eq_true] at q
    exact ⟨y, rfl, sok q.1, of_decide_eq_true q.2⟩
  | _ => exact Bool.noConfusion q
theorem join_one : ∀ {ys : List Str}, (∀ y ∈ ys, y.length = 1) → 1 ≤ ys.length → 1 ≤ (Str.join (Str.ofString "") ys).length
  | [], _, h => absurd h (by decide)
  | [x], h, _ => by
    have := h x List.mem_cons_self
    show 1 ≤ x.length
    omega
  | x :: y :: r, h, _ => by
    have e := h x List.mem_cons_self
    show 1 ≤ (x ++ Str.ofString "" ++ Str.join (Str.ofString "") (y :: r)).length
    rw [len_app, len_app]
    omega
theorem cf_leaf {n : Nat} {l : Lf} (h : l.fine) : CF n (.lf l) := ⟨h.ok, fun l' m => by
  simp only [Cnd.lvs] at m
  rw [List.mem_singleton.mp m]
  exact h, by
  simp only [Cnd.lvs]
  exact Nat.one_le_pow n 3 (by decide)⟩
theorem cf_not {n : Nat} {c : Cnd} (h : CF n c) : CF (n + 1) (.nt c) := ⟨h.ok, fun l m => by
  simp only [Cnd.lvs] at m
  exact h.fine l m, by
  simp only [Cnd.lvs]
  exact Nat.le_trans h.many (Nat.pow_le_pow_right (by decide) (Nat.le_succ n))⟩
theorem lvsA_len {n : Nat} : ∀ {cs : List Cnd}, (∀ c ∈ cs, c.lvs.length ≤ n) → (Cnd.lvsA cs).length ≤ cs.length * n
  | [], _ => by simp only [Cnd.lvsA]; exact Nat.zero_le _
  | c :: cs, h => by
    simp only [Cnd.lvsA, List.length_append, List.length_cons]
    have a := h c List.mem_cons_self
    have b := lvsA_len (n := n) fun c m => h c (List.mem_cons_of_mem _ m)
    rw [Nat.succ_mul]
    omega
theorem cf_group {n : Nat} {b : Bool} {cs : List Cnd} (h : ∀ c ∈ cs, CF n c) (hl : cs.length ≤ 3) : CF (n + 1) (.gr b cs) := ⟨⟨Nat.le_trans hl (by decide), fun c m => (h c m).ok⟩, fun l m => by
  simp only [Cnd.lvs] at m
  obtain ⟨c, hc, z⟩ := mem_lvsA m
  exact (h c hc).fine l z, by
  simp only [Cnd.lvs]
  refine Nat.le_trans (lvsA_len fun c m => (h c m).many) ?_
  rw [Nat.pow_succ, Nat.mul_comm]
  exact Nat.mul_le_mul_left _ hl⟩
theorem ds_map : ∀ cs : List Cnd, Cnd.ds cs = cs.map Cnd.d
  | [] => by simp only [Cnd.ds, List.map_nil]
  | c :: cs => by simp only [Cnd.ds, List.map_cons, ds_map cs]
theorem cnds_of {n : Nat} : ∀ {zs : List PyData}, (∀ z ∈ zs, ∃ c, z = Cnd.d c ∧ CF n c) → ∃ cs : List Cnd, zs = Cnd.ds cs ∧ cs.length = zs.length ∧ ∀ c ∈ cs, CF n c
  | [], _ => ⟨[], by simp only [Cnd.ds], rfl, fun _ h => absurd h List.not_mem_nil⟩
  | z :: zs, h => by
    obtain ⟨y, rfl, sy⟩ := h z List.mem_cons_self
    obtain ⟨ys, rfl, e, hs⟩ := cnds_of fun z hz => h z (List.mem_cons_of_mem _ hz)
    exact ⟨y :: ys, by simp only [Cnd.ds], by rw [List.length_cons, List.length_cons, e], fun u hu => by
      rcases List.mem_cons.mp hu with e | m
      · rw [e]; exact sy
      · exact hs u m⟩
theorem strL {a b : Str} : a = b ↔ a.cps.toList = b.cps.toList := ⟨fun e => by rw [e], fun e => by
  obtain ⟨a⟩ := a
  obtain ⟨b⟩ := b
  have e' : a.toList = b.toList := e
  rw [Array.toList_inj.mp e']⟩
theorem cut_list (z : Str) (lo hi : Option Int) : (cutS z lo hi).cps.toList = (z.cps.toList.drop (HT.sIx z.length 0 lo)).take (HT.sIx z.length z.length hi - HT.sIx z.length 0 lo) := rfl
theorem len_list (z : Str) : z.cps.toList.length = z.length := by rw [Array.length_toList]; rfl
theorem sub_iff {u t : Str} {i : Nat} : Builtin.Str.subAt u t i = true ↔ (u.cps.toList.drop i).take t.length = t.cps.toList := by
  rw [StrLaws.subAt_eq, beq_iff_eq]
theorem cut_sub {u t : Str} {i : Nat} (hi : i < u.length) : cutS u (some (i : Int)) (some ((i : Int) + (t.length : Int))) = t ↔ i + t.length ≤ u.length ∧ Builtin.Str.subAt u t i = true := by
  rw [strL, cut_list, sub_iff, show (i : Int) + (t.length : Int) = ((i + t.length : Nat) : Int) by omega, HT.sIx_nat, HT.sIx_nat, Nat.min_eq_left (Nat.le_of_lt hi)]
  by_cases h : i + t.length ≤ u.length
  · rw [Nat.min_eq_left h, show i + t.length - i = t.length by omega]
    exact ⟨fun e => ⟨h, e⟩, fun e => e.2⟩
  · constructor
    · intro e
      have := congrArg List.length e
      rw [List.length_take, List.length_drop, len_list, len_list] at this
      omega
    · intro e
      exact absurd e.1 h
def atF (u t : Str) (d : PyData) : Option PyData := match d with
  | .int i => if cutS u (some i) (some (i + (t.length : Int))) = t then some d else none
  | _ => none
theorem has_in {u t : Str} (h : 1 ≤ t.length) : (!((rngD 0 u.length).filterMap (atF u t)).isEmpty) = inS t u := by
  unfold inS
  rw [Bool.eq_iff_iff, StrLaws.found_iff]
  have e : (!((rngD 0 u.length).filterMap (atF u t)).isEmpty) = true ↔ ∃ d, d ∈ (rngD 0 u.length).filterMap (atF u t) := by
    cases (rngD 0 u.length).filterMap (atF u t) with
    | nil => exact ⟨fun z => Bool.noConfusion z, fun ⟨_, m⟩ => absurd m List.not_mem_nil⟩
    | cons a l => exact ⟨fun _ => ⟨a, List.mem_cons_self⟩, fun _ => rfl⟩
  rw [e]
  constructor
  · rintro ⟨d, m⟩
    obtain ⟨x, hx, ex⟩ := List.mem_filterMap.mp m
    obtain ⟨i, hi, rfl⟩ := mem_rng hx
    have ex : (if cutS u (some (0 + (i : Int))) (some (0 + (i : Int) + (t.length : Int))) = t then some (PyData.int (0 + (i : Int))) else none) = some d := ex
    rw [Int.zero_add] at ex
    by_cases q : cutS u (some (i : Int)) (some ((i : Int) + (t.length : Int))) = t
    · exact ⟨i, (cut_sub hi).mp q⟩
    · rw [if_neg q] at ex
      cases ex
  · rintro ⟨i, h1, h2⟩
    have hi : i < u.length := by omega
    refine ⟨.int (i : Int), List.mem_filterMap.mpr ⟨.int (0 + (i : Int)), ?_, ?_⟩⟩
    · unfold rngD
      exact List.mem_map.mpr ⟨i, List.mem_range.mpr hi, rfl⟩
    · show (if cutS u (some (0 + (i : Int))) (some (0 + (i : Int) + (t.length : Int))) = t then some (PyData.int (0 + (i : Int))) else none) = _
      rw [Int.zero_add, if_pos ((cut_sub hi).mpr ⟨h1, h2⟩)]
theorem begins_cut {u t : Str} : decide (cutS u none (some (t.length : Int)) = t) = Txt.startswith u t := by
  unfold Txt.startswith
  rw [Bool.eq_iff_iff, decide_eq_true_iff, Bool.and_eq_true, decide_eq_true_iff, strL, cut_list, sub_iff, HT.sIx_nat, HT.sIx_none, List.drop_zero, Nat.sub_zero]
  by_cases h : t.length ≤ u.length
  · rw [Nat.min_eq_left h]
    exact ⟨fun e => ⟨by omega, e⟩, fun e => e.2⟩
  · constructor
    · intro e
      have := congrArg List.length e
      rw [List.length_take, len_list, len_list] at this
      omega
    · intro e
      exact absurd e.1 (by omega)
theorem ends_cut {u t : Str} (h : t.length ≤ u.length) : decide (cutS u (some ((u.length : Int) - (t.length : Int))) none = t) = Txt.endswith u t := by
  unfold Txt.endswith
  rw [Bool.eq_iff_iff, decide_eq_true_iff, Bool.and_eq_true, decide_eq_true_iff, strL, cut_list, sub_iff, show (u.length : Int) - (t.length : Int) = ((u.length - t.length : Nat) : Int) by omega, HT.sIx_nat, HT.sIx_none, Nat.min_eq_left (Nat.sub_le _ _), show u.length - (u.length - t.length) = t.length by omega]
  exact ⟨fun e => ⟨by omega, e⟩, fun e => e.2⟩
theorem ends_no {u t : Str} (h : ¬ t.length ≤ u.length) : Txt.endswith u t = false := by
  unfold Txt.endswith
  rw [decide_eq_false (by omega), Bool.false_and]
theorem hold_all (s u : Str) (ms : List Str) : ∀ cs : List Cnd, (!hasD (.bool false) (cs.map fun c => PyData.bool (c.hold s u ms))) = Cnd.holdG s u ms true cs
  | [] => by simp only [Cnd.holdG]; rfl
  | c :: cs => by
    have ih := hold_all s u ms cs
    simp only [Cnd.holdG, hasD, List.map_cons, List.any_cons, eqF] at ih ⊢
    cases c.hold s u ms with
    | true =>
      rw [if_pos rfl, ← ih]
      rfl
    | false => rfl
theorem hold_any (s u : Str) (ms : List Str) : ∀ cs : List Cnd, hasD (.bool true) (cs.map fun c => PyData.bool (c.hold s u ms)) = Cnd.holdG s u ms false cs
  | [] => by simp only [Cnd.holdG]; rfl
  | c :: cs => by
    have ih := hold_any s u ms cs
    simp only [Cnd.holdG, hasD, List.map_cons, List.any_cons, eqF] at ih ⊢
    cases c.hold s u ms with
    | true => rfl
    | false =>
      rw [if_pos rfl, ← ih]
      rfl
theorem flat_bools : ∀ (cs : List Cnd) (f : Cnd → Bool), (cs.map fun c => PyData.bool (f c)).all flatD = true
  | [], _ => rfl
  | _ :: cs, f => by rw [List.map_cons, List.all_cons, flat_bools cs f]; rfl
theorem fW_f {x w : Str} {A B : Prop} (e : eqW (.str x) w = false) (h : B) : fEqW (.p (.str x)) (.p (.str w)) (fun d => asB d fun b => if b = true then A else B) := fEqW_of e h
theorem fW_t {x w : Str} {A B : Prop} (e : eqW (.str x) w = true) (h : A) : fEqW (.p (.str x)) (.p (.str w)) (fun d => asB d fun b => if b = true then A else B) := fEqW_of e h
def gHoldL (n : Nat) : FL := fun ds R => ∃ (c : Cnd) (s a u : Str) (ms : List Str), ds = [.p c.d, .p (msgD s a u ms)] ∧ c.okn n ∧ (∀ l ∈ c.lvs, l.fine) ∧ u.length ≤ 4000 ∧ R (.p (.bool (c.hold s u ms)))
def gMsg5 : FL := fun ds R => ds = [.well] ∧ ∀ (s a u : Str) (ms : List Str), u.length ≤ 6 → R (.p (msgD s a u ms))
theorem lc_any {g : TDG} {tt : TB} {te : TD} {δ : Dn} {fin : List PyData → Prop} (p : PyData → Prop) : ∀ (ds acc : List PyData),
    (∀ d ∈ ds, ∀ (K1 : PyData → Prop) (K2 : Prop), (∀ z, p z → K1 z) → K2 → g (.p d) δ fun δ2 => tt δ2 fun b => if b = true then te δ2 fun y => asP y K1 else K2) →
    (∀ zs : List PyData, zs.length ≤ ds.length → (∀ z ∈ zs, p z) → fin (acc ++ zs)) → lcL g tt te δ fin ds acc
  | [], acc, _, h => by have := h [] (Nat.le_refl _) (by simp); rw [List.append_nil] at this; exact this
  | d :: ds, acc, hd, h => by
    refine hd d List.mem_cons_self _ _ (fun z hz => ?_) ?_
    · exact lc_any p ds (acc ++ [z]) (fun d' m => hd d' (List.mem_cons_of_mem _ m)) fun zs e hp => by
        rw [List.append_assoc]
        exact h (z :: zs) (by rw [List.length_cons, List.length_cons]; omega) fun y hy => by
          rcases List.mem_cons.mp hy with e | m
          · rw [e]; exact hz
          · exact hp y m
    · exact lc_any p ds acc (fun d' m => hd d' (List.mem_cons_of_mem _ m)) fun zs e hp => h zs (by rw [List.length_cons]; omega) hp
theorem strs_any : ∀ {zs : List PyData}, (∀ z ∈ zs, ∃ y, z = PyData.str y) → ∃ ys : List Str, zs = ys.map .str
  | [], _ => ⟨[], rfl⟩
  | z :: zs, h => by
    obtain ⟨y, rfl⟩ := h z List.mem_cons_self
    obtain ⟨ys, rfl⟩ := strs_any fun z hz => h z (List.mem_cons_of_mem _ hz)
    exact ⟨y :: ys, rfl⟩
theorem str_in {L : List PyData} (h : (L.all fun d => match d with | .str _ => true | _ => false) = true) {x : PyData} (m : x ∈ L) : ∃ y, x = .str y := by
  have q := List.all_eq_true.mp h x m
  cases x with
  | str y => exact ⟨y, rfl⟩
  | _ => exact Bool.noConfusion q
theorem fEqQ_s {a b : Str} {R : DV → Prop} (h : R (.p (.bool (decide (a = b))))) : fEqQ false (.p (.str a)) (.p (.str b)) R := by
  refine ⟨rfl, rfl, Nat.zero_le _, ?_⟩
  show R (.p (.bool (PyData.eqv (.str a) (.str b))))
  rw [eqv_ss]
  exact h
theorem in_lvsA {l : Lf} {c : Cnd} : ∀ {cs : List Cnd}, c ∈ cs → l ∈ c.lvs → l ∈ Cnd.lvsA cs
  | [], h, _ => absurd h List.not_mem_nil
  | d :: cs, h, m => by
    simp only [Cnd.lvsA]
    rcases List.mem_cons.mp h with e | h
    · subst e; exact List.mem_append_left _ m
    · exact List.mem_append_right _ (in_lvsA h m)
theorem grW_n (b : Bool) : eqW (.str (grW b)) "from" = false ∧ eqW (.str (grW b)) "marked" = false ∧ eqW (.str (grW b)) "contains" = false ∧ eqW (.str (grW b)) "begins" = false ∧ eqW (.str (grW b)) "ends" = false ∧ eqW (.str (grW b)) "is" = false ∧ eqW (.str (grW b)) "not" = false ∧ True := by cases b <;> decide +kernel
def JL (ns : List Int)  (δ : Dn) : Prop := ∃ y1 y2 y3 y4 y5 y6 y7 y8 y9 y10 y11 y12 y13 y14 y15 y16 y17 : Sl, δ = [.v (.scr ns), y1, y2, y3, y4, y5, y6, y7, y8, y9, y10, y11, y12, y13, y14, y15, y16, y17]
def JW (ns : List Int)  (δ : Dn) : Prop := ∃ y1 y3 y4 y5 y6 y7 y8 y9 y10 y11 y12 y13 y14 y15 y16 y17 : Sl, δ = [.v (.scr ns), y1, .v .well, y3, y4, y5, y6, y7, y8, y9, y10, y11, y12, y13, y14, y15, y16, y17]
def JC (ns : List Int) (c : Cnd) (δ : Dn) : Prop := ∃ y1 y3 y5 y6 y7 y8 y9 y10 y11 y12 y13 y14 y15 y16 y17 : Sl, δ = [.v (.scr ns), y1, .v .well, y3, .v (.p c.d), y5, y6, y7, y8, y9, y10, y11, y12, y13, y14, y15, y16, y17]
def JP (ns : List Int) (c : Cnd) (δ : Dn) : Prop := ∃ y1 y3 y6 y7 y8 y9 y10 y11 y12 y13 y14 y15 y16 y17 : Sl, δ = [.v (.scr ns), y1, .v .well, y3, .v (.p c.d), .v (.p (.list (c.lvs.map encL))), y6, y7, y8, y9, y10, y11, y12, y13, y14, y15, y16, y17]
def JT (ns : List Int) (c : Cnd) (qs : List (Str × Str)) (δ : Dn) : Prop := ∃ y1 y3 y7 y8 y9 y10 y11 y12 y13 y14 y15 y16 y17 : Sl, δ = [.v (.scr ns), y1, .v .well, y3, .v (.p c.d), .v (.p (.list (c.lvs.map encL))), .v (.p (.list (qs.map encP))), y7, y8, y9, y10, y11, y12, y13, y14, y15, y16, y17]
def JM (ns : List Int) (c : Cnd) (qs : List (Str × Str)) (ms : List Str) (δ : Dn) : Prop := ∃ y1 y3 y7 y9 y10 y11 y12 y13 y14 y15 y16 y17 : Sl, δ = [.v (.scr ns), y1, .v .well, y3, .v (.p c.d), .v (.p (.list (c.lvs.map encL))), .v (.p (.list (qs.map encP))), y7, .v (.p (.list (ms.map .str))), y9, y10, y11, y12, y13, y14, y15, y16, y17]
def J9 (ns : List Int) (c : Cnd) (qs : List (Str × Str)) (ms ts : List Str) (δ : Dn) : Prop := ∃ y1 y3 y7 y10 y11 y12 y13 y14 y15 y16 y17 : Sl, δ = [.v (.scr ns), y1, .v .well, y3, .v (.p c.d), .v (.p (.list (c.lvs.map encL))), .v (.p (.list (qs.map encP))), y7, .v (.p (.list (ms.map .str))), .v (.p (.list (ts.map .str))), y10, y11, y12, y13, y14, y15, y16, y17]
def JDu (ns : List Int) (c : Cnd) (qs : List (Str × Str)) (ms zs : List Str) (δ : Dn) : Prop := ∃ y1 y3 y5 y7 y8 y9 y11 y12 y13 y14 y15 y16 y17 : Sl, δ = [.v (.scr ns), y1, .v .well, y3, .v (.p c.d), y5, .v (.p (.list (qs.map encP))), y7, y8, y9, .v (.p (.list [.list (qs.map encP), .list (ms.map .str), .list (zs.map .str)])), y11, y12, y13, y14, y15, y16, y17]
def JMs (ns : List Int) (c : Cnd) (qs : List (Str × Str)) (ms zs : List Str) (s a u : Str) (mm : List Str) (δ : Dn) : Prop := ∃ y1 y3 y5 y7 y8 y9 y11 y12 y13 y14 y16 y17 : Sl, δ = [.v (.scr ns), y1, .v .well, y3, .v (.p c.d), y5, .v (.p (.list (qs.map encP))), y7, y8, y9, .v (.p (.list [.list (qs.map encP), .list (ms.map .str), .list (zs.map .str)])), y11, y12, y13, y14, .v (.p (msgD s a u mm)), y16, y17]
theorem seq_mid {a b : TDS} {E : DE} {δ : Dn} (I : Dn → Prop) (h1 : ∀ E' : DE, E'.rt = E.rt → (∀ δ', I δ' → E'.nx δ') → a E' δ) (h2 : ∀ δ', I δ' → b E δ') : dSeq a b E δ := h1 _ rfl h2
theorem lc_lf {g : TDG} {tt : TB} {te : TD} {δ : Dn} {fin : List PyData → Prop} (f : Lf → Option PyData) : ∀ (ls : List Lf) (acc : List PyData),
    (∀ l ∈ ls, ∀ (K1 : PyData → Prop) (K2 : Prop), (match f l with | some z => K1 z | none => K2) → g (.p (encL l)) δ fun δ2 => tt δ2 fun b => if b = true then te δ2 fun y => asP y K1 else K2) → fin (acc ++ ls.filterMap f) → lcL g tt te δ fin (ls.map encL) acc
  | [], acc, _, h => by rw [List.filterMap_nil, List.append_nil] at h; exact h
  | l :: ls, acc, hd, h => by
    refine hd l List.mem_cons_self _ _ ?_
    cases e : f l with
    | some z => exact lc_lf f ls (acc ++ [z]) (fun l' m => hd l' (List.mem_cons_of_mem _ m)) (by rw [List.filterMap_cons_some e] at h; rw [List.append_assoc]; exact h)
    | none => exact lc_lf f ls acc (fun l' m => hd l' (List.mem_cons_of_mem _ m)) (by rw [List.filterMap_cons_none e] at h; exact h)
def tD (l : Lf) : Option PyData := match l with | .txt w t => some (encP (w, t)) | _ => none
def mD (l : Lf) : Option PyData := match l with | .mrk m => some (.str m) | _ => none
theorem tD_all : ∀ ls : List Lf, ls.filterMap tD = (tstL ls).map encP
  | [] => rfl
  | l :: ls => by
    have ih := tD_all ls
    cases l <;> simp only [tD, tstL, List.filterMap_cons] at ih ⊢ <;> rw [ih] <;> rfl
theorem mD_all : ∀ ls : List Lf, ls.filterMap mD = (mrkL ls).map .str
  | [] => rfl
  | l :: ls => by
    have ih := mD_all ls
    cases l <;> simp only [mD, mrkL, List.filterMap_cons] at ih ⊢ <;> rw [ih] <;> rfl
theorem tstL_len : ∀ ls : List Lf, (tstL ls).length ≤ ls.length := fun ls => List.length_filterMap_le _ _
theorem mrkL_len : ∀ ls : List Lf, (mrkL ls).length ≤ ls.length := fun ls => List.length_filterMap_le _ _
theorem namL_len : ∀ {ls : List Lf}, (∀ l ∈ ls, l.fine) → (namL ls).length ≤ ls.length * 3
  | [], _ => Nat.zero_le _
  | l :: ls, h => by
    have ih := namL_len fun l m => h l (List.mem_cons_of_mem _ m)
    have hl := h l List.mem_cons_self
    simp only [namL, List.flatMap_cons, List.length_append, List.length_cons] at ih ⊢
    cases l with
    | frm ns =>
      have : ns.length ≤ 3 := hl.1
      show ns.length + _ ≤ _
      omega
    | mrk m =>
      show 0 + _ ≤ _
      omega
    | txt w t =>
      show 0 + _ ≤ _
      omega
theorem tst_fine {ls : List Lf} (h : ∀ l ∈ ls, l.fine) {p : Str × Str} (m : p ∈ tstL ls) : SOk 8 p.1 ∧ SOk 8 p.2 := by
  obtain ⟨l, hl, e⟩ := List.mem_filterMap.mp m
  have f := h l hl
  cases l with
  | txt w t =>
    cases e
    exact ⟨f.2.1, f.2.2.1⟩
  | _ => cases e
theorem mrk_fine {ls : List Lf} (h : ∀ l ∈ ls, l.fine) {p : Str} (m : p ∈ mrkL ls) : SOk 4 p := by
  obtain ⟨l, hl, e⟩ := List.mem_filterMap.mp m
  have f := h l hl
  cases l with
  | mrk w => cases e; exact f
  | _ => cases e
theorem nam_fine {ls : List Lf} (h : ∀ l ∈ ls, l.fine) {p : Str} (m : p ∈ namL ls) : SOk 4 p := by
  obtain ⟨l, hl, e⟩ := List.mem_flatMap.mp m
  have f := h l hl
  cases l with
  | frm ns => exact f.2 p e
  | _ => exact absurd e List.not_mem_nil
theorem ltP_len : ∀ {zs ks : List (Str × Str)}, zs.Pairwise ltP → (∀ z ∈ zs, z ∈ ks) → zs.length ≤ ks.length
  | [], _, _, _ => Nat.zero_le _
  | z :: zs, ks, hr, h => by
    obtain ⟨h1, h2⟩ := List.pairwise_cons.mp hr
    have hz := h z List.mem_cons_self
    have ih := ltP_len (zs := zs) (ks := ks.erase z) h2 fun y hy => by
      have ne : y ≠ z := fun e => by
        subst e
        exact absurd (h1 y hy) (ltP_irr _)
      exact (List.mem_erase_of_ne ne).mpr (h y (List.mem_cons_of_mem _ hy))
    rw [List.length_erase_of_mem hz] at ih
    have : 0 < ks.length := List.length_pos_of_mem hz
    rw [List.length_cons]
    omega
theorem ltP_one : ∀ {xs ys : List (Str × Str)}, xs.Pairwise ltP → ys.Pairwise ltP → (∀ x, x ∈ xs ↔ x ∈ ys) → xs = ys := by
  intro xs
  induction xs with
  | nil =>
    intro ys _ _ h
    cases ys with
    | nil => rfl
    | cons y ys => exact absurd ((h y).mpr List.mem_cons_self) List.not_mem_nil
  | cons x xs ih =>
    intro ys hx hy h
    cases ys with
    | nil => exact absurd ((h x).mp List.mem_cons_self) List.not_mem_nil
    | cons y ys =>
      obtain ⟨x1, x2⟩ := List.pairwise_cons.mp hx
      obtain ⟨y1, y2⟩ := List.pairwise_cons.mp hy
      have e : x = y := by
        rcases List.mem_cons.mp ((h x).mp List.mem_cons_self) with z | z
        · exact z
        · rcases List.mem_cons.mp ((h y).mpr List.mem_cons_self) with w | w
          · exact w.symm
          · exact absurd (ltP_trans (y1 x z) (x1 y w)) (ltP_irr y)
      subst e
      have t := ih x2 y2 fun z => by
        constructor
        · intro hz
          rcases List.mem_cons.mp ((h z).mp (List.mem_cons_of_mem _ hz)) with w | w
          · subst w
            exact absurd (x1 z hz) (ltP_irr z)
          · exact w
        · intro hz
          rcases List.mem_cons.mp ((h z).mpr (List.mem_cons_of_mem _ hz)) with w | w
          · subst w
            exact absurd (y1 z hz) (ltP_irr z)
          · exact w
      rw [t]
theorem keys_of (ys : List Str) : ([] ++ ys.map PyData.str) = (ys.map Sum.inr).map keyD := by rw [List.nil_append, List.map_map]; rfl
/-- what stands in the lists of a drawn condition -/
structure Due (c : Cnd) (qs : List (Str × Str)) (ms zs : List Str) : Prop where
  cf : CF 3 c
  q1 : qs.Pairwise ltP
  q2 : ∀ x, x ∈ qs ↔ x ∈ tstL c.lvs
  m1 : RisS ms
  m2 : ∀ x, x ∈ ms ↔ x ∈ mrkL c.lvs
  z1 : RisS zs
  z2 : ∀ x, x ∈ zs ↔ x ∈ namL c.lvs
def dueD (qs : List (Str × Str)) (ms zs : List Str) : PyData := .list [.list (qs.map encP), .list (ms.map .str), .list (zs.map .str)]
theorem CF.l27 {c : Cnd} (h : CF 3 c) : c.lvs.length ≤ 27 := h.many
theorem CF.l81 {c : Cnd} (h : CF 3 c) : (namL c.lvs).length ≤ 81 := Nat.le_trans (namL_len h.fine) (Nat.mul_le_mul_right 3 h.l27)
theorem Due.ql {c : Cnd} {qs : List (Str × Str)} {ms zs : List Str} (d : Due c qs ms zs) : qs.length ≤ 27 := Nat.le_trans (ltP_len d.q1 fun z m => (d.q2 z).mp m) (Nat.le_trans (tstL_len _) d.cf.l27)
theorem Due.ml {c : Cnd} {qs : List (Str × Str)} {ms zs : List Str} (d : Due c qs ms zs) : ms.length ≤ 27 := Nat.le_trans (ris_len d.m1 fun z m => (d.m2 z).mp m) (Nat.le_trans (mrkL_len _) d.cf.l27)
theorem Due.zl {c : Cnd} {qs : List (Str × Str)} {ms zs : List Str} (d : Due c qs ms zs) : zs.length ≤ 81 := Nat.le_trans (ris_len d.z1 fun z m => (d.z2 z).mp m) d.cf.l81
theorem gd_strs {n k : Nat} {ms : List Str} (h : ∀ m ∈ ms, SOk n m) (hk : ms.length ≤ k) : Gd (k * (n + 1)) 1 (.list (ms.map .str)) := GdA.lst (gdMany (m := 0) (W := n) (fun x hx => by
  obtain ⟨m, hm, rfl⟩ := List.mem_map.mp hx
  exact (h m hm).gs) (by rw [List.length_map]; exact hk)) (Nat.le_refl 1)
theorem Due.shows {c : Cnd} {qs : List (Str × Str)} {ms zs : List Str} (d : Due c qs ms zs) : Shows (dueD qs ms zs) := by
  have a : Gd 2000 2 (.list (qs.map encP)) := (GdA.lst (gdMany (m := 1) (W := 18) (k := 27) (fun x hx => by
    obtain ⟨p, hp, rfl⟩ := List.mem_map.mp hx
    have f := tst_fine d.cf.fine ((d.q2 p).mp hp)
    exact (gd2 (a := 8) (b := 8) (m := 0) f.1.gs f.2.gs)) (by rw [List.length_map]; exact d.ql)) (by decide)).up (by decide) (by decide)
  have b : Gd 2000 2 (.list (ms.map .str)) := (gd_strs (n := 4) (k := 27) (fun m hm => mrk_fine d.cf.fine ((d.m2 m).mp hm)) d.ml).up (by decide) (by decide)
  have e : Gd 2000 2 (.list (zs.map .str)) := (gd_strs (n := 4) (k := 81) (fun m hm => nam_fine d.cf.fine ((d.z2 m).mp hm)) d.zl).up (by decide) (by decide)
  have all : ∀ x ∈ [PyData.list (qs.map encP), .list (ms.map .str), .list (zs.map .str)], Gd 2000 2 x := fun x hx => by
    rcases List.mem_cons.mp hx with z | hx
    · rw [z]; exact a
    rcases List.mem_cons.mp hx with z | hx
    · rw [z]; exact b
    · rw [List.mem_singleton.mp hx]; exact e
  exact (GdA.lst (gdMany all (k := 3) (Nat.le_refl _)) (by decide)).shows (by decide) (by decide)
theorem fNeq_refl {a : Str} {R : DV → Prop} (h : R (.p (.bool false))) : fEqQ true (.p (.str a)) (.p (.str a)) R := by
  refine ⟨rfl, rfl, Nat.zero_le _, ?_⟩
  show R (.p (.bool (!PyData.eqv (.str a) (.str a))))
  rw [eqv_ss, decide_eq_true rfl]
  exact h
theorem for_lf {E : DE} {g : TDG} {tb : TDS} (I : List Lf → Dn → Prop) : ∀ (ls pre : List Lf) (δ : Dn), I pre δ → (∀ l ∈ ls, ∀ (pre' : List Lf), pre'.length ≤ pre.length + ls.length → ∀ δ', I pre' δ' → ∀ (E' : DE), E'.rt = E.rt → (∀ δ2, I (pre' ++ [l]) δ2 → E'.nx δ2) → g (.p (encL l)) δ' fun δ2 => tb E' δ2) → (∀ δ', I (pre ++ ls) δ' → E.nx δ') → forL E g tb (ls.map encL) δ
  | [], pre, δ, h, _, he => he δ (by rw [List.append_nil]; exact h)
  | l :: ls, pre, δ, h, hb, he => hb l List.mem_cons_self pre (by omega) δ h _ rfl fun δ2 h2 => for_lf I ls (pre ++ [l]) δ2 h2 (fun l' m pre' hl => hb l' (List.mem_cons_of_mem _ m) pre' (by rw [List.length_append, List.length_singleton] at hl; rw [List.length_cons]; omega)) fun δ' h' => he δ' (by rw [List.append_assoc] at h'; exact h')
theorem namL_app (a b : List Lf) : namL (a ++ b) = namL a ++ namL b := by simp only [namL, List.flatMap_append]
def gTyp : FL := fun ds R => ds = [] ∧ R (.p (.bool true))
def wideC : Cnd := .gr false [.lf (.frm [Str.ofString "aaa", Str.ofString "b"]), .lf (.mrk (Str.ofString "seen")), .lf (.mrk (Str.ofString "k")), .lf (.frm [Str.ofString "abe"])]
def letterD : PyData := msgD (Str.ofString "ann") (Str.ofString "box") (Str.ofString "") []
def sgsN : List Nat := (Str.ofString "stuvwxyz").cps.toList
def sgn (i : Nat) : Str := ⟨#[(Str.ofString "stuvwxyz").cps.getD i 0]⟩
def begC (s : Str) : Cnd := .lf (.txt (Str.ofString "begins") s)
def E8 : List Cnd := sgsN.map fun c => begC ⟨#[c]⟩
def pageU (i : Nat) : Str := sgn i ++ Str.ofString "s"
def pageD (i : Nat) : PyData := msgD (Str.ofString "ann") (Str.ofString "box") (pageU i) []
def notsA (i : Nat) : List Cnd := (E8.take i ++ E8.drop (i + 1)).map .nt
def notsC (i : Nat) : List Cnd := notsA i ++ [.nt (E8.getD i (begC (Str.ofString "")))]
def Q8 : List (Str × Str) := sgsN.map fun c => (Str.ofString "begins", ⟨#[c]⟩)
theorem E8_len : E8.length = 8 := by decide +kernel
theorem E8_in {c : Cnd} (h : c ∈ E8) : ∃ k, c = begC ⟨#[k]⟩ := by
  obtain ⟨k, _, e⟩ := List.mem_map.mp h
  exact ⟨k, e.symm⟩
theorem beg_ok (k n : Nat) : (begC ⟨#[k]⟩).okn (n + 1) := by
  show Lf.ok _
  exact ⟨by decide +kernel, show 1 ≤ 4000 by decide⟩
theorem notsA_in {c : Cnd} {i : Nat} (h : c ∈ notsA i) : ∃ k, c = .nt (begC ⟨#[k]⟩) := by
  obtain ⟨d, hd, rfl⟩ := List.mem_map.mp h
  rcases List.mem_append.mp hd with z | z
  · obtain ⟨k, rfl⟩ := E8_in (List.mem_of_mem_take z)
    exact ⟨k, rfl⟩
  · obtain ⟨k, rfl⟩ := E8_in (List.mem_of_mem_drop z)
    exact ⟨k, rfl⟩
theorem E8_at {i : Nat} (h : i < 8) : E8.getD i (begC (Str.ofString "")) ∈ E8 := by
  rw [List.getD_eq_getElem?_getD, List.getElem?_eq_getElem (by rw [E8_len]; exact h)]
  exact List.getElem_mem _
theorem notsC_in {c : Cnd} {i : Nat} (hi : i < 8) (h : c ∈ notsC i) : ∃ k, c = .nt (begC ⟨#[k]⟩) := by
  rcases List.mem_append.mp h with z | z
  · exact notsA_in z
  · obtain ⟨k, e⟩ := E8_in (E8_at hi)
    exact ⟨k, by rw [List.mem_singleton.mp z, e]⟩
theorem gr_ok {b : Bool} {cs : List Cnd} (hl : cs.length ≤ 100) (h : ∀ c ∈ cs, c.okn 3) : (Cnd.gr b cs).okn 4 := ⟨hl, h⟩
theorem E8_ok {c : Cnd} (h : c ∈ E8) : c.okn 3 := by
  obtain ⟨k, rfl⟩ := E8_in h
  exact beg_ok k 2
theorem nt_ok (k : Nat) : (Cnd.nt (begC ⟨#[k]⟩)).okn 3 := beg_ok k 1
theorem notsA_len (i : Nat) : (notsA i).length ≤ 16 := by
  unfold notsA
  rw [List.length_map, List.length_append, List.length_take, List.length_drop, E8_len]
  omega
theorem gr_d (b : Bool) (cs : List Cnd) : (Cnd.gr b cs).d = .tuple [.str (grW b), .tuple (cs.map Cnd.d)] := by simp only [Cnd.d, ds_map]
theorem nt_d (c : Cnd) : (Cnd.nt c).d = .tuple [.str (Str.ofString "not"), c.d] := by simp only [Cnd.d]
theorem holds8 : ((List.range 8).all fun i => Cnd.hold (Str.ofString "ann") (pageU i) [] (.gr false E8) && !Cnd.hold (Str.ofString "ann") (pageU i) [] (.gr true E8) && !Cnd.hold (Str.ofString "ann") (pageU i) [] (.gr true (notsC i)) && Cnd.hold (Str.ofString "ann") (pageU i) [] (.gr true (notsA i))) = true := by decide +kernel
theorem holds8_at {i : Nat} (h : i < 8) : Cnd.hold (Str.ofString "ann") (pageU i) [] (.gr false E8) = true ∧ Cnd.hold (Str.ofString "ann") (pageU i) [] (.gr true E8) = false ∧ Cnd.hold (Str.ofString "ann") (pageU i) [] (.gr true (notsC i)) = false ∧ Cnd.hold (Str.ofString "ann") (pageU i) [] (.gr true (notsA i)) = true := by
  have q := List.all_eq_true.mp holds8 i (List.mem_range.mpr h)
  simp only [Bool.and_eq_true, Bool.not_eq_true'] at q
  exact ⟨q.1.1.1, q.1.1.2, q.1.2, q.2⟩
theorem mem_both {α : Type} [DecidableEq α] {A B : List α} (h : ((A.all fun x => decide (x ∈ B)) && B.all fun x => decide (x ∈ A)) = true) (x : α) : x ∈ A ↔ x ∈ B := by
  rw [Bool.and_eq_true] at h
  exact ⟨fun m => of_decide_eq_true (List.all_eq_true.mp h.1 x m), fun m => of_decide_eq_true (List.all_eq_true.mp h.2 x m)⟩
theorem fNe_strs {ks : List Str} {R : DV → Prop} (h : R (.p (.bool false))) : fEqQ true (.p (.list (ks.map .str))) (.p (.list (ks.map .str))) R := by
  refine ⟨plain_strs ks, plain_strs ks, Nat.le_trans (Nat.min_le_right _ _) (by rw [depth_strs]; decide), ?_⟩
  rw [if_pos rfl, eqv_strs, decide_eq_true rfl]
  exact h
theorem sIx_m1 (n : Nat) : HT.sIx (n + 1) (n + 1) (some (-1)) = n := by
  show (if (-1 : Int) < 0 then ((-1 : Int) + ((n + 1 : Nat) : Int)).toNat else min (-1 : Int).toNat (n + 1)) = n
  rw [if_pos (by decide)]
  omega
theorem enum_at {d : PyData} (h : d ∈ enumD (Str.ofString "stuvwxyz")) : ∃ i : Nat, i < 8 ∧ d = .tuple [.int (i : Int), .str (sgn i)] := by
  unfold enumD at h
  obtain ⟨i, hi, e⟩ := List.mem_map.mp h
  exact ⟨i, by rw [show (Str.ofString "stuvwxyz").cps.size = 8 by decide +kernel] at hi; exact List.mem_range.mp hi, e.symm⟩
theorem shows3 : Shows (.list [.bool true, .bool false, .bool true]) := by
  have gb : ∀ b : Bool, Gd 100 5 (.bool b) := fun b => ⟨rfl, rfl, by show 0 ≤ 100; decide, by show 0 ≤ 5; decide⟩
  refine (GdA.lst (n := 303) (m := 6) (gdMany (W := 100) (m := 5) (k := 3) (fun x hx => ?_) (Nat.le_refl _)) (by decide)).shows (by decide) (by decide)
  rcases List.mem_cons.mp hx with e | hx
  · rw [e]; exact gb _
  rcases List.mem_cons.mp hx with e | hx
  · rw [e]; exact gb _
  · rw [List.mem_singleton.mp hx]; exact gb _
def T0  (δ : Dn) : Prop := ∃ y1 y2 y3 y4 y5 y6 y7 y8 : Sl, δ = [.v (.p wideC.d), y1, y2, y3, y4, y5, y6, y7, y8]
def T1  (δ : Dn) : Prop := ∃ y0 y2 y3 y4 y5 y6 y7 y8 : Sl, δ = [y0, .v (.p letterD), y2, y3, y4, y5, y6, y7, y8]
def T2  (δ : Dn) : Prop := ∃ y0 y3 y4 y5 y6 y7 y8 : Sl, δ = [y0, .v (.p letterD), .v (.p (.tuple (E8.map Cnd.d))), y3, y4, y5, y6, y7, y8]
def T5 (i : Nat) (δ : Dn) : Prop := ∃ y0 y6 y7 y8 : Sl, δ = [y0, .v (.p letterD), .v (.p (.tuple (E8.map Cnd.d))), .v (.p (.str (sgn i))), .v (.p (.int (i : Int))), .v (.p (pageD i)), y6, y7, y8]
def T6 (i : Nat) (δ : Dn) : Prop := ∃ y0 y7 y8 : Sl, δ = [y0, .v (.p letterD), .v (.p (.tuple (E8.map Cnd.d))), .v (.p (.str (sgn i))), .v (.p (.int (i : Int))), .v (.p (pageD i)), .v (.p (.tuple ((notsC i).map Cnd.d))), y7, y8]
def T8  (δ : Dn) : Prop := ∃ y0 y1 y2 y3 y4 y5 y6 y7 : Sl, δ = [y0, y1, y2, y3, y4, y5, y6, y7, .v (.p (.list [.bool true, .bool false, .bool true]))]
end MR

namespace MR
open PySem PySem.Spec PyProof.Rows L2
section
variable {P : Program} {w : World} {K : PySem.W.Frag} {mg : Str → Option Value} {base : Heap}
theorem ok_subject_passes (T : Tx K mg) {k : Nat} (hk : 1 ≤ k) : FnG P w K mg base CX0 k T.a_subject_passes T.d_subject_passes ["word", "text", "subject"] (spD ⟨K, P, w⟩ gPas) :=
  (okB T.F_subject_passes sc_subject_passes (fun ds R h => by obtain ⟨_, _, _, rfl, _⟩ := h; rfl) fun cdv A gd outer s H E hr => ⟨_, (dss_cons (ds_if (dt_cmp (od_eqW hr.units) (dv 0) de_str) (dss_one (ds_ret (de_cmp od_inS (dv 1) (dv 2)))) dss_nil)
    (dss_cons (ds_if (dt_cmp (od_eqW hr.units) (dv 0) de_str) (dss_one (ds_ret (de_startswith (dv 2) (dv 1)))) dss_nil)
    (dss_cons (ds_if (dt_cmp (od_eqW hr.units) (dv 0) de_str) (dss_one (ds_ret (de_endswith (dv 2) (dv 1)))) dss_nil)
    (dss_one (ds_ret (de_cmp (od_eqQ hr.units) (dv 2) (dv 1))))))), fun ds R h => by
      obtain ⟨w, t, u, rfl, ht, hu, h⟩ := h
      simp only [dSeq, dNext, dBreak, dCont, dDrop, dRet, dRetN, dIfS, dSet, dB, dNotT, dAndT, dOrT, dNot, dAnd, dOr, dIf, dChain, dVar, dC, dOp, dUn, dNil, dCons, dCall, dTup, dLst, pyAll, dSl, dNo, dPart, dAsg, dPar, dDig, dMix, dPutD, dPutM, dM1, dFor, dItL, dItU, dItS, dItR1, dItR2, dItSc, dItZip, dLc, dYes, gdName, wipeD, asP, asB, asI, asS, asL, asU, sliceD, fCmp, fAdd, startD, fI, true_and, and_true, List.getD_cons_zero, List.getD_cons_succ, List.set_cons_zero, List.set_cons_succ, List.map_cons, List.map_nil, List.length_cons, List.length_nil, Nat.zero_add, Nat.reduceAdd, Nat.reduceSub, List.replicate, List.cons_append, List.nil_append, if_true, if_false, reduceIte, Bool.false_eq_true, Bool.not_true, Bool.not_false]
      unfold pasB at h
      refine ite2 (fun q => ?_) fun q => ?_
      · rw [if_pos q] at h; exact h
      rw [if_neg q] at h
      refine ite2 (fun q => ?_) fun q => ?_
      · rw [if_pos q] at h; exact h
      rw [if_neg q] at h
      refine ite2 (fun q => ?_) fun q => ?_
      · rw [if_pos q] at h; exact h
      rw [if_neg q] at h
      refine ⟨rfl, rfl, Nat.zero_le _, ?_⟩
      show R (.p (.bool (PyData.eqv (.str u) (.str t))))
      rw [eqv_ss]
      exact h⟩).mono hk
theorem ok_single_holds (T : Tx K mg) {k : Nat} (hk : 2 ≤ k) : FnG P w K mg base CX0 k T.a_single_holds T.d_single_holds ["word", "part", "message"] (spD ⟨K, P, w⟩ gSgl) :=
  (okB T.F_single_holds sc_single_holds (fun ds R h => by obtain ⟨_, _, _, _, _, rfl, _⟩ := h; rfl) fun cdv A gd outer s H E hr => ⟨_, (dss_cons (ds_asg (vs := [3, 4, 5, 6]) (dv 2) (dg_tup (n := 4) rfl (dgs_cons (dg_name (i := 3) (by decide) sc_single_holds.nd rfl (by first | exact Or.inl rfl | exact Or.inr rfl)) (dgs_cons (dg_name (i := 4) (by decide) sc_single_holds.nd rfl (by first | exact Or.inl rfl | exact Or.inr rfl)) (dgs_cons (dg_name (i := 5) (by decide) sc_single_holds.nd rfl (by first | exact Or.inl rfl | exact Or.inr rfl)) (dgs_cons (dg_name (i := 6) (by decide) sc_single_holds.nd rfl (by first | exact Or.inl rfl | exact Or.inr rfl)) dgs_nil))))))
    (dss_cons (ds_if (dt_cmp (od_eqW hr.units) (dv 0) de_str) (dss_one (ds_ret (de_cmp (od_inW (u66 hr)) (dv 3) (dv 1)))) dss_nil)
    (dss_cons (ds_if (dt_cmp (od_eqW hr.units) (dv 0) de_str) (dss_one (ds_ret (de_cmp (od_inW (u66 hr)) (dv 1) (dv 6)))) dss_nil)
    (dss_one (ds_ret (de_call (ok_subject_passes T (k := 1) (by decide)) gd hr (by rfl) T.m_subject_passes T.F_subject_passes.kp T.b_subject_passes pass0 (da_cons (dv 0) (da_cons (dv 1) (da_cons (dv 5) da_nil))))))))), fun ds R h => by
      obtain ⟨l, s, a, u, ms, rfl, ok, hu, h⟩ := h
      refine ⟨rfl, _, _, rfl, _, _, rfl, _, _, rfl, _, _, rfl, rfl, ?_⟩
      simp only [dSeq, dNext, dBreak, dCont, dDrop, dRet, dRetN, dIfS, dSet, dB, dNotT, dAndT, dOrT, dNot, dAnd, dOr, dIf, dChain, dVar, dC, dOp, dUn, dNil, dCons, dCall, dTup, dLst, pyAll, dSl, dNo, dPart, dAsg, dPar, dDig, dMix, dPutD, dPutM, dM1, dFor, dItL, dItU, dItS, dItR1, dItR2, dItSc, dItZip, dLc, dYes, gdName, wipeD, asP, asB, asI, asS, asL, asU, sliceD, fCmp, fAdd, startD, fI, true_and, and_true, List.getD_cons_zero, List.getD_cons_succ, List.set_cons_zero, List.set_cons_succ, List.map_cons, List.map_nil, List.length_cons, List.length_nil, Nat.zero_add, Nat.reduceAdd, Nat.reduceSub, List.replicate, List.cons_append, List.nil_append, if_true, if_false, reduceIte, Bool.false_eq_true, Bool.not_true, Bool.not_false]
      cases l with
      | frm ns => exact ⟨ns, rfl, h⟩
      | mrk m => exact ⟨ms, rfl, h⟩
      | txt w t =>
        obtain ⟨o0, o3⟩ := ok
        obtain ⟨o1, o2, _⟩ := txt_w o0
        refine ite2 (fun q => ?_) fun q => ?_
        · rw [show eqW (.str w) "from" = true from q] at o1; cases o1
        refine ite2 (fun q => ?_) fun q => ?_
        · rw [show eqW (.str w) "marked" = true from q] at o2; cases o2
        exact ⟨w, t, u, rfl, o3, hu, h⟩⟩).mono hk
theorem ok_holds (T : Tx K mg) (n : Nat) {k : Nat} (hk : n + 4 ≤ k) : FnG P w K mg base CX0 k T.a_holds T.d_holds ["condition", "message"] (spD ⟨K, P, w⟩ (gHold n)) := by
  induction n generalizing k with
  | zero => exact ⟨fun vs H Q E ⟨ds, R, P, dm, r, ⟨c, _, _, _, _, _, z, _⟩, k⟩ => z.elim, fun A gd o s H a us vs Q E r e b v ⟨ds, R, P, dm, r', ⟨c, _, _, _, _, _, z, _⟩, k⟩ => z.elim⟩
  | succ n ih =>
    have F0 := ih (k := n + 4) (Nat.le_refl _)
    exact (okB (k := n + 4) T.F_holds sc_holds (fun ds R h => by obtain ⟨_, _, _, _, _, rfl, _⟩ := h; rfl) fun cdv A gd outer s H E hr => ⟨_, (dss_cons (ds_asg (vs := [2, 3]) (dv 0) (dg_tup (n := 2) rfl (dgs_cons (dg_name (i := 2) (by decide) sc_holds.nd rfl (by first | exact Or.inl rfl | exact Or.inr rfl)) (dgs_cons (dg_name (i := 3) (by decide) sc_holds.nd rfl (by first | exact Or.inl rfl | exact Or.inr rfl)) dgs_nil))))
    (dss_cons (ds_if (dt_cmp (od_eqW hr.units) (dv 2) de_str) (dss_one (ds_ret (de_not (de_call F0 gd hr (by rfl) T.m_holds T.F_holds.kp T.b_holds pass0 (da_cons (dv 3) (da_cons (dv 1) da_nil)))))) dss_nil)
    (dss_cons (ds_if (dt_cmp (od_inW (u66 hr)) (dv 2) (de_globT (by rfl) T.c_GROUP_WORDS T.q_GROUP_WORDS)) (dss_cons (ds_for (vs := [4]) PassesOwn.never rfl (di_tup (dv 3)) (dg_name (i := 4) (by decide) sc_holds.nd rfl (by first | exact Or.inl rfl | exact Or.inr rfl)) (dss_one (ds_if (dt_cmp (od_neQ hr.units) (de_call F0 gd hr (by rfl) T.m_holds T.F_holds.kp T.b_holds pass0 (da_cons (dv 4) (da_cons (dv 1) da_nil))) (de_cmp (od_eqW hr.units) (dv 2) de_str)) (dss_one (ds_ret (de_cmp (od_eqW hr.units) (dv 2) de_str))) dss_nil)))
    (dss_one (ds_ret (de_cmp (od_eqW hr.units) (dv 2) de_str)))) dss_nil)
    (dss_one (ds_ret (de_call (ok_single_holds T (k := n + 4) (by omega)) gd hr (by rfl) T.m_single_holds T.F_single_holds.kp T.b_single_holds pass0 (da_cons (dv 2) (da_cons (dv 3) (da_cons (dv 1) da_nil))))))))), fun ds R h => by
      obtain ⟨c, s, a, u, ms, rfl, ok, hu, h⟩ := h
      cases c with
      | lf l =>
        have ok : l.ok := ok
        obtain ⟨n1, n2⟩ := lf_w ok
        simp only [Cnd.hold] at h
        simp only [Cnd.d]
        refine ⟨rfl, _, _, rfl, _, _, rfl, rfl, ?_⟩
        simp only [dSeq, dNext, dBreak, dCont, dDrop, dRet, dRetN, dIfS, dSet, dB, dNotT, dAndT, dOrT, dNot, dAnd, dOr, dIf, dChain, dVar, dC, dOp, dUn, dNil, dCons, dCall, dTup, dLst, pyAll, dSl, dNo, dPart, dAsg, dPar, dDig, dMix, dPutD, dPutM, dM1, dFor, dItL, dItU, dItS, dItR1, dItR2, dItSc, dItZip, dLc, dYes, gdName, wipeD, asP, asB, asI, asS, asL, asU, sliceD, fCmp, fAdd, startD, fI, true_and, and_true, List.getD_cons_zero, List.getD_cons_succ, List.set_cons_zero, List.set_cons_succ, List.map_cons, List.map_nil, List.length_cons, List.length_nil, Nat.zero_add, Nat.reduceAdd, Nat.reduceSub, List.replicate, List.cons_append, List.nil_append, if_true, if_false, reduceIte, Bool.false_eq_true, Bool.not_true, Bool.not_false]
        refine ite2 (fun q => ?_) fun q => ?_
        · rw [show eqW (.str l.w) "not" = true from q] at n1; cases n1
        refine ⟨["all", "any"], rfl, ?_⟩
        refine ite2 (fun q => ?_) fun q => ?_
        · rw [show inW (.str l.w) ["all", "any"] = true from q] at n2; cases n2
        exact ⟨l, s, a, u, ms, rfl, ok, hu, h⟩
      | nt c =>
        have ok : c.okn n := ok
        simp only [Cnd.hold] at h
        simp only [Cnd.d]
        refine ⟨rfl, _, _, rfl, _, _, rfl, rfl, ?_⟩
        simp only [dSeq, dNext, dBreak, dCont, dDrop, dRet, dRetN, dIfS, dSet, dB, dNotT, dAndT, dOrT, dNot, dAnd, dOr, dIf, dChain, dVar, dC, dOp, dUn, dNil, dCons, dCall, dTup, dLst, pyAll, dSl, dNo, dPart, dAsg, dPar, dDig, dMix, dPutD, dPutM, dM1, dFor, dItL, dItU, dItS, dItR1, dItR2, dItSc, dItZip, dLc, dYes, gdName, wipeD, asP, asB, asI, asS, asL, asU, sliceD, fCmp, fAdd, startD, fI, true_and, and_true, List.getD_cons_zero, List.getD_cons_succ, List.set_cons_zero, List.set_cons_succ, List.map_cons, List.map_nil, List.length_cons, List.length_nil, Nat.zero_add, Nat.reduceAdd, Nat.reduceSub, List.replicate, List.cons_append, List.nil_append, if_true, if_false, reduceIte, Bool.false_eq_true, Bool.not_true, Bool.not_false]
        have w0 : eqW (.str (Str.ofString "not")) (Str.ofString "not") = true := by decide +kernel
        have key : ∀ (K1 : DV → Prop), K1 (.p (.bool true)) → fEqW (.p (.str (Str.ofString "not"))) (.p (.str (Str.ofString "not"))) K1 := fun K1 z => by
          show K1 (.p (.bool (eqW (.str (Str.ofString "not")) (Str.ofString "not"))))
          rw [w0]
          exact z
        refine key _ ?_
        exact ⟨c, s, a, u, ms, rfl, ok, hu, h⟩
      | gr b cs =>
        have ok2 : ∀ c ∈ cs, c.okn n := (show cs.length ≤ 100 ∧ ∀ c ∈ cs, c.okn n from ok).2
        clear ok
        obtain ⟨w1, w2, w3, w4⟩ := grW_f b
        simp only [Cnd.hold] at h
        simp only [Cnd.d]
        refine ⟨rfl, _, _, rfl, _, _, rfl, rfl, ?_⟩
        simp only [dSeq, dNext, dBreak, dCont, dDrop, dRet, dRetN, dIfS, dSet, dB, dNotT, dAndT, dOrT, dNot, dAnd, dOr, dIf, dChain, dVar, dC, dOp, dUn, dNil, dCons, dCall, dTup, dLst, pyAll, dSl, dNo, dPart, dAsg, dPar, dDig, dMix, dPutD, dPutM, dM1, dFor, dItL, dItU, dItS, dItR1, dItR2, dItSc, dItZip, dLc, dYes, gdName, wipeD, asP, asB, asI, asS, asL, asU, sliceD, fCmp, fAdd, startD, fI, true_and, and_true, List.getD_cons_zero, List.getD_cons_succ, List.set_cons_zero, List.set_cons_succ, List.map_cons, List.map_nil, List.length_cons, List.length_nil, Nat.zero_add, Nat.reduceAdd, Nat.reduceSub, List.replicate, List.cons_append, List.nil_append, if_true, if_false, reduceIte, Bool.false_eq_true, Bool.not_true, Bool.not_false]
        refine ite2 (fun q => ?_) fun q => ?_
        · rw [show eqW (.str (grW b)) "not" = true from q] at w1; cases w1
        refine ⟨["all", "any"], rfl, ?_⟩
        rw [show inW (PyData.str (grW b)) [Str.ofString "all", Str.ofString "any"] = true from w2]
        show forL _ _ _ (Cnd.ds cs) _
        generalize Sl.v (DV.p (PyData.tuple [PyData.str (grW b), PyData.tuple (Cnd.ds cs)])) = s0
        generalize Sl.v (DV.p (PyData.tuple (Cnd.ds cs))) = s3
        generalize Sl.un = s4
        clear q w1 w2
        induction cs generalizing s4 with
        | nil =>
          simp only [Cnd.holdG] at h
          show R (.p (.bool (eqW (.str (grW b)) "all")))
          rw [w3]
          exact h
        | cons c cs ihc =>
          simp only [Cnd.holdG] at h
          have e : PyData.eqv (.bool (c.hold s u ms)) (.bool (eqW (.str (grW b)) (Str.ofString "all"))) = decide (c.hold s u ms = b) := by
            rw [show eqW (.str (grW b)) (Str.ofString "all") = b from w3]
            cases c.hold s u ms <;> cases b <;> rfl
          refine ⟨c, s, a, u, ms, rfl, ok2 c List.mem_cons_self, hu, ?_⟩
          refine ⟨rfl, rfl, Nat.zero_le _, ?_⟩
          rw [if_pos rfl, e]
          by_cases q : c.hold s u ms = b
          · rw [if_pos q] at h
            rw [decide_eq_true q]
            exact ihc h (fun c m => ok2 c (List.mem_cons_of_mem _ m)) _
          · rw [if_neg q] at h
            rw [decide_eq_false q]
            show R (.p (.bool (eqW (.str (grW b)) "any")))
            rw [w4]
            exact h⟩).mono (by omega)
theorem ok_singles_of (T : Tx K mg) (n : Nat) {k : Nat} (hk : n + 1 ≤ k) : FnG P w K mg base CX0 k T.a_singles_of T.d_singles_of ["condition"] (spD ⟨K, P, w⟩ (gSng n)) := by
  induction n generalizing k with
  | zero => exact ⟨fun vs H Q E ⟨ds, R, P, dm, r, ⟨c, _, z, _⟩, k⟩ => z.elim, fun A gd o s H a us vs Q E r e b v ⟨ds, R, P, dm, r', ⟨c, _, z, _⟩, k⟩ => z.elim⟩
  | succ n ih =>
    have F0 := ih (k := n + 1) (Nat.le_refl _)
    exact (okB (k := n + 1) T.F_singles_of sc_singles_of (fun ds R h => by obtain ⟨_, rfl, _⟩ := h; rfl) fun cdv A gd outer s H E hr => ⟨_, (dss_cons (ds_asg (vs := [1, 2]) (dv 0) (dg_tup (n := 2) rfl (dgs_cons (dg_name (i := 1) (by decide) sc_singles_of.nd rfl (by first | exact Or.inl rfl | exact Or.inr rfl)) (dgs_cons (dg_name (i := 2) (by decide) sc_singles_of.nd rfl (by first | exact Or.inl rfl | exact Or.inr rfl)) dgs_nil))))
    (dss_cons (ds_if (dt_cmp (od_eqW hr.units) (dv 1) de_str) (dss_one (ds_ret (de_call F0 gd hr (by rfl) T.m_singles_of T.F_singles_of.kp T.b_singles_of pass0 (da_cons (dv 2) da_nil)))) dss_nil)
    (dss_cons (ds_if (dt_cmp (od_inW (u66 hr)) (dv 1) (de_globT (by rfl) T.c_GROUP_WORDS T.q_GROUP_WORDS)) (dss_one (ds_ret (de_lc2 (own := [("inner", 3), ("single", 4)]) (vs1 := [4]) rfl sc_singles_of.nd (di_tup (dv 2)) (blkOk_by (N := ["condition", "word", "part", "inner", "single"]) (own := [("inner", 3), ("single", 4)]) (sc := defScope s_singles_of) (by decide +kernel)) (by decide) (fun _ _ _ _ _ => (dg_name (i := 3) (by decide) sc_singles_of.nd rfl (by first | exact Or.inl rfl | exact Or.inr rfl))) (fun _ _ _ _ _ => dts_nil) (fun _ _ _ _ _ => (di_list (de_call F0 gd hr (by rfl) T.m_singles_of T.F_singles_of.kp T.b_singles_of pass0 (da_cons (dv 3) da_nil)))) (fun _ _ _ _ _ => (dg_name (i := 4) (by decide) sc_singles_of.nd rfl (by first | exact Or.inl rfl | exact Or.inr rfl))) (fun _ _ _ _ _ => dts_nil) (fun _ _ _ _ _ => (dv 4))))) dss_nil)
    (dss_one (ds_ret (de_lst (da_cons (de_tup (da_cons (dv 1) (da_cons (dv 2) da_nil))) da_nil))))))), fun ds R h => by
      obtain ⟨c, rfl, ok, hl, h⟩ := h
      cases c with
      | lf l =>
        have ok : l.ok := ok
        obtain ⟨n1, n2⟩ := lf_w ok
        simp only [Cnd.lvs] at h
        simp only [Cnd.d]
        refine ⟨rfl, _, _, rfl, _, _, rfl, rfl, ?_⟩
        simp only [dSeq, dNext, dBreak, dCont, dDrop, dRet, dRetN, dIfS, dSet, dB, dNotT, dAndT, dOrT, dNot, dAnd, dOr, dIf, dChain, dVar, dC, dOp, dUn, dNil, dCons, dCall, dTup, dLst, pyAll, dSl, dNo, dPart, dAsg, dPar, dDig, dMix, dPutD, dPutM, dM1, dFor, dItL, dItU, dItS, dItR1, dItR2, dItSc, dItZip, dLc, dYes, gdName, wipeD, asP, asB, asI, asS, asL, asU, sliceD, fCmp, fAdd, startD, fI, true_and, and_true, List.getD_cons_zero, List.getD_cons_succ, List.set_cons_zero, List.set_cons_succ, List.map_cons, List.map_nil, List.length_cons, List.length_nil, Nat.zero_add, Nat.reduceAdd, Nat.reduceSub, List.replicate, List.cons_append, List.nil_append, if_true, if_false, reduceIte, Bool.false_eq_true, Bool.not_true, Bool.not_false]
        refine ite2 (fun q => ?_) fun q => ?_
        · rw [show eqW (.str l.w) "not" = true from q] at n1; cases n1
        refine ⟨["all", "any"], rfl, ?_⟩
        refine ite2 (fun q => ?_) fun q => ?_
        · rw [show inW (.str l.w) ["all", "any"] = true from q] at n2; cases n2
        exact ⟨(show 2 ≤ sizeLine by decide), (show 1 ≤ sizeLine by decide), h⟩
      | nt c =>
        have ok : c.okn n := ok
        simp only [Cnd.lvs] at h hl
        simp only [Cnd.d]
        refine ⟨rfl, _, _, rfl, _, _, rfl, rfl, ?_⟩
        simp only [dSeq, dNext, dBreak, dCont, dDrop, dRet, dRetN, dIfS, dSet, dB, dNotT, dAndT, dOrT, dNot, dAnd, dOr, dIf, dChain, dVar, dC, dOp, dUn, dNil, dCons, dCall, dTup, dLst, pyAll, dSl, dNo, dPart, dAsg, dPar, dDig, dMix, dPutD, dPutM, dM1, dFor, dItL, dItU, dItS, dItR1, dItR2, dItSc, dItZip, dLc, dYes, gdName, wipeD, asP, asB, asI, asS, asL, asU, sliceD, fCmp, fAdd, startD, fI, true_and, and_true, List.getD_cons_zero, List.getD_cons_succ, List.set_cons_zero, List.set_cons_succ, List.map_cons, List.map_nil, List.length_cons, List.length_nil, Nat.zero_add, Nat.reduceAdd, Nat.reduceSub, List.replicate, List.cons_append, List.nil_append, if_true, if_false, reduceIte, Bool.false_eq_true, Bool.not_true, Bool.not_false]
        have w0 : eqW (.str (Str.ofString "not")) (Str.ofString "not") = true := by decide +kernel
        have key : ∀ (K1 : DV → Prop), K1 (.p (.bool true)) → fEqW (.p (.str (Str.ofString "not"))) (.p (.str (Str.ofString "not"))) K1 := fun K1 z => by
          show K1 (.p (.bool (eqW (.str (Str.ofString "not")) (Str.ofString "not"))))
          rw [w0]
          exact z
        refine key _ ?_
        exact ⟨c, rfl, ok, hl, h⟩
      | gr b cs =>
        have ok2 : ∀ c ∈ cs, c.okn n := (show cs.length ≤ 100 ∧ ∀ c ∈ cs, c.okn n from ok).2
        clear ok
        obtain ⟨w1, w2, w3, w4⟩ := grW_f b
        simp only [Cnd.lvs] at h hl
        simp only [Cnd.d]
        refine ⟨rfl, _, _, rfl, _, _, rfl, rfl, ?_⟩
        simp only [dSeq, dNext, dBreak, dCont, dDrop, dRet, dRetN, dIfS, dSet, dB, dNotT, dAndT, dOrT, dNot, dAnd, dOr, dIf, dChain, dVar, dC, dOp, dUn, dNil, dCons, dCall, dTup, dLst, pyAll, dSl, dNo, dPart, dAsg, dPar, dDig, dMix, dPutD, dPutM, dM1, dFor, dItL, dItU, dItS, dItR1, dItR2, dItSc, dItZip, dLc, dYes, gdName, wipeD, asP, asB, asI, asS, asL, asU, sliceD, fCmp, fAdd, startD, fI, true_and, and_true, List.getD_cons_zero, List.getD_cons_succ, List.set_cons_zero, List.set_cons_succ, List.map_cons, List.map_nil, List.length_cons, List.length_nil, Nat.zero_add, Nat.reduceAdd, Nat.reduceSub, List.replicate, List.cons_append, List.nil_append, if_true, if_false, reduceIte, Bool.false_eq_true, Bool.not_true, Bool.not_false]
        refine ite2 (fun q => ?_) fun q => ?_
        · rw [show eqW (.str (grW b)) "not" = true from q] at w1; cases w1
        refine ⟨["all", "any"], rfl, ?_⟩
        rw [show inW (PyData.str (grW b)) [Str.ofString "all", Str.ofString "any"] = true from w2]
        have key : ∀ (d0 d1 d2 : DV) (cs : List Cnd) (pre : List Lf), (∀ c ∈ cs, c.okn n) → (pre ++ Cnd.lvsA cs).length ≤ 60 → R (.p (.list ((pre ++ Cnd.lvsA cs).map encL))) →
            lc2L (gdName 3) dYes (dItL (dCall (gSng n) (dCons (dVar 3) dNil))) (gdName 4) dYes (dVar 4) [.v d0, .v d1, .v d2, .un, .un] [4] (fun acc => R (.p (.list acc))) (Cnd.ds cs) (pre.map encL) := fun d0 d1 d2 cs => by
          induction cs with
          | nil =>
            intro pre _ _ h
            simp only [Cnd.lvsA, List.append_nil] at h
            exact h
          | cons c cs ihc =>
            intro pre okc hl h
            simp only [Cnd.lvsA, List.length_append] at hl
            rw [show pre ++ Cnd.lvsA (c :: cs) = (pre ++ c.lvs) ++ Cnd.lvsA cs by simp only [Cnd.lvsA, List.append_assoc]] at h
            refine ⟨rfl, c, rfl, okc c List.mem_cons_self, by omega, ?_, lc_fm (fun d => some d) _ _ (fun d hd K1 K2 hk => hk) ?_⟩
            · rw [List.length_map, List.length_map]
              exact Nat.le_trans (show pre.length + c.lvs.length ≤ 60 by omega) (by decide)
            · rw [List.filterMap_some, ← List.map_append]
              exact ihc (pre ++ c.lvs) (fun c m => okc c (List.mem_cons_of_mem _ m)) (by rw [List.length_append, List.length_append]; omega) h
        exact key _ _ _ cs [] ok2 (by rw [List.nil_append]; exact hl) (by rw [List.nil_append]; exact h)⟩).mono (by omega)
theorem ok_tests_of (T : Tx K mg) {k : Nat} (hk : 9 ≤ k) : FnG P w K mg base CX0 k T.a_tests_of T.d_tests_of ["condition"] (spF ⟨K, P, w⟩ gTst) :=
  (okF T.F_tests_of sc_tests_of (fun ds R h => by obtain ⟨_, rfl, _⟩ := h; rfl) rfl fun cdv A gd outer s H E hr => ⟨_, (df_sortScP rfl (u64 hr) (own := [("word", 1), ("part", 2)]) sc_tests_of.nd (di_list (de_call (ok_singles_of T 4 (k := 8) (by decide)) gd hr (by rfl) T.m_singles_of T.F_singles_of.kp T.b_singles_of pass0 (da_cons (dv 0) da_nil))) (blkOk_by (N := ["condition", "word", "part"]) (own := [("word", 1), ("part", 2)]) (sc := defScope s_tests_of) (by decide +kernel)) (fun _ _ _ _ _ => (dg_tup (n := 2) rfl (dgs_cons (dg_name (i := 1) (by decide) sc_tests_of.nd rfl (by first | exact Or.inl rfl | exact Or.inr rfl)) (dgs_cons (dg_name (i := 2) (by decide) sc_tests_of.nd rfl (by first | exact Or.inl rfl | exact Or.inr rfl)) dgs_nil)))) (fun _ _ _ _ _ => (dts_one (dt_cmp (od_inW (u66 hr)) (dv 1) (de_globT (by rfl) T.c_TEST_WORDS T.q_TEST_WORDS)))) (fun _ _ _ _ _ => (de_tup (da_cons (dv 1) (da_cons (dv 2) da_nil)))) (by rfl) T.n_sorted), fun ds R h => by
      obtain ⟨c, rfl, ok, hl, h⟩ := h
      have lok := lvs_ok 4 c ok
      refine ⟨c, rfl, ok, hl, ?_⟩
      refine ⟨by rw [List.length_map]; omega, sc_fm (fun l => match l with | .txt w t => some (w, t) | _ => none) c.lvs [] (fun l ml K1 K2 hk => ?_) fun qs so mem => h qs so (by rw [List.nil_append] at mem; exact mem)⟩
      refine ⟨rfl, _, _, rfl, _, _, rfl, rfl, ?_⟩
      simp only [dSeq, dNext, dBreak, dCont, dDrop, dRet, dRetN, dIfS, dSet, dB, dNotT, dAndT, dOrT, dNot, dAnd, dOr, dIf, dChain, dVar, dC, dOp, dUn, dNil, dCons, dCall, dTup, dLst, pyAll, dSl, dNo, dPart, dAsg, dPar, dDig, dMix, dPutD, dPutM, dM1, dFor, dItL, dItU, dItS, dItR1, dItR2, dItSc, dItZip, dLc, dYes, gdName, wipeD, asP, asB, asI, asS, asL, asU, sliceD, fCmp, fAdd, startD, fI, true_and, and_true, List.getD_cons_zero, List.getD_cons_succ, List.set_cons_zero, List.set_cons_succ, List.map_cons, List.map_nil, List.length_cons, List.length_nil, Nat.zero_add, Nat.reduceAdd, Nat.reduceSub, List.replicate, List.cons_append, List.nil_append, if_true, if_false, reduceIte, Bool.false_eq_true, Bool.not_true, Bool.not_false]
      refine ⟨["contains", "begins", "ends", "is"], rfl, ?_⟩
      cases l with
      | frm ns =>
        rw [show inW (.str (Lf.frm ns).w) [Str.ofString "contains", Str.ofString "begins", Str.ofString "ends", Str.ofString "is"] = false from (show inW (.str (Str.ofString "from")) ["contains", "begins", "ends", "is"] = false by decide +kernel)]
        exact hk
      | mrk m =>
        rw [show inW (.str (Lf.mrk m).w) [Str.ofString "contains", Str.ofString "begins", Str.ofString "ends", Str.ofString "is"] = false from (show inW (.str (Str.ofString "marked")) ["contains", "begins", "ends", "is"] = false by decide +kernel)]
        exact hk
      | txt w t =>
        have o := lok _ ml
        rw [show inW (.str (Lf.txt w t).w) [Str.ofString "contains", Str.ofString "begins", Str.ofString "ends", Str.ofString "is"] = true from o.1]
        exact ⟨(show 2 ≤ sizeLine by decide), (w, t), rfl, hk⟩⟩).mono hk
theorem ok_marks_of (T : Tx K mg) {k : Nat} (hk : 9 ≤ k) : FnG P w K mg base CX0 k T.a_marks_of T.d_marks_of ["condition"] (spF ⟨K, P, w⟩ gMrk) :=
  (okF T.F_marks_of sc_marks_of (fun ds R h => by obtain ⟨_, rfl, _⟩ := h; rfl) rfl fun cdv A gd outer s H E hr => ⟨_, (df_sortK rfl hr (de_scK (own := [("word", 1), ("part", 2)]) rfl sc_marks_of.nd (di_list (de_call (ok_singles_of T 4 (k := 8) (by decide)) gd hr (by rfl) T.m_singles_of T.F_singles_of.kp T.b_singles_of pass0 (da_cons (dv 0) da_nil))) (blkOk_by (N := ["condition", "word", "part"]) (own := [("word", 1), ("part", 2)]) (sc := defScope s_marks_of) (by decide +kernel)) (fun _ _ _ _ _ => (dg_tup (n := 2) rfl (dgs_cons (dg_name (i := 1) (by decide) sc_marks_of.nd rfl (by first | exact Or.inl rfl | exact Or.inr rfl)) (dgs_cons (dg_name (i := 2) (by decide) sc_marks_of.nd rfl (by first | exact Or.inl rfl | exact Or.inr rfl)) dgs_nil)))) (fun _ _ _ _ _ => (dts_one (dt_cmp (od_eqW hr.units) (dv 1) de_str))) (fun _ _ _ _ _ => (dv 2))) (by rfl) T.n_sorted), fun ds R h => by
      obtain ⟨c, rfl, ok, hl, h⟩ := h
      have lok := lvs_ok 4 c ok
      refine ⟨c, rfl, ok, hl, ?_⟩
      refine ⟨by rw [List.length_map]; exact Nat.lt_of_le_of_lt hl (by decide), sc_fm (fun l => match l with | .mrk m => some (Sum.inr m) | _ => none) c.lvs [] (fun l ml K1 K2 hk => ?_) ?_⟩
      · refine ⟨rfl, _, _, rfl, _, _, rfl, rfl, ?_⟩
        simp only [dSeq, dNext, dBreak, dCont, dDrop, dRet, dRetN, dIfS, dSet, dB, dNotT, dAndT, dOrT, dNot, dAnd, dOr, dIf, dChain, dVar, dC, dOp, dUn, dNil, dCons, dCall, dTup, dLst, pyAll, dSl, dNo, dPart, dAsg, dPar, dDig, dMix, dPutD, dPutM, dM1, dFor, dItL, dItU, dItS, dItR1, dItR2, dItSc, dItZip, dLc, dYes, gdName, wipeD, asP, asB, asI, asS, asL, asU, sliceD, fCmp, fAdd, startD, fI, true_and, and_true, List.getD_cons_zero, List.getD_cons_succ, List.set_cons_zero, List.set_cons_succ, List.map_cons, List.map_nil, List.length_cons, List.length_nil, Nat.zero_add, Nat.reduceAdd, Nat.reduceSub, List.replicate, List.cons_append, List.nil_append, if_true, if_false, reduceIte, Bool.false_eq_true, Bool.not_true, Bool.not_false]
        cases l with
        | frm ns =>
          exact fEqW_of (x := Str.ofString "from") (b := false) (by decide +kernel) hk
        | mrk m =>
          exact fEqW_of (x := Str.ofString "marked") (b := true) (by decide +kernel) ⟨Sum.inr m, rfl, hk⟩
        | txt w t =>
          exact fEqW_of (x := w) (b := false) (txt_w (lok _ ml).1).2.1 hk
      · have e : ∀ ls : List Lf, ls.filterMap (fun l => match l with | .mrk m => some (Sum.inr m : Key) | _ => none) = (mrkL ls).map Sum.inr := fun ls => by
          induction ls with
          | nil => rfl
          | cons l ls ih => cases l <;> simp only [mrkL, List.filterMap_cons] at ih ⊢ <;> rw [ih] <;> rfl
        rw [List.nil_append, e]
        exact ⟨mrkL c.lvs, rfl, fun zs so mem _ => h zs so mem⟩⟩).mono hk
theorem ok_names_of (T : Tx K mg) {k : Nat} (hk : 9 ≤ k) : FnG P w K mg base CX0 k T.a_names_of T.d_names_of ["condition"] (spF ⟨K, P, w⟩ gNam) :=
  (okF T.F_names_of sc_names_of (fun ds R h => by obtain ⟨_, rfl, _⟩ := h; rfl) rfl fun cdv A gd outer s H E hr => ⟨_, (df_sortK rfl hr (de_scK2 (own := [("word", 1), ("part", 2), ("name", 3)]) (vs1 := [3]) rfl sc_names_of.nd (di_list (de_call (ok_singles_of T 4 (k := 8) (by decide)) gd hr (by rfl) T.m_singles_of T.F_singles_of.kp T.b_singles_of pass0 (da_cons (dv 0) da_nil))) (blkOk_by (N := ["condition", "word", "part", "name"]) (own := [("word", 1), ("part", 2), ("name", 3)]) (sc := defScope s_names_of) (by decide +kernel)) (by decide) (fun _ _ _ _ _ => (dg_tup (n := 2) rfl (dgs_cons (dg_name (i := 1) (by decide) sc_names_of.nd rfl (by first | exact Or.inl rfl | exact Or.inr rfl)) (dgs_cons (dg_name (i := 2) (by decide) sc_names_of.nd rfl (by first | exact Or.inl rfl | exact Or.inr rfl)) dgs_nil)))) (fun _ _ _ _ _ => (dts_one (dt_cmp (od_eqW hr.units) (dv 1) de_str))) (fun _ _ _ _ _ => (di_tup (dv 2))) (fun _ _ _ _ _ => (dg_name (i := 3) (by decide) sc_names_of.nd rfl (by first | exact Or.inl rfl | exact Or.inr rfl))) (fun _ _ _ _ _ => dts_nil) (fun _ _ _ _ _ => (dv 3))) (by rfl) T.n_sorted), fun ds R h => by
      obtain ⟨c, rfl, ok, hl, hn, h⟩ := h
      have lok := lvs_ok 4 c ok
      refine ⟨c, rfl, ok, hl, ?_⟩
      have key : ∀ (d0 : DV) (ls : List Lf) (pre : List Str), (∀ l ∈ ls, l.ok) → (pre ++ namL ls).length ≤ 1000 → (∀ zs : List Str, RisS zs → (∀ x, x ∈ zs ↔ x ∈ pre ++ namL ls) → R (.p (.list (zs.map .str)))) →
          sc2L keyD scanBound (gdTup 2 (gdCons (gdName 1) (gdCons (gdName 2) gdNil))) (dB (dOp fEqW (dVar 1) (dC (DV.p (PyData.str (Str.ofString "from")))))) (dItU (dVar 2)) (gdName 3) dYes (dVar 3) [.v d0, .un, .un, .un] [3] (fun ks => fSortK [DV.set ks] R) (ls.map encL) (pre.map Sum.inr) := fun d0 ls => by
        induction ls with
        | nil =>
          intro pre _ _ h
          exact ⟨pre, rfl, fun zs so mem _ => h zs so (by simp only [namL, List.flatMap_nil, List.append_nil]; exact mem)⟩
        | cons l ls ih =>
          intro pre okl hn h
          refine ⟨rfl, _, _, rfl, _, _, rfl, rfl, ?_⟩
          simp only [dSeq, dNext, dBreak, dCont, dDrop, dRet, dRetN, dIfS, dSet, dB, dNotT, dAndT, dOrT, dNot, dAnd, dOr, dIf, dChain, dVar, dC, dOp, dUn, dNil, dCons, dCall, dTup, dLst, pyAll, dSl, dNo, dPart, dAsg, dPar, dDig, dMix, dPutD, dPutM, dM1, dFor, dItL, dItU, dItS, dItR1, dItR2, dItSc, dItZip, dLc, dYes, gdName, wipeD, asP, asB, asI, asS, asL, asU, sliceD, fCmp, fAdd, startD, fI, true_and, and_true, List.getD_cons_zero, List.getD_cons_succ, List.set_cons_zero, List.set_cons_succ, List.map_cons, List.map_nil, List.length_cons, List.length_nil, Nat.zero_add, Nat.reduceAdd, Nat.reduceSub, List.replicate, List.cons_append, List.nil_append, if_true, if_false, reduceIte, Bool.false_eq_true, Bool.not_true, Bool.not_false]
          cases l with
          | frm ns =>
            rw [show pre ++ namL (Lf.frm ns :: ls) = (pre ++ ns) ++ namL ls by simp only [namL, List.flatMap_cons, List.append_assoc]] at h hn
            refine fEqW_of (x := Str.ofString "from") (b := true) (by decide +kernel) ?_
            refine ⟨rfl, ?_, sc_names ns _ ?_⟩
            · rw [List.length_map, List.length_map]
              simp only [List.length_append] at hn
              exact Nat.lt_of_le_of_lt (show pre.length + ns.length ≤ 1000 by omega) (by decide)
            · rw [← List.map_append]
              exact ih (pre ++ ns) (fun l m => okl l (List.mem_cons_of_mem _ m)) hn h
          | mrk m => exact fEqW_of (x := Str.ofString "marked") (b := false) (by decide +kernel) (ih pre (fun l m => okl l (List.mem_cons_of_mem _ m)) hn h)
          | txt w t => exact fEqW_of (x := w) (b := false) (txt_w (okl _ List.mem_cons_self).1).1 (ih pre (fun l m => okl l (List.mem_cons_of_mem _ m)) hn h)
      exact key _ c.lvs [] lok (by rw [List.nil_append]; exact hn) (by rw [List.nil_append]; exact h)⟩).mono hk
theorem ok_w_well (T : Tx K mg) {k : Nat} (hk : 1 ≤ k) : FnG P w K mg base CX0 k T.a_w_well T.d_w_well ["script", "start"] (spD ⟨K, P, w⟩ gWell) :=
  (okB T.F_w_well sc_w_well (fun ds R h => by obtain ⟨_, _, rfl, _⟩ := h; rfl) fun cdv A gd outer s H E hr => ⟨_, (dss_cons (ds_set (i := 2) sc_w_well.nd rfl (by first | exact Or.inl rfl | exact Or.inr rfl) (de_op od_add de_int (de_op od_mulB (dv 1) de_int)))
    (dss_cons (ds_for (vs := [3]) PassesOwn.never rfl (di_scr (dv 0)) (dg_name (i := 3) (by decide) sc_w_well.nd rfl (by first | exact Or.inl rfl | exact Or.inr rfl)) (dss_one (ds_set (i := 2) sc_w_well.nd rfl (by first | exact Or.inl rfl | exact Or.inr rfl) (de_op od_add (de_op od_mod (de_callTy cd_int (by rfl) T.n_int bt_int (da_cons (de_op od_pow (de_op od_add (de_op od_add (de_op od_mulB (dv 2) de_int) (de_op od_mulB (dv 3) (dv 3))) de_int) de_int) da_nil)) de_int) de_int))))
    (dss_cons (ds_set (i := 4) sc_w_well.nd rfl (by first | exact Or.inl rfl | exact Or.inr rfl) (de_if (dw_and (dt_cmp od_lt (dv 1) (de_callB cd_lenS (by rfl) T.n_len bt_len (da_cons (dv 0) da_nil))) (dw_and1 (dt_cmp od_ge (de_ixS (dv 0) (dv 1)) (de_op od_powC de_int de_int)))).pt (de_op od_sub (de_ixS (dv 0) (dv 1)) (de_op od_powC de_int de_int)) de_int))
    (dss_one (ds_ret (de_well (dv 4) (dv 2))))))), fun ds R h => by
      obtain ⟨ns, a, rfl, hn, hb, ha, h⟩ := h
      simp only [dSeq, dNext, dBreak, dCont, dDrop, dRet, dRetN, dIfS, dSet, dB, dNotT, dAndT, dOrT, dNot, dAnd, dOr, dIf, dChain, dVar, dC, dOp, dUn, dNil, dCons, dCall, dTup, dLst, pyAll, dSl, dNo, dPart, dAsg, dPar, dDig, dMix, dPutD, dPutM, dM1, dFor, dItL, dItU, dItS, dItR1, dItR2, dItSc, dItZip, dLc, dYes, gdName, wipeD, asP, asB, asI, asS, asL, asU, sliceD, fCmp, fAdd, startD, fI, true_and, and_true, List.getD_cons_zero, List.getD_cons_succ, List.set_cons_zero, List.set_cons_succ, List.map_cons, List.map_nil, List.length_cons, List.length_nil, Nat.zero_add, Nat.reduceAdd, Nat.reduceSub, List.replicate, List.cons_append, List.nil_append, if_true, if_false, reduceIte, Bool.false_eq_true, Bool.not_true, Bool.not_false]
      refine ⟨⟨bd32 (by omega), bd32 (by decide)⟩, ns, rfl, for_inv (fun δ => ∃ (j : Int) (y : Sl), WJ j ∧ δ = [.v (.scr ns), .v (.p (.int a)), .v (.p (.int j)), y, .un]) _ _ ⟨_, _, ⟨by omega, by omega⟩, rfl⟩ (fun d hd δ' ⟨j, y, wj, e⟩ E' _ hnx _ _ => ?_) fun δ' ⟨j, y, wj, e⟩ => ?_⟩
      · subst e
        obtain ⟨n, hn', rfl⟩ := List.mem_map.mp hd
        have bn := hb n hn'
        simp only [dSeq, dNext, dBreak, dCont, dDrop, dRet, dRetN, dIfS, dSet, dB, dNotT, dAndT, dOrT, dNot, dAnd, dOr, dIf, dChain, dVar, dC, dOp, dUn, dNil, dCons, dCall, dTup, dLst, pyAll, dSl, dNo, dPart, dAsg, dPar, dDig, dMix, dPutD, dPutM, dM1, dFor, dItL, dItU, dItS, dItR1, dItR2, dItSc, dItZip, dLc, dYes, gdName, wipeD, asP, asB, asI, asS, asL, asU, sliceD, fCmp, fAdd, startD, fI, true_and, and_true, List.getD_cons_zero, List.getD_cons_succ, List.set_cons_zero, List.set_cons_succ, List.map_cons, List.map_nil, List.length_cons, List.length_nil, Nat.zero_add, Nat.reduceAdd, Nat.reduceSub, List.replicate, List.cons_append, List.nil_append, if_true, if_false, reduceIte, Bool.false_eq_true, Bool.not_true, Bool.not_false]
        have b1 : Bd 30000000 n := bn.mono (by decide)
        have b2 : Bd 100 (j * 70141) := bd64 (by have := wj.1; have := wj.2; omega)
        have b3 : Bd 2097152 (n * n) := (bn.mul bn).mono (by decide)
        have b4 : Bd 2097153 (j * 70141 + n * n) := (b2.mono (by decide)).add b3
        have b5 : Bd 2097154 (j * 70141 + n * n + 43) := b4.add (bd32 (by decide))
        refine ⟨⟨bd32 (by have := wj.1; have := wj.2; omega), bd32 (by decide)⟩, ⟨b1, b1⟩, ⟨.inl rfl, b5.mono (by decide)⟩, _, rfl, by decide, hnx _ ⟨_, _, ⟨?_, ?_⟩, rfl⟩⟩
        · omega
        · omega
      · subst e
        simp only [dSeq, dNext, dBreak, dCont, dDrop, dRet, dRetN, dIfS, dSet, dB, dNotT, dAndT, dOrT, dNot, dAnd, dOr, dIf, dChain, dVar, dC, dOp, dUn, dNil, dCons, dCall, dTup, dLst, pyAll, dSl, dNo, dPart, dAsg, dPar, dDig, dMix, dPutD, dPutM, dM1, dFor, dItL, dItU, dItS, dItR1, dItR2, dItSc, dItZip, dLc, dYes, gdName, wipeD, asP, asB, asI, asS, asL, asU, sliceD, fCmp, fAdd, startD, fI, true_and, and_true, List.getD_cons_zero, List.getD_cons_succ, List.set_cons_zero, List.set_cons_succ, List.map_cons, List.map_nil, List.length_cons, List.length_nil, Nat.zero_add, Nat.reduceAdd, Nat.reduceSub, List.replicate, List.cons_append, List.nil_append, if_true, if_false, reduceIte, Bool.false_eq_true, Bool.not_true, Bool.not_false]
        refine ⟨ns, rfl, ?_⟩
        simp only [dSeq, dNext, dBreak, dCont, dDrop, dRet, dRetN, dIfS, dSet, dB, dNotT, dAndT, dOrT, dNot, dAnd, dOr, dIf, dChain, dVar, dC, dOp, dUn, dNil, dCons, dCall, dTup, dLst, pyAll, dSl, dNo, dPart, dAsg, dPar, dDig, dMix, dPutD, dPutM, dM1, dFor, dItL, dItU, dItS, dItR1, dItR2, dItSc, dItZip, dLc, dYes, gdName, wipeD, asP, asB, asI, asS, asL, asU, sliceD, fCmp, fAdd, startD, fI, true_and, and_true, List.getD_cons_zero, List.getD_cons_succ, List.set_cons_zero, List.set_cons_succ, List.map_cons, List.map_nil, List.length_cons, List.length_nil, Nat.zero_add, Nat.reduceAdd, Nat.reduceSub, List.replicate, List.cons_append, List.nil_append, if_true, if_false, reduceIte, Bool.false_eq_true, Bool.not_true, Bool.not_false]
        cases q : decide ((a : Int) < (ns.length : Int)) with
        | false =>
          exact ⟨⟨Int.le_refl 0, bd32 (by decide)⟩, wj, h⟩
        | true =>
          have q' : a < ns.length := by
            have := of_decide_eq_true q
            omega
          have hx : atI ns (a : Int) = some ns[a] := atI_nat (List.getElem?_eq_getElem q')
          refine ⟨ns, _, ns[a], rfl, rfl, hx, ⟨by decide, by decide, by decide⟩, ?_⟩
          simp only [dSeq, dNext, dBreak, dCont, dDrop, dRet, dRetN, dIfS, dSet, dB, dNotT, dAndT, dOrT, dNot, dAnd, dOr, dIf, dChain, dVar, dC, dOp, dUn, dNil, dCons, dCall, dTup, dLst, pyAll, dSl, dNo, dPart, dAsg, dPar, dDig, dMix, dPutD, dPutM, dM1, dFor, dItL, dItU, dItS, dItR1, dItR2, dItSc, dItZip, dLc, dYes, gdName, wipeD, asP, asB, asI, asS, asL, asU, sliceD, fCmp, fAdd, startD, fI, true_and, and_true, List.getD_cons_zero, List.getD_cons_succ, List.set_cons_zero, List.set_cons_succ, List.map_cons, List.map_nil, List.length_cons, List.length_nil, Nat.zero_add, Nat.reduceAdd, Nat.reduceSub, List.replicate, List.cons_append, List.nil_append, if_true, if_false, reduceIte, Bool.false_eq_true, Bool.not_true, Bool.not_false]
          cases q2 : decide ((10 : Int) ^ (Int.toNat 18) ≤ ns[a]) with
          | false =>
            exact ⟨⟨Int.le_refl 0, bd32 (by decide)⟩, wj, h⟩
          | true =>
            have z := of_decide_eq_true q2
            have z1 : (10 : Int) ^ (Int.toNat 18) = 1000000000000000000 := by decide
            rw [z1] at z
            refine ⟨ns, _, ns[a], rfl, rfl, hx, ⟨by decide, by decide, by decide⟩, ⟨?_, ?_⟩, wj, h⟩
            · rw [z1]
              omega
            · rw [z1]
              exact ((hb _ (List.getElem_mem q')).mono (by decide)).less (by omega)⟩).mono hk
theorem ok_w_draw (T : Tx K mg) {k : Nat} (hk : 1 ≤ k) : FnG P w K mg base CX0 k T.a_w_draw T.d_w_draw ["well", "many"] (spD ⟨K, P, w⟩ gDraw) :=
  (okB T.F_w_draw sc_w_draw (fun ds R h => by obtain ⟨_, rfl, _⟩ := h; rfl) fun cdv A gd outer s H E hr => ⟨_, (dss_cons (ds_if (dt_cmp od_ge (de_dig (u1 hr) (dv 0)) (dv 1)) (dss_cons (ds_set (i := 2) sc_w_draw.nd rfl (by first | exact Or.inl rfl | exact Or.inr rfl) (de_op od_mod (de_callTy cd_int (by rfl) T.n_int bt_int (da_cons (de_dig (u1 hr) (dv 0)) da_nil)) (dv 1)))
    (dss_cons (ds_putD (u1 hr) (dv 0) (de_op od_fdiv (de_dig (u1 hr) (dv 0)) (dv 1)))
    (dss_one (ds_ret (dv 2))))) dss_nil)
    (dss_cons (ds_putM (u1 hr) (dv 0) (de_op od_mod (de_callTy cd_int (by rfl) T.n_int bt_int (da_cons (de_op od_add (de_op od_mulB (de_mix (u1 hr) (dv 0)) de_int) de_int) da_nil)) de_int))
    (dss_one (ds_ret (de_op od_mod (de_op od_fdiv (de_op od_mod (de_callTy cd_int (by rfl) T.n_int bt_int (da_cons (de_op od_pow (de_op od_mod (de_callTy cd_int (by rfl) T.n_int bt_int (da_cons (de_op od_pow (de_mix (u1 hr) (dv 0)) de_int) da_nil)) de_int) de_int) da_nil)) de_int) de_int) (dv 1)))))), fun ds R h => by
      obtain ⟨m, rfl, m0, m1, h⟩ := h
      have hR : ∀ x : Int, R (.p (.int (x % m))) := fun x => by
        have e1 := Int.emod_nonneg x (show m ≠ 0 by omega)
        have e2 := Int.emod_lt_of_pos x m0
        have e3 := h (x % m).toNat (by omega)
        rw [show (((x % m).toNat : Nat) : Int) = x % m by omega] at e3
        exact e3
      simp only [dSeq, dNext, dBreak, dCont, dDrop, dRet, dRetN, dIfS, dSet, dB, dNotT, dAndT, dOrT, dNot, dAnd, dOr, dIf, dChain, dVar, dC, dOp, dUn, dNil, dCons, dCall, dTup, dLst, pyAll, dSl, dNo, dPart, dAsg, dPar, dDig, dMix, dPutD, dPutM, dM1, dFor, dItL, dItU, dItS, dItR1, dItR2, dItSc, dItZip, dLc, dYes, gdName, wipeD, asP, asB, asI, asS, asL, asU, sliceD, fCmp, fAdd, startD, fI, true_and, and_true, List.getD_cons_zero, List.getD_cons_succ, List.set_cons_zero, List.set_cons_succ, List.map_cons, List.map_nil, List.length_cons, List.length_nil, Nat.zero_add, Nat.reduceAdd, Nat.reduceSub, List.replicate, List.cons_append, List.nil_append, if_true, if_false, reduceIte, Bool.false_eq_true, Bool.not_true, Bool.not_false]
      intro i wi
      cases decide (m ≤ i) with
      | true =>
        intro i wi
        refine ⟨i, rfl, m0, fun i1 wi1 => ⟨⟨by omega, by omega⟩, ⟨?_, ?_⟩, hR _⟩⟩
        · rw [Int.fdiv_eq_ediv_of_nonneg _ (by omega)]
          exact Int.ediv_nonneg wi1.1 (by omega)
        · refine wi1.2.less ?_
          rw [Int.fdiv_eq_ediv_of_nonneg _ (by omega)]
          have e1 := Int.ediv_nonneg wi1.1 (show 0 ≤ m by omega)
          have e2 := Int.ediv_le_self m wi1.1
          omega
      | false =>
        intro j wj
        refine ⟨⟨bd32 (by have := wj.1; have := wj.2; omega), bd32 (by decide)⟩, _, rfl, by decide, ⟨by omega, by omega⟩, fun j2 wj2 => ⟨⟨.inl rfl, bd32 (by have := wj2.1; have := wj2.2; omega)⟩, _, rfl, by decide, ⟨.inr rfl, bd32 (by omega)⟩, _, rfl, by decide, ⟨by decide, by decide⟩, m0, hR _⟩⟩⟩).mono hk
theorem ok_w_choose (T : Tx K mg) {k : Nat} (hk : 2 ≤ k) : FnG P w K mg base CX0 k T.a_w_choose T.d_w_choose ["well", "things"] (spD ⟨K, P, w⟩ gChoose) :=
  (okB T.F_w_choose sc_w_choose (fun ds R h => by obtain ⟨_, rfl, _⟩ := h; rfl) fun cdv A gd outer s H E hr => ⟨_, (dss_one (ds_ret (de_ix (dv 1) (de_call (ok_w_draw T (k := 1) (by decide)) gd hr (by rfl) T.m_w_draw T.F_w_draw.kp T.b_w_draw pass0 (da_cons (dv 0) (da_cons (de_callB cd_len (by rfl) T.n_len bt_len (da_cons (dv 1) da_nil)) da_nil)))))), fun ds R h => by
      obtain ⟨xs, rfl, h0, h1, h⟩ := h
      simp only [dSeq, dNext, dBreak, dCont, dDrop, dRet, dRetN, dIfS, dSet, dB, dNotT, dAndT, dOrT, dNot, dAnd, dOr, dIf, dChain, dVar, dC, dOp, dUn, dNil, dCons, dCall, dTup, dLst, pyAll, dSl, dNo, dPart, dAsg, dPar, dDig, dMix, dPutD, dPutM, dM1, dFor, dItL, dItU, dItS, dItR1, dItR2, dItSc, dItZip, dLc, dYes, gdName, wipeD, asP, asB, asI, asS, asL, asU, sliceD, fCmp, fAdd, startD, fI, true_and, and_true, List.getD_cons_zero, List.getD_cons_succ, List.set_cons_zero, List.set_cons_succ, List.map_cons, List.map_nil, List.length_cons, List.length_nil, Nat.zero_add, Nat.reduceAdd, Nat.reduceSub, List.replicate, List.cons_append, List.nil_append, if_true, if_false, reduceIte, Bool.false_eq_true, Bool.not_true, Bool.not_false]
      refine len_lst (by exact Nat.le_trans (Nat.le_of_lt h1) (by decide)) ⟨_, rfl, by omega, by omega, fun k hk => ?_⟩
      have hk' : k < xs.length := by omega
      exact ⟨xs[k], atI_nat (List.getElem?_eq_getElem hk'), h _ (List.getElem_mem hk')⟩⟩).mono hk
theorem ok_w_text (T : Tx K mg) {k : Nat} (hk : 3 ≤ k) : FnG P w K mg base CX0 k T.a_w_text T.d_w_text ["well"] (spD ⟨K, P, w⟩ gText5) :=
  (okB T.F_w_text sc_w_text (fun ds R h => by obtain ⟨rfl, _⟩ := h; rfl) fun cdv A gd outer s H E hr => ⟨_, (dss_cons (ds_set (i := 1) sc_w_text.nd rfl (by first | exact Or.inl rfl | exact Or.inr rfl) (de_op od_add de_int (de_call (ok_w_choose T (k := 2) (by decide)) gd hr (by rfl) T.m_w_choose T.F_w_choose.kp T.b_w_choose pass0 (da_cons (dv 0) (da_cons (de_lst (da_cons de_int (da_cons de_int (da_cons de_int (da_cons de_int (da_cons de_int (da_cons de_int (da_cons de_int (da_cons de_int da_nil))))))))) da_nil)))))
    (dss_one (ds_ret (de_join de_str (de_lc (own := [("turn", 2)]) rfl sc_w_text.nd (di_rng1 (by rfl) T.n_range (da_cons (dv 1) da_nil)) (blkOk_by (N := ["well", "many", "turn"]) (own := [("turn", 2)]) (sc := defScope s_w_text) (by decide +kernel)) (fun _ _ _ _ _ => (dg_name (i := 2) (by decide) sc_w_text.nd rfl (by first | exact Or.inl rfl | exact Or.inr rfl))) (fun _ _ _ _ _ => dts_nil) (fun _ _ _ _ _ => (de_call (ok_w_choose T (k := 2) (by decide)) gd hr (by rfl) T.m_w_choose T.F_w_choose.kp T.b_w_choose pass0 (da_cons (dv 0) (da_cons (de_lst (da_cons de_str (da_cons de_str (da_cons de_str (da_cons de_str (da_cons de_str da_nil)))))) da_nil))))))))), fun ds R h => by
      obtain ⟨rfl, h⟩ := h
      simp only [dSeq, dNext, dBreak, dCont, dDrop, dRet, dRetN, dIfS, dSet, dB, dNotT, dAndT, dOrT, dNot, dAnd, dOr, dIf, dChain, dVar, dC, dOp, dUn, dNil, dCons, dCall, dTup, dLst, pyAll, dSl, dNo, dPart, dAsg, dPar, dDig, dMix, dPutD, dPutM, dM1, dFor, dItL, dItU, dItS, dItR1, dItR2, dItSc, dItZip, dLc, dYes, gdName, wipeD, asP, asB, asI, asS, asL, asU, sliceD, fCmp, fAdd, startD, fI, true_and, and_true, List.getD_cons_zero, List.getD_cons_succ, List.set_cons_zero, List.set_cons_succ, List.map_cons, List.map_nil, List.length_cons, List.length_nil, Nat.zero_add, Nat.reduceAdd, Nat.reduceSub, List.replicate, List.cons_append, List.nil_append, if_true, if_false, reduceIte, Bool.false_eq_true, Bool.not_true, Bool.not_false]
      refine ⟨by decide, _, rfl, by decide, by decide, fun m hm => ?_⟩
      obtain ⟨k, rfl, hk⟩ := many_ok hm
      refine ⟨_, rfl, by omega, by omega, by rw [rng_len]; exact Nat.le_trans (show ((1 : Int) + (k : Int)).toNat ≤ 8 by omega) (by decide), lc_rel (fun z => ∃ y, z = .str y ∧ SOk 1 y ∧ y.length = 1) _ [] (fun d3 hd3 K1 hk1 => ?_) fun zs lz pz => ?_⟩
      · simp only [dSeq, dNext, dBreak, dCont, dDrop, dRet, dRetN, dIfS, dSet, dB, dNotT, dAndT, dOrT, dNot, dAnd, dOr, dIf, dChain, dVar, dC, dOp, dUn, dNil, dCons, dCall, dTup, dLst, pyAll, dSl, dNo, dPart, dAsg, dPar, dDig, dMix, dPutD, dPutM, dM1, dFor, dItL, dItU, dItS, dItR1, dItR2, dItSc, dItZip, dLc, dYes, gdName, wipeD, asP, asB, asI, asS, asL, asU, sliceD, fCmp, fAdd, startD, fI, true_and, and_true, List.getD_cons_zero, List.getD_cons_succ, List.set_cons_zero, List.set_cons_succ, List.map_cons, List.map_nil, List.length_cons, List.length_nil, Nat.zero_add, Nat.reduceAdd, Nat.reduceSub, List.replicate, List.cons_append, List.nil_append, if_true, if_false, reduceIte, Bool.false_eq_true, Bool.not_true, Bool.not_false]
        exact ⟨by decide, _, rfl, by decide, by decide, fun x hx => hk1 x (menu5_ok hx)⟩
      · have strs5 : ∀ {zs : List PyData}, (∀ z ∈ zs, ∃ y, z = .str y ∧ SOk 1 y ∧ y.length = 1) → ∃ ys : List Str, zs = ys.map .str ∧ ys.length = zs.length ∧ (∀ y ∈ ys, SOk 1 y) ∧ ∀ y ∈ ys, y.length = 1 := fun {zs} => by
          induction zs with
          | nil => intro _; exact ⟨[], rfl, rfl, fun _ h => absurd h List.not_mem_nil, fun _ h => absurd h List.not_mem_nil⟩
          | cons z zs ih =>
            intro h
            obtain ⟨y, rfl, sy, ly⟩ := h z List.mem_cons_self
            obtain ⟨ys, rfl, e, hs, hl⟩ := ih fun z hz => h z (List.mem_cons_of_mem _ hz)
            exact ⟨y :: ys, rfl, by rw [List.length_cons, List.length_cons, e], fun u hu => by
              rcases List.mem_cons.mp hu with e | m
              · rw [e]; exact sy
              · exact hs u m, fun u hu => by
              rcases List.mem_cons.mp hu with e | m
              · rw [e]; exact ly
              · exact hl u m⟩
        obtain ⟨ys, rfl, ey, hy, hy1⟩ := strs5 pz
        have l8 : ys.length = k + 1 := by
          rw [ey, lz, rng_len]
          omega
        refine ⟨ys, .inl rfl, Nat.le_trans (Nat.add_le_add (Nat.le_trans (sum1 hy) (show ys.length ≤ 8 by omega)) (Nat.mul_le_mul (show ys.length ≤ 8 by omega) (show (Str.ofString "").length ≤ 0 by decide))) (by decide), ?_⟩
        rw [show Txt.join (Str.ofString "") ys = Str.join (Str.ofString "") ys from StrLaws.glued_eq_join _ _]
        exact h _ ((SOk.join hy).up (by omega)) (join_one hy1 (by omega))⟩).mono hk
theorem ok_w_names (T : Tx K mg) {k : Nat} (hk : 3 ≤ k) : FnG P w K mg base CX0 k T.a_w_names T.d_w_names ["well", "some"] (spD ⟨K, P, w⟩ gNames) :=
  (okB T.F_w_names sc_w_names (fun ds R h => by obtain ⟨_, rfl, _⟩ := h; rfl) fun cdv A gd outer s H E hr => ⟨_, (dss_cons (ds_set (i := 2) sc_w_names.nd rfl (by first | exact Or.inl rfl | exact Or.inr rfl) (de_callB (cd_sortK rfl hr) (by rfl) T.n_sorted bt_sorted (da_cons (de_callTy (cd_set rfl) (by rfl) T.n_set bt_set (da_cons (de_lc (own := [("turn", 3)]) rfl sc_w_names.nd (di_rng1 (by rfl) T.n_range (da_cons (de_op od_add de_int (de_call (ok_w_draw T (k := 2) (by decide)) gd hr (by rfl) T.m_w_draw T.F_w_draw.kp T.b_w_draw pass0 (da_cons (dv 0) (da_cons de_int da_nil)))) da_nil)) (blkOk_by (N := ["well", "some", "found", "turn"]) (own := [("turn", 3)]) (sc := defScope s_w_names) (by decide +kernel)) (fun _ _ _ _ _ => (dg_name (i := 3) (by decide) sc_w_names.nd rfl (by first | exact Or.inl rfl | exact Or.inr rfl))) (fun _ _ _ _ _ => dts_nil) (fun _ _ _ _ _ => (de_call (ok_w_choose T (k := 2) (by decide)) gd hr (by rfl) T.m_w_choose T.F_w_choose.kp T.b_w_choose pass0 (da_cons (dv 0) (da_cons (dv 1) da_nil))))) da_nil)) da_nil)))
    (dss_one (ds_ret (de_callTy cd_tuple (by rfl) T.n_tuple bt_tuple (da_cons (dv 2) da_nil))))), fun ds R h => by
      obtain ⟨xs, rfl, h0, h1, hx, h⟩ := h
      simp only [dSeq, dNext, dBreak, dCont, dDrop, dRet, dRetN, dIfS, dSet, dB, dNotT, dAndT, dOrT, dNot, dAnd, dOr, dIf, dChain, dVar, dC, dOp, dUn, dNil, dCons, dCall, dTup, dLst, pyAll, dSl, dNo, dPart, dAsg, dPar, dDig, dMix, dPutD, dPutM, dM1, dFor, dItL, dItU, dItS, dItR1, dItR2, dItSc, dItZip, dLc, dYes, gdName, wipeD, asP, asB, asI, asS, asL, asU, sliceD, fCmp, fAdd, startD, fI, true_and, and_true, List.getD_cons_zero, List.getD_cons_succ, List.set_cons_zero, List.set_cons_succ, List.map_cons, List.map_nil, List.length_cons, List.length_nil, Nat.zero_add, Nat.reduceAdd, Nat.reduceSub, List.replicate, List.cons_append, List.nil_append, if_true, if_false, reduceIte, Bool.false_eq_true, Bool.not_true, Bool.not_false]
      refine ⟨3, rfl, by decide, by decide, fun k hk => ⟨_, rfl, by omega, by omega, by rw [rng_len]; exact Nat.le_trans (show ((1 : Int) + (k : Int)).toNat ≤ 3 by omega) (by decide), lc_rel (fun z => ∃ y, z = .str y ∧ SOk 4 y) _ [] (fun d3 hd3 K1 hk1 => ?_) fun zs lz pz => ?_⟩⟩
      · simp only [dSeq, dNext, dBreak, dCont, dDrop, dRet, dRetN, dIfS, dSet, dB, dNotT, dAndT, dOrT, dNot, dAnd, dOr, dIf, dChain, dVar, dC, dOp, dUn, dNil, dCons, dCall, dTup, dLst, pyAll, dSl, dNo, dPart, dAsg, dPar, dDig, dMix, dPutD, dPutM, dM1, dFor, dItL, dItU, dItS, dItR1, dItR2, dItSc, dItZip, dLc, dYes, gdName, wipeD, asP, asB, asI, asS, asL, asU, sliceD, fCmp, fAdd, startD, fI, true_and, and_true, List.getD_cons_zero, List.getD_cons_succ, List.set_cons_zero, List.set_cons_succ, List.map_cons, List.map_nil, List.length_cons, List.length_nil, Nat.zero_add, Nat.reduceAdd, Nat.reduceSub, List.replicate, List.cons_append, List.nil_append, if_true, if_false, reduceIte, Bool.false_eq_true, Bool.not_true, Bool.not_false]
        refine ⟨_, rfl, by rw [List.length_map]; exact h0, by rw [List.length_map]; exact Nat.lt_trans h1 (by decide), fun x hx2 => hk1 x ?_⟩
        obtain ⟨y, hy, rfl⟩ := List.mem_map.mp hx2
        exact ⟨y, rfl, hx y hy⟩
      · obtain ⟨ys, rfl, ey, hy⟩ := strs_of4 pz
        have l3 : ys.length ≤ 3 := by
          rw [ey, lz, rng_len]
          omega
        refine ⟨_, ys.map Sum.inr, rfl, by show ([] ++ ys.map PyData.str) = (ys.map Sum.inr).map keyD; rw [List.nil_append, List.map_map]; rfl, by rw [List.length_map]; exact Nat.lt_of_le_of_lt (Nat.succ_le_succ l3) (by decide), ys, rfl, fun ws hr hm hz => ⟨_, .inl rfl, h ws (Nat.le_trans (ris_len hr fun x hx => (hm x).mp hx) l3) fun z hz2 => hy z ((hm z).mp hz2)⟩⟩⟩).mono hk
theorem ok_w_condition (T : Tx K mg) (n : Nat) {k : Nat} (hk : n + 5 ≤ k) : FnG P w K mg base CX0 k T.a_w_condition T.d_w_condition ["well", "deep"] (spD ⟨K, P, w⟩ (gCnd n)) := by
  induction n generalizing k with
  | zero =>
    have F0 : FnG P w K mg base CX0 4 T.a_w_condition T.d_w_condition ["well", "deep"] (spD ⟨K, P, w⟩ fNoG) := fnNo
    exact (okB (k := 4) T.F_w_condition sc_w_condition (fun ds R h => by obtain ⟨rfl, _⟩ := h; rfl) fun cdv A gd outer s H E hr => ⟨_, (dss_cons (ds_set (i := 2) sc_w_condition.nd rfl (by first | exact Or.inl rfl | exact Or.inr rfl) (de_call (ok_w_draw T (k := 4) (by omega)) gd hr (by rfl) T.m_w_draw T.F_w_draw.kp T.b_w_draw pass0 (da_cons (dv 0) (da_cons (de_if (dt_cmp od_gt (dv 1) de_int) de_int de_int) da_nil))))
    (dss_cons (ds_if (dt_cmp (od_eqQ hr.units) (dv 2) de_int) (dss_one (ds_ret (de_tup (da_cons de_str (da_cons (de_call (ok_w_names T (k := 4) (by omega)) gd hr (by rfl) T.m_w_names T.F_w_names.kp T.b_w_names pass0 (da_cons (dv 0) (da_cons (de_lst (da_cons de_str (da_cons de_str (da_cons de_str (da_cons de_str da_nil))))) da_nil))) da_nil))))) dss_nil)
    (dss_cons (ds_if (dt_cmp (od_eqQ hr.units) (dv 2) de_int) (dss_one (ds_ret (de_tup (da_cons de_str (da_cons (de_call (ok_w_choose T (k := 4) (by omega)) gd hr (by rfl) T.m_w_choose T.F_w_choose.kp T.b_w_choose pass0 (da_cons (dv 0) (da_cons (de_lst (da_cons de_str (da_cons de_str da_nil))) da_nil))) da_nil))))) dss_nil)
    (dss_cons (ds_if (dt_cmp (od_eqQ hr.units) (dv 2) de_int) (dss_one (ds_ret (de_tup (da_cons de_str (da_cons (de_call (ok_w_choose T (k := 4) (by omega)) gd hr (by rfl) T.m_w_choose T.F_w_choose.kp T.b_w_choose pass0 (da_cons (dv 0) (da_cons (de_lst (da_cons de_str (da_cons (de_call (ok_w_text T (k := 4) (by omega)) gd hr (by rfl) T.m_w_text T.F_w_text.kp T.b_w_text pass0 (da_cons (dv 0) da_nil)) da_nil))) da_nil))) da_nil))))) dss_nil)
    (dss_cons (ds_if (dt_cmp od_lt (dv 2) de_int) (dss_one (ds_ret (de_tup (da_cons (de_ix (de_lst (da_cons de_str (da_cons de_str (da_cons de_str da_nil)))) (de_op od_sub (dv 2) de_int)) (da_cons (de_call (ok_w_text T (k := 4) (by omega)) gd hr (by rfl) T.m_w_text T.F_w_text.kp T.b_w_text pass0 (da_cons (dv 0) da_nil)) da_nil))))) dss_nil)
    (dss_cons (ds_if (dt_cmp (od_eqQ hr.units) (dv 2) de_int) (dss_one (ds_ret (de_tup (da_cons de_str (da_cons (de_call F0 gd hr (by rfl) T.m_w_condition T.F_w_condition.kp T.b_w_condition pass0 (da_cons (dv 0) (da_cons (de_op od_sub (dv 1) de_int) da_nil))) da_nil))))) dss_nil)
    (dss_cons (ds_set (i := 3) sc_w_condition.nd rfl (by first | exact Or.inl rfl | exact Or.inr rfl) (de_callTy cd_tuple (by rfl) T.n_tuple bt_tuple (da_cons (de_lc (own := [("turn", 4)]) rfl sc_w_condition.nd (di_rng1 (by rfl) T.n_range (da_cons (de_call (ok_w_draw T (k := 4) (by omega)) gd hr (by rfl) T.m_w_draw T.F_w_draw.kp T.b_w_draw pass0 (da_cons (dv 0) (da_cons de_int da_nil))) da_nil)) (blkOk_by (N := ["well", "deep", "pick", "inner", "turn"]) (own := [("turn", 4)]) (sc := defScope s_w_condition) (by decide +kernel)) (fun _ _ _ _ _ => (dg_name (i := 4) (by decide) sc_w_condition.nd rfl (by first | exact Or.inl rfl | exact Or.inr rfl))) (fun _ _ _ _ _ => dts_nil) (fun _ _ _ _ _ => (de_call F0 gd hr (by rfl) T.m_w_condition T.F_w_condition.kp T.b_w_condition pass0 (da_cons (dv 0) (da_cons (de_op od_sub (dv 1) de_int) da_nil))))) da_nil)))
    (dss_one (ds_ret (de_tup (da_cons (de_ix (de_lst (da_cons de_str (da_cons de_str da_nil))) (de_op od_mod (de_callTy cd_int (by rfl) T.n_int bt_int (da_cons (dv 2) da_nil)) de_int)) (da_cons (dv 3) da_nil)))))))))))), fun ds R h => by
      obtain ⟨rfl, h⟩ := h
      have hleaf : ∀ l : Lf, l.fine → R (.p (.tuple [.str l.w, l.pt])) := fun l f => by
        have z := h (.lf l) (cf_leaf f)
        simp only [Cnd.d] at z
        exact z
      simp only [dSeq, dNext, dBreak, dCont, dDrop, dRet, dRetN, dIfS, dSet, dB, dNotT, dAndT, dOrT, dNot, dAnd, dOr, dIf, dChain, dVar, dC, dOp, dUn, dNil, dCons, dCall, dTup, dLst, pyAll, dSl, dNo, dPart, dAsg, dPar, dDig, dMix, dPutD, dPutM, dM1, dFor, dItL, dItU, dItS, dItR1, dItR2, dItSc, dItZip, dLc, dYes, gdName, wipeD, asP, asB, asI, asS, asL, asU, sliceD, fCmp, fAdd, startD, fI, true_and, and_true, List.getD_cons_zero, List.getD_cons_succ, List.set_cons_zero, List.set_cons_succ, List.map_cons, List.map_nil, List.length_cons, List.length_nil, Nat.zero_add, Nat.reduceAdd, Nat.reduceSub, List.replicate, List.cons_append, List.nil_append, if_true, if_false, reduceIte, Bool.false_eq_true, Bool.not_true, Bool.not_false]
      rw [decide_eq_false (show ¬ (1 : Int) < ((0 + 1 : Nat) : Int) by omega), if_neg Bool.false_ne_true]
      refine ⟨_, rfl, by decide, by decide, fun pick hp => ?_⟩
      refine ⟨rfl, rfl, Nat.zero_le _, ?_⟩
      simp only [eqv_int, Bool.false_eq_true, if_false]
      by_cases z0 : pick = 0
      · rw [decide_eq_true (show (pick : Int) = 0 by omega)]
        exact ⟨by decide, ["ann", "bob", "box", "team"], rfl, by decide, by decide, names4_ok, fun zs lz hz => ⟨by decide, hleaf (.frm zs) ⟨lz, hz⟩⟩⟩
      rw [decide_eq_false (show ¬ (pick : Int) = 0 by omega)]
      refine ⟨rfl, rfl, Nat.zero_le _, ?_⟩
      simp only [dSeq, dNext, dBreak, dCont, dDrop, dRet, dRetN, dIfS, dSet, dB, dNotT, dAndT, dOrT, dNot, dAnd, dOr, dIf, dChain, dVar, dC, dOp, dUn, dNil, dCons, dCall, dTup, dLst, pyAll, dSl, dNo, dPart, dAsg, dPar, dDig, dMix, dPutD, dPutM, dM1, dFor, dItL, dItU, dItS, dItR1, dItR2, dItSc, dItZip, dLc, dYes, gdName, wipeD, asP, asB, asI, asS, asL, asU, sliceD, fCmp, fAdd, startD, fI, true_and, and_true, List.getD_cons_zero, List.getD_cons_succ, List.set_cons_zero, List.set_cons_succ, List.map_cons, List.map_nil, List.length_cons, List.length_nil, Nat.zero_add, Nat.reduceAdd, Nat.reduceSub, List.replicate, List.cons_append, List.nil_append, if_true, if_false, reduceIte, Bool.false_eq_true, Bool.not_true, Bool.not_false]
      simp only [eqv_int]
      by_cases z1 : pick = 1
      · rw [decide_eq_true (show (pick : Int) = 1 by omega)]
        exact ⟨by decide, _, rfl, by decide, by decide, fun x hx => by
          obtain ⟨y, rfl, sy⟩ := sok_all (n := 4) (by decide +kernel) hx
          exact ⟨by decide, hleaf (.mrk y) sy⟩⟩
      rw [decide_eq_false (show ¬ (pick : Int) = 1 by omega)]
      refine ⟨rfl, rfl, Nat.zero_le _, ?_⟩
      simp only [dSeq, dNext, dBreak, dCont, dDrop, dRet, dRetN, dIfS, dSet, dB, dNotT, dAndT, dOrT, dNot, dAnd, dOr, dIf, dChain, dVar, dC, dOp, dUn, dNil, dCons, dCall, dTup, dLst, pyAll, dSl, dNo, dPart, dAsg, dPar, dDig, dMix, dPutD, dPutM, dM1, dFor, dItL, dItU, dItS, dItR1, dItR2, dItSc, dItZip, dLc, dYes, gdName, wipeD, asP, asB, asI, asS, asL, asU, sliceD, fCmp, fAdd, startD, fI, true_and, and_true, List.getD_cons_zero, List.getD_cons_succ, List.set_cons_zero, List.set_cons_succ, List.map_cons, List.map_nil, List.length_cons, List.length_nil, Nat.zero_add, Nat.reduceAdd, Nat.reduceSub, List.replicate, List.cons_append, List.nil_append, if_true, if_false, reduceIte, Bool.false_eq_true, Bool.not_true, Bool.not_false]
      simp only [eqv_int]
      by_cases z2 : pick = 2
      · rw [decide_eq_true (show (pick : Int) = 2 by omega)]
        exact ⟨rfl, fun y hy _ => ⟨by decide, _, rfl, (show 0 < 2 by decide), (show 2 < 1000000 by decide), fun x hx => by
          have q : ∃ z, x = .str z ∧ SOk 8 z := by
            rcases List.mem_cons.mp hx with e | hx
            · exact ⟨_, e, sok (by decide +kernel)⟩
            · exact ⟨_, List.mem_singleton.mp hx, hy⟩
          obtain ⟨z, rfl, sz⟩ := q
          exact ⟨by decide, hleaf (.txt (Str.ofString "is") z) ⟨by decide +kernel, sok (by decide +kernel), sz, fun e => absurd e (by decide +kernel)⟩⟩⟩⟩
      rw [decide_eq_false (show ¬ (pick : Int) = 2 by omega)]
      rw [if_neg Bool.false_ne_true]
      by_cases z6 : pick < 6
      · rw [decide_eq_true (show (pick : Int) < 6 by omega)]
        refine ⟨by decide, ?_⟩
        rcases (show pick = 3 ∨ pick = 4 ∨ pick = 5 by omega) with e | e | e
        · subst e
          exact ⟨_, rfl, rfl, fun y hy y1 => ⟨by decide, hleaf (.txt (Str.ofString "contains") y) ⟨by decide +kernel, sok (by decide +kernel), hy, fun _ => y1⟩⟩⟩
        · subst e
          exact ⟨_, rfl, rfl, fun y hy y1 => ⟨by decide, hleaf (.txt (Str.ofString "begins") y) ⟨by decide +kernel, sok (by decide +kernel), hy, fun _ => y1⟩⟩⟩
        · subst e
          exact ⟨_, rfl, rfl, fun y hy y1 => ⟨by decide, hleaf (.txt (Str.ofString "ends") y) ⟨by decide +kernel, sok (by decide +kernel), hy, fun _ => y1⟩⟩⟩
      · exact absurd (show pick < 6 by omega) z6⟩).mono (by omega)
  | succ n ih =>
    have F0 := ih (k := n + 5) (Nat.le_refl _)
    exact (okB (k := n + 5) T.F_w_condition sc_w_condition (fun ds R h => by obtain ⟨rfl, _⟩ := h; rfl) fun cdv A gd outer s H E hr => ⟨_, (dss_cons (ds_set (i := 2) sc_w_condition.nd rfl (by first | exact Or.inl rfl | exact Or.inr rfl) (de_call (ok_w_draw T (k := n + 5) (by omega)) gd hr (by rfl) T.m_w_draw T.F_w_draw.kp T.b_w_draw pass0 (da_cons (dv 0) (da_cons (de_if (dt_cmp od_gt (dv 1) de_int) de_int de_int) da_nil))))
    (dss_cons (ds_if (dt_cmp (od_eqQ hr.units) (dv 2) de_int) (dss_one (ds_ret (de_tup (da_cons de_str (da_cons (de_call (ok_w_names T (k := n + 5) (by omega)) gd hr (by rfl) T.m_w_names T.F_w_names.kp T.b_w_names pass0 (da_cons (dv 0) (da_cons (de_lst (da_cons de_str (da_cons de_str (da_cons de_str (da_cons de_str da_nil))))) da_nil))) da_nil))))) dss_nil)
    (dss_cons (ds_if (dt_cmp (od_eqQ hr.units) (dv 2) de_int) (dss_one (ds_ret (de_tup (da_cons de_str (da_cons (de_call (ok_w_choose T (k := n + 5) (by omega)) gd hr (by rfl) T.m_w_choose T.F_w_choose.kp T.b_w_choose pass0 (da_cons (dv 0) (da_cons (de_lst (da_cons de_str (da_cons de_str da_nil))) da_nil))) da_nil))))) dss_nil)
    (dss_cons (ds_if (dt_cmp (od_eqQ hr.units) (dv 2) de_int) (dss_one (ds_ret (de_tup (da_cons de_str (da_cons (de_call (ok_w_choose T (k := n + 5) (by omega)) gd hr (by rfl) T.m_w_choose T.F_w_choose.kp T.b_w_choose pass0 (da_cons (dv 0) (da_cons (de_lst (da_cons de_str (da_cons (de_call (ok_w_text T (k := n + 5) (by omega)) gd hr (by rfl) T.m_w_text T.F_w_text.kp T.b_w_text pass0 (da_cons (dv 0) da_nil)) da_nil))) da_nil))) da_nil))))) dss_nil)
    (dss_cons (ds_if (dt_cmp od_lt (dv 2) de_int) (dss_one (ds_ret (de_tup (da_cons (de_ix (de_lst (da_cons de_str (da_cons de_str (da_cons de_str da_nil)))) (de_op od_sub (dv 2) de_int)) (da_cons (de_call (ok_w_text T (k := n + 5) (by omega)) gd hr (by rfl) T.m_w_text T.F_w_text.kp T.b_w_text pass0 (da_cons (dv 0) da_nil)) da_nil))))) dss_nil)
    (dss_cons (ds_if (dt_cmp (od_eqQ hr.units) (dv 2) de_int) (dss_one (ds_ret (de_tup (da_cons de_str (da_cons (de_call F0 gd hr (by rfl) T.m_w_condition T.F_w_condition.kp T.b_w_condition pass0 (da_cons (dv 0) (da_cons (de_op od_sub (dv 1) de_int) da_nil))) da_nil))))) dss_nil)
    (dss_cons (ds_set (i := 3) sc_w_condition.nd rfl (by first | exact Or.inl rfl | exact Or.inr rfl) (de_callTy cd_tuple (by rfl) T.n_tuple bt_tuple (da_cons (de_lc (own := [("turn", 4)]) rfl sc_w_condition.nd (di_rng1 (by rfl) T.n_range (da_cons (de_call (ok_w_draw T (k := n + 5) (by omega)) gd hr (by rfl) T.m_w_draw T.F_w_draw.kp T.b_w_draw pass0 (da_cons (dv 0) (da_cons de_int da_nil))) da_nil)) (blkOk_by (N := ["well", "deep", "pick", "inner", "turn"]) (own := [("turn", 4)]) (sc := defScope s_w_condition) (by decide +kernel)) (fun _ _ _ _ _ => (dg_name (i := 4) (by decide) sc_w_condition.nd rfl (by first | exact Or.inl rfl | exact Or.inr rfl))) (fun _ _ _ _ _ => dts_nil) (fun _ _ _ _ _ => (de_call F0 gd hr (by rfl) T.m_w_condition T.F_w_condition.kp T.b_w_condition pass0 (da_cons (dv 0) (da_cons (de_op od_sub (dv 1) de_int) da_nil))))) da_nil)))
    (dss_one (ds_ret (de_tup (da_cons (de_ix (de_lst (da_cons de_str (da_cons de_str da_nil))) (de_op od_mod (de_callTy cd_int (by rfl) T.n_int bt_int (da_cons (dv 2) da_nil)) de_int)) (da_cons (dv 3) da_nil)))))))))))), fun ds R h => by
      obtain ⟨rfl, h⟩ := h
      have hleaf : ∀ l : Lf, l.fine → R (.p (.tuple [.str l.w, l.pt])) := fun l f => by
        have z := h (.lf l) (cf_leaf f)
        simp only [Cnd.d] at z
        exact z
      simp only [dSeq, dNext, dBreak, dCont, dDrop, dRet, dRetN, dIfS, dSet, dB, dNotT, dAndT, dOrT, dNot, dAnd, dOr, dIf, dChain, dVar, dC, dOp, dUn, dNil, dCons, dCall, dTup, dLst, pyAll, dSl, dNo, dPart, dAsg, dPar, dDig, dMix, dPutD, dPutM, dM1, dFor, dItL, dItU, dItS, dItR1, dItR2, dItSc, dItZip, dLc, dYes, gdName, wipeD, asP, asB, asI, asS, asL, asU, sliceD, fCmp, fAdd, startD, fI, true_and, and_true, List.getD_cons_zero, List.getD_cons_succ, List.set_cons_zero, List.set_cons_succ, List.map_cons, List.map_nil, List.length_cons, List.length_nil, Nat.zero_add, Nat.reduceAdd, Nat.reduceSub, List.replicate, List.cons_append, List.nil_append, if_true, if_false, reduceIte, Bool.false_eq_true, Bool.not_true, Bool.not_false]
      rw [decide_eq_true (show (1 : Int) < ((n + 1 + 1 : Nat) : Int) by omega)]
      refine ⟨_, rfl, by decide, by decide, fun pick hp => ?_⟩
      refine ⟨rfl, rfl, Nat.zero_le _, ?_⟩
      simp only [eqv_int, Bool.false_eq_true, if_false]
      by_cases z0 : pick = 0
      · rw [decide_eq_true (show (pick : Int) = 0 by omega)]
        exact ⟨by decide, ["ann", "bob", "box", "team"], rfl, by decide, by decide, names4_ok, fun zs lz hz => ⟨by decide, hleaf (.frm zs) ⟨lz, hz⟩⟩⟩
      rw [decide_eq_false (show ¬ (pick : Int) = 0 by omega)]
      refine ⟨rfl, rfl, Nat.zero_le _, ?_⟩
      simp only [dSeq, dNext, dBreak, dCont, dDrop, dRet, dRetN, dIfS, dSet, dB, dNotT, dAndT, dOrT, dNot, dAnd, dOr, dIf, dChain, dVar, dC, dOp, dUn, dNil, dCons, dCall, dTup, dLst, pyAll, dSl, dNo, dPart, dAsg, dPar, dDig, dMix, dPutD, dPutM, dM1, dFor, dItL, dItU, dItS, dItR1, dItR2, dItSc, dItZip, dLc, dYes, gdName, wipeD, asP, asB, asI, asS, asL, asU, sliceD, fCmp, fAdd, startD, fI, true_and, and_true, List.getD_cons_zero, List.getD_cons_succ, List.set_cons_zero, List.set_cons_succ, List.map_cons, List.map_nil, List.length_cons, List.length_nil, Nat.zero_add, Nat.reduceAdd, Nat.reduceSub, List.replicate, List.cons_append, List.nil_append, if_true, if_false, reduceIte, Bool.false_eq_true, Bool.not_true, Bool.not_false]
      simp only [eqv_int]
      by_cases z1 : pick = 1
      · rw [decide_eq_true (show (pick : Int) = 1 by omega)]
        exact ⟨by decide, _, rfl, by decide, by decide, fun x hx => by
          obtain ⟨y, rfl, sy⟩ := sok_all (n := 4) (by decide +kernel) hx
          exact ⟨by decide, hleaf (.mrk y) sy⟩⟩
      rw [decide_eq_false (show ¬ (pick : Int) = 1 by omega)]
      refine ⟨rfl, rfl, Nat.zero_le _, ?_⟩
      simp only [dSeq, dNext, dBreak, dCont, dDrop, dRet, dRetN, dIfS, dSet, dB, dNotT, dAndT, dOrT, dNot, dAnd, dOr, dIf, dChain, dVar, dC, dOp, dUn, dNil, dCons, dCall, dTup, dLst, pyAll, dSl, dNo, dPart, dAsg, dPar, dDig, dMix, dPutD, dPutM, dM1, dFor, dItL, dItU, dItS, dItR1, dItR2, dItSc, dItZip, dLc, dYes, gdName, wipeD, asP, asB, asI, asS, asL, asU, sliceD, fCmp, fAdd, startD, fI, true_and, and_true, List.getD_cons_zero, List.getD_cons_succ, List.set_cons_zero, List.set_cons_succ, List.map_cons, List.map_nil, List.length_cons, List.length_nil, Nat.zero_add, Nat.reduceAdd, Nat.reduceSub, List.replicate, List.cons_append, List.nil_append, if_true, if_false, reduceIte, Bool.false_eq_true, Bool.not_true, Bool.not_false]
      simp only [eqv_int]
      by_cases z2 : pick = 2
      · rw [decide_eq_true (show (pick : Int) = 2 by omega)]
        exact ⟨rfl, fun y hy _ => ⟨by decide, _, rfl, (show 0 < 2 by decide), (show 2 < 1000000 by decide), fun x hx => by
          have q : ∃ z, x = .str z ∧ SOk 8 z := by
            rcases List.mem_cons.mp hx with e | hx
            · exact ⟨_, e, sok (by decide +kernel)⟩
            · exact ⟨_, List.mem_singleton.mp hx, hy⟩
          obtain ⟨z, rfl, sz⟩ := q
          exact ⟨by decide, hleaf (.txt (Str.ofString "is") z) ⟨by decide +kernel, sok (by decide +kernel), sz, fun e => absurd e (by decide +kernel)⟩⟩⟩⟩
      rw [decide_eq_false (show ¬ (pick : Int) = 2 by omega)]
      rw [if_neg Bool.false_ne_true]
      by_cases z6 : pick < 6
      · rw [decide_eq_true (show (pick : Int) < 6 by omega)]
        refine ⟨by decide, ?_⟩
        rcases (show pick = 3 ∨ pick = 4 ∨ pick = 5 by omega) with e | e | e
        · subst e
          exact ⟨_, rfl, rfl, fun y hy y1 => ⟨by decide, hleaf (.txt (Str.ofString "contains") y) ⟨by decide +kernel, sok (by decide +kernel), hy, fun _ => y1⟩⟩⟩
        · subst e
          exact ⟨_, rfl, rfl, fun y hy y1 => ⟨by decide, hleaf (.txt (Str.ofString "begins") y) ⟨by decide +kernel, sok (by decide +kernel), hy, fun _ => y1⟩⟩⟩
        · subst e
          exact ⟨_, rfl, rfl, fun y hy y1 => ⟨by decide, hleaf (.txt (Str.ofString "ends") y) ⟨by decide +kernel, sok (by decide +kernel), hy, fun _ => y1⟩⟩⟩
      · rw [decide_eq_false (show ¬ (pick : Int) < 6 by omega), if_neg Bool.false_ne_true]
        refine ⟨rfl, rfl, Nat.zero_le _, ?_⟩
        simp only [dSeq, dNext, dBreak, dCont, dDrop, dRet, dRetN, dIfS, dSet, dB, dNotT, dAndT, dOrT, dNot, dAnd, dOr, dIf, dChain, dVar, dC, dOp, dUn, dNil, dCons, dCall, dTup, dLst, pyAll, dSl, dNo, dPart, dAsg, dPar, dDig, dMix, dPutD, dPutM, dM1, dFor, dItL, dItU, dItS, dItR1, dItR2, dItSc, dItZip, dLc, dYes, gdName, wipeD, asP, asB, asI, asS, asL, asU, sliceD, fCmp, fAdd, startD, fI, true_and, and_true, List.getD_cons_zero, List.getD_cons_succ, List.set_cons_zero, List.set_cons_succ, List.map_cons, List.map_nil, List.length_cons, List.length_nil, Nat.zero_add, Nat.reduceAdd, Nat.reduceSub, List.replicate, List.cons_append, List.nil_append, if_true, if_false, reduceIte, Bool.false_eq_true, Bool.not_true, Bool.not_false]
        simp only [eqv_int]
        have e1 : (((n + 1 + 1 : Nat) : Int) - 1) = ((n + 1 : Nat) : Int) := by omega
        by_cases z7 : pick = 6
        · rw [decide_eq_true (show (pick : Int) = 6 by omega)]
          refine ⟨by rw [e1], fun c hc => ⟨by decide, ?_⟩⟩
          have z := h (.nt c) (cf_not hc)
          simp only [Cnd.d] at z
          exact z
        · rw [decide_eq_false (show ¬ (pick : Int) = 6 by omega)]
          refine ⟨4, rfl, by decide, by decide, fun cnt hc => ⟨_, rfl, by omega, by omega, by rw [rng_len]; exact Nat.le_trans (show ((cnt : Int)).toNat ≤ 4 by omega) (by decide), lc_rel (fun z => ∃ c, z = Cnd.d c ∧ CF n c) _ [] (fun d3 hd3 K1 hk => ?_) fun zs lz pz => ?_⟩⟩
          · simp only [dSeq, dNext, dBreak, dCont, dDrop, dRet, dRetN, dIfS, dSet, dB, dNotT, dAndT, dOrT, dNot, dAnd, dOr, dIf, dChain, dVar, dC, dOp, dUn, dNil, dCons, dCall, dTup, dLst, pyAll, dSl, dNo, dPart, dAsg, dPar, dDig, dMix, dPutD, dPutM, dM1, dFor, dItL, dItU, dItS, dItR1, dItR2, dItSc, dItZip, dLc, dYes, gdName, wipeD, asP, asB, asI, asS, asL, asU, sliceD, fCmp, fAdd, startD, fI, true_and, and_true, List.getD_cons_zero, List.getD_cons_succ, List.set_cons_zero, List.set_cons_succ, List.map_cons, List.map_nil, List.length_cons, List.length_nil, Nat.zero_add, Nat.reduceAdd, Nat.reduceSub, List.replicate, List.cons_append, List.nil_append, if_true, if_false, reduceIte, Bool.false_eq_true, Bool.not_true, Bool.not_false]
            exact ⟨by rw [e1], fun c hc => hk _ ⟨c, rfl, hc⟩⟩
          · obtain ⟨cs, rfl, lcs, hcs⟩ := cnds_of pz
            have l3 : cs.length ≤ 3 := by
              rw [lcs, lz, rng_len]
              omega
            refine ⟨Cnd.ds cs, .inl rfl, by decide, _, rfl, by decide, ?_⟩
            have key : ∀ b : Bool, R (.p (.tuple [.str (grW b), .tuple (Cnd.ds cs)])) := fun b => by
              have z := h (.gr b cs) (cf_group hcs l3)
              simp only [Cnd.d] at z
              exact z
            rcases Int.emod_two_eq (pick : Int) with e | e
            · rw [e]
              exact ⟨_, rfl, by decide, key true⟩
            · rw [e]
              exact ⟨_, rfl, by decide, key false⟩⟩).mono (by omega)
theorem ok_w_message (T : Tx K mg) {k : Nat} (hk : 3 ≤ k) : FnG P w K mg base CX0 k T.a_w_message T.d_w_message ["well"] (spD ⟨K, P, w⟩ gMsg5) :=
  (okB T.F_w_message sc_w_message (fun ds R h => by obtain ⟨rfl, _⟩ := h; rfl) fun cdv A gd outer s H E hr => ⟨_, (dss_cons (ds_set (i := 1) sc_w_message.nd rfl (by first | exact Or.inl rfl | exact Or.inr rfl) (de_join de_str (de_lc (own := [("turn", 2)]) rfl sc_w_message.nd (di_rng1 (by rfl) T.n_range (da_cons (de_call (ok_w_draw T (k := 2) (by decide)) gd hr (by rfl) T.m_w_draw T.F_w_draw.kp T.b_w_draw pass0 (da_cons (dv 0) (da_cons de_int da_nil))) da_nil)) (blkOk_by (N := ["well", "subject", "turn", "marks", "word", "sender"]) (own := [("turn", 2)]) (sc := defScope s_w_message) (by decide +kernel)) (fun _ _ _ _ _ => (dg_name (i := 2) (by decide) sc_w_message.nd rfl (by first | exact Or.inl rfl | exact Or.inr rfl))) (fun _ _ _ _ _ => dts_nil) (fun _ _ _ _ _ => (de_call (ok_w_choose T (k := 2) (by decide)) gd hr (by rfl) T.m_w_choose T.F_w_choose.kp T.b_w_choose pass0 (da_cons (dv 0) (da_cons (de_lst (da_cons de_str (da_cons de_str (da_cons de_str (da_cons de_str (da_cons de_str da_nil)))))) da_nil)))))))
    (dss_cons (ds_set (i := 3) sc_w_message.nd rfl (by first | exact Or.inl rfl | exact Or.inr rfl) (de_callTy cd_tuple (by rfl) T.n_tuple bt_tuple (da_cons (de_lc (own := [("word", 4)]) rfl sc_w_message.nd (di_list (de_lst (da_cons de_str (da_cons de_str (da_cons de_str da_nil))))) (blkOk_by (N := ["well", "subject", "turn", "marks", "word", "sender"]) (own := [("word", 4)]) (sc := defScope s_w_message) (by decide +kernel)) (fun _ _ _ _ _ => (dg_name (i := 4) (by decide) sc_w_message.nd rfl (by first | exact Or.inl rfl | exact Or.inr rfl))) (fun _ _ _ _ _ => (dts_one (dt_cmp (od_eqQ hr.units) (de_call (ok_w_draw T (k := 2) (by decide)) gd hr (by rfl) T.m_w_draw T.F_w_draw.kp T.b_w_draw pass0 (da_cons (dv 0) (da_cons de_int da_nil))) de_int))) (fun _ _ _ _ _ => (dv 4))) da_nil)))
    (dss_cons (ds_set (i := 5) sc_w_message.nd rfl (by first | exact Or.inl rfl | exact Or.inr rfl) (de_call (ok_w_choose T (k := 2) (by decide)) gd hr (by rfl) T.m_w_choose T.F_w_choose.kp T.b_w_choose pass0 (da_cons (dv 0) (da_cons (de_lst (da_cons de_str (da_cons de_str (da_cons de_str (da_cons de_str (da_cons de_str da_nil)))))) da_nil))))
    (dss_one (ds_ret (de_tup (da_cons (dv 5) (da_cons (de_call (ok_w_choose T (k := 2) (by decide)) gd hr (by rfl) T.m_w_choose T.F_w_choose.kp T.b_w_choose pass0 (da_cons (dv 0) (da_cons (de_lst (da_cons de_str (da_cons de_str (da_cons de_str (da_cons de_str (da_cons de_str (da_cons de_str da_nil))))))) da_nil))) (da_cons (dv 1) (da_cons (dv 3) da_nil)))))))))), fun ds R h => by
      obtain ⟨rfl, h⟩ := h
      simp only [dSeq, dNext, dBreak, dCont, dDrop, dRet, dRetN, dIfS, dSet, dB, dNotT, dAndT, dOrT, dNot, dAnd, dOr, dIf, dChain, dVar, dC, dOp, dUn, dNil, dCons, dCall, dTup, dLst, pyAll, dSl, dNo, dPart, dAsg, dPar, dDig, dMix, dPutD, dPutM, dM1, dFor, dItL, dItU, dItS, dItR1, dItR2, dItSc, dItZip, dLc, dYes, gdName, wipeD, asP, asB, asI, asS, asL, asU, sliceD, fCmp, fAdd, startD, fI, true_and, and_true, List.getD_cons_zero, List.getD_cons_succ, List.set_cons_zero, List.set_cons_succ, List.map_cons, List.map_nil, List.length_cons, List.length_nil, Nat.zero_add, Nat.reduceAdd, Nat.reduceSub, List.replicate, List.cons_append, List.nil_append, if_true, if_false, reduceIte, Bool.false_eq_true, Bool.not_true, Bool.not_false]
      refine ⟨7, rfl, by decide, by decide, fun k hk => ⟨_, rfl, by omega, by omega, by rw [rng_len]; exact Nat.le_trans (show ((k : Int)).toNat ≤ 7 by omega) (by decide), lc_rel (fun z => ∃ y, z = .str y ∧ SOk 1 y) _ [] (fun d3 hd3 K1 hk1 => ?_) fun zs lz pz => ?_⟩⟩
      · simp only [dSeq, dNext, dBreak, dCont, dDrop, dRet, dRetN, dIfS, dSet, dB, dNotT, dAndT, dOrT, dNot, dAnd, dOr, dIf, dChain, dVar, dC, dOp, dUn, dNil, dCons, dCall, dTup, dLst, pyAll, dSl, dNo, dPart, dAsg, dPar, dDig, dMix, dPutD, dPutM, dM1, dFor, dItL, dItU, dItS, dItR1, dItR2, dItSc, dItZip, dLc, dYes, gdName, wipeD, asP, asB, asI, asS, asL, asU, sliceD, fCmp, fAdd, startD, fI, true_and, and_true, List.getD_cons_zero, List.getD_cons_succ, List.set_cons_zero, List.set_cons_succ, List.map_cons, List.map_nil, List.length_cons, List.length_nil, Nat.zero_add, Nat.reduceAdd, Nat.reduceSub, List.replicate, List.cons_append, List.nil_append, if_true, if_false, reduceIte, Bool.false_eq_true, Bool.not_true, Bool.not_false]
        exact ⟨by decide, _, rfl, by decide, by decide, fun x hx => hk1 x (sok_all (n := 1) (by decide +kernel) hx)⟩
      · obtain ⟨ys, rfl, ey, hy⟩ := strs_of pz
        have l6 : ys.length ≤ 6 := by
          rw [ey, lz, rng_len]
          omega
        refine ⟨ys, .inl rfl, Nat.le_trans (Nat.add_le_add (Nat.le_trans (sum1 hy) l6) (Nat.mul_le_mul l6 (show (Str.ofString "").length ≤ 0 by decide))) (by decide), ?_⟩
        rw [show Txt.join (Str.ofString "") ys = Str.join (Str.ofString "") ys from StrLaws.glued_eq_join _ _]
        refine ⟨(show 3 ≤ sizeLine by decide), (show 3 ≤ sizeLine by decide), ?_⟩
        refine lc_any (fun z => ∃ y, z = PyData.str y) _ [] (fun d4 hd4 K1 K2 hk1 hk2 => ?_) fun ms lm pm => ?_
        · simp only [dSeq, dNext, dBreak, dCont, dDrop, dRet, dRetN, dIfS, dSet, dB, dNotT, dAndT, dOrT, dNot, dAnd, dOr, dIf, dChain, dVar, dC, dOp, dUn, dNil, dCons, dCall, dTup, dLst, pyAll, dSl, dNo, dPart, dAsg, dPar, dDig, dMix, dPutD, dPutM, dM1, dFor, dItL, dItU, dItS, dItR1, dItR2, dItSc, dItZip, dLc, dYes, gdName, wipeD, asP, asB, asI, asS, asL, asU, sliceD, fCmp, fAdd, startD, fI, true_and, and_true, List.getD_cons_zero, List.getD_cons_succ, List.set_cons_zero, List.set_cons_succ, List.map_cons, List.map_nil, List.length_cons, List.length_nil, Nat.zero_add, Nat.reduceAdd, Nat.reduceSub, List.replicate, List.cons_append, List.nil_append, if_true, if_false, reduceIte, Bool.false_eq_true, Bool.not_true, Bool.not_false]
          obtain ⟨y4, rfl⟩ := str_in (by decide +kernel) hd4
          refine ⟨3, rfl, by decide, by decide, fun j hj => ⟨rfl, rfl, Nat.zero_le _, ?_⟩⟩
          rw [if_neg (by decide)]
          cases PyData.eqv (.int (j : Int)) (.int 0) with
          | true => exact hk1 _ ⟨y4, rfl⟩
          | false => exact hk2
        · obtain ⟨mm, rfl⟩ := strs_any pm
          refine ⟨_, .inl rfl, (show 5 ≤ sizeLine by decide), _, rfl, by decide, by decide, fun x hx => ?_⟩
          obtain ⟨s, rfl⟩ := str_in (by decide +kernel) hx
          refine ⟨(show 6 ≤ sizeLine by decide), _, rfl, by decide, by decide, fun x hx => ?_⟩
          obtain ⟨a, rfl⟩ := str_in (by decide +kernel) hx
          exact ⟨(show 4 ≤ sizeLine by decide), h s a _ mm (by
            have := ((SOk.join hy).up l6).len
            rw [len_list] at this
            exact this)⟩⟩).mono hk
theorem ok_w_holds (T : Tx K mg) (n : Nat) {k : Nat} (hk : n + 4 ≤ k) : FnG P w K mg base CX0 k T.a_w_holds T.d_w_holds ["condition", "message"] (spD ⟨K, P, w⟩ (gHoldL n)) := by
  induction n generalizing k with
  | zero => exact ⟨fun vs H Q E ⟨ds, R, P, dm, r, ⟨c, _, _, _, _, _, z, _⟩, k⟩ => z.elim, fun A gd o s H a us vs Q E r e b v ⟨ds, R, P, dm, r', ⟨c, _, _, _, _, _, z, _⟩, k⟩ => z.elim⟩
  | succ n ih =>
    have F0 := ih (k := n + 4) (Nat.le_refl _)
    exact (okB (k := n + 4) T.F_w_holds sc_w_holds (fun ds R h => by obtain ⟨_, _, _, _, _, rfl, _⟩ := h; rfl) fun cdv A gd outer s H E hr => ⟨_, (dss_cons (ds_asg (vs := [2, 3]) (dv 0) (dg_tup (n := 2) rfl (dgs_cons (dg_name (i := 2) (by decide) sc_w_holds.nd rfl (by first | exact Or.inl rfl | exact Or.inr rfl)) (dgs_cons (dg_name (i := 3) (by decide) sc_w_holds.nd rfl (by first | exact Or.inl rfl | exact Or.inr rfl)) dgs_nil))))
    (dss_cons (ds_set (i := 4) sc_w_holds.nd rfl (by first | exact Or.inl rfl | exact Or.inr rfl) (de_ix (dv 1) de_int))
    (dss_cons (ds_if (dt_cmp (od_eqW hr.units) (dv 2) de_str) (dss_one (ds_ret (de_cmp (od_inW (u66 hr)) (de_ix (dv 1) de_int) (dv 3)))) dss_nil)
    (dss_cons (ds_if (dt_cmp (od_eqW hr.units) (dv 2) de_str) (dss_one (ds_ret (de_cmp (od_inW (u66 hr)) (dv 3) (de_ix (dv 1) de_int)))) dss_nil)
    (dss_cons (ds_if (dt_cmp (od_eqW hr.units) (dv 2) de_str) (dss_one (ds_ret (de_cmp (od_neE hr.units0) (de_lc (own := [("at", 5)]) rfl sc_w_holds.nd (di_rng1 (by rfl) T.n_range (da_cons (de_callB cd_len (by rfl) T.n_len bt_len (da_cons (dv 4) da_nil)) da_nil)) (blkOk_by (N := ["condition", "message", "word", "what", "subject", "at", "found", "one"]) (own := [("at", 5)]) (sc := defScope s_w_holds) (by decide +kernel)) (fun _ _ _ _ _ => (dg_name (i := 5) (by decide) sc_w_holds.nd rfl (by first | exact Or.inl rfl | exact Or.inr rfl))) (fun _ _ _ _ _ => (dts_one (dt_cmp (od_eqQ hr.units) (de_slice (dv 4) (do_some (dv 5)) (do_some (de_op od_add (dv 5) (de_callB cd_len (by rfl) T.n_len bt_len (da_cons (dv 3) da_nil))))) (dv 3)))) (fun _ _ _ _ _ => (dv 5))) (de_lst da_nil)))) dss_nil)
    (dss_cons (ds_if (dt_cmp (od_eqW hr.units) (dv 2) de_str) (dss_one (ds_ret (de_cmp (od_eqQ hr.units) (de_slice (dv 4) do_none (do_some (de_callB cd_len (by rfl) T.n_len bt_len (da_cons (dv 3) da_nil)))) (dv 3)))) dss_nil)
    (dss_cons (ds_if (dt_cmp (od_eqW hr.units) (dv 2) de_str) (dss_one (ds_ret (de_and (de_cmp od_ge (de_callB cd_len (by rfl) T.n_len bt_len (da_cons (dv 4) da_nil)) (de_callB cd_len (by rfl) T.n_len bt_len (da_cons (dv 3) da_nil))) (de_one (de_cmp (od_eqQ hr.units) (de_slice (dv 4) (do_some (de_op od_sub (de_callB cd_len (by rfl) T.n_len bt_len (da_cons (dv 4) da_nil)) (de_callB cd_len (by rfl) T.n_len bt_len (da_cons (dv 3) da_nil)))) do_none) (dv 3)))))) dss_nil)
    (dss_cons (ds_if (dt_cmp (od_eqW hr.units) (dv 2) de_str) (dss_one (ds_ret (de_cmp (od_eqQ hr.units) (dv 4) (dv 3)))) dss_nil)
    (dss_cons (ds_if (dt_cmp (od_eqW hr.units) (dv 2) de_str) (dss_one (ds_ret (de_not (de_call F0 gd hr (by rfl) T.m_w_holds T.F_w_holds.kp T.b_w_holds pass0 (da_cons (dv 3) (da_cons (dv 1) da_nil)))))) dss_nil)
    (dss_cons (ds_setLc (i := 6) rfl sc_w_holds.nd rfl rfl (sw_true rfl rfl rfl (by decide +kernel)) (own := [("one", 7)]) (di_tup (dv 3)) (blkOk_by (N := ["condition", "message", "word", "what", "subject", "at", "found", "one"]) (own := [("one", 7)]) (sc := defScope s_w_holds) (by decide +kernel)) (fun _ _ _ _ _ => (dg_name (i := 7) (by decide) sc_w_holds.nd rfl (by first | exact Or.inl rfl | exact Or.inr rfl))) (fun _ _ _ _ _ => dts_nil) (fun _ _ _ _ _ => (de_call F0 gd hr (by rfl) T.m_w_holds T.F_w_holds.kp T.b_w_holds pass0 (da_cons (dv 7) (da_cons (dv 1) da_nil)))))
    (dss_one (ds_ret (de_if (dt_cmp (od_eqW hr.units) (dv 2) de_str) (de_cmp od_notin de_bl (dv 6)) (de_cmp od_in de_bl (dv 6))))))))))))))), fun ds R h => by
      obtain ⟨c, s, a, u, ms, rfl, ok, fn, hu, h⟩ := h
      have hu2 : u.length ≤ sizeLine := Nat.le_trans hu (by decide)
      cases c with
      | lf l =>
        have fl : l.fine := fn l (by simp only [Cnd.lvs]; exact List.mem_singleton.mpr rfl)
        clear ok fn
        simp only [Cnd.hold] at h
        simp only [Cnd.d]
        refine ⟨rfl, _, _, rfl, _, _, rfl, rfl, ?_⟩
        simp only [dSeq, dNext, dBreak, dCont, dDrop, dRet, dRetN, dIfS, dSet, dB, dNotT, dAndT, dOrT, dNot, dAnd, dOr, dIf, dChain, dVar, dC, dOp, dUn, dNil, dCons, dCall, dTup, dLst, pyAll, dSl, dNo, dPart, dAsg, dPar, dDig, dMix, dPutD, dPutM, dM1, dFor, dItL, dItU, dItS, dItR1, dItR2, dItSc, dItZip, dLc, dYes, gdName, wipeD, asP, asB, asI, asS, asL, asU, sliceD, fCmp, fAdd, startD, fI, true_and, and_true, List.getD_cons_zero, List.getD_cons_succ, List.set_cons_zero, List.set_cons_succ, List.map_cons, List.map_nil, List.length_cons, List.length_nil, Nat.zero_add, Nat.reduceAdd, Nat.reduceSub, List.replicate, List.cons_append, List.nil_append, if_true, if_false, reduceIte, Bool.false_eq_true, Bool.not_true, Bool.not_false]
        refine ⟨_, rfl, ?_⟩
        cases l with
        | frm ns =>
          refine fW_t (x := Str.ofString "from") (by decide +kernel) ?_
          exact ⟨_, rfl, ns, rfl, h⟩
        | mrk m =>
          refine fW_f (x := Str.ofString "marked") (by decide +kernel) ?_
          refine fW_t (x := Str.ofString "marked") (by decide +kernel) ?_
          exact ⟨_, rfl, ms, rfl, h⟩
        | txt w t =>
          obtain ⟨o0, _, o3, o4⟩ := fl
          have ht2 : t.length ≤ sizeLine := by
            have := o3.len
            rw [len_list] at this
            exact Nat.le_trans this (by decide)
          obtain ⟨o1, o2, o5, _⟩ := txt_w o0
          refine fW_f (x := w) o1 ?_
          refine fW_f (x := w) o2 ?_
          simp only [lfB, pasB] at h
          refine ite2 (fun q => ?_) fun qa => ?_
          · have q : eqW (.str w) "contains" = true := q
            rw [if_pos q] at h
            have t1 : 1 ≤ t.length := o4 (by
              have : w = Str.ofString "contains" := of_decide_eq_true q
              rw [this]
              decide +kernel)
            refine len_str hu2 ⟨_, rfl, by omega, by omega, ?_⟩
            rw [Int.toNat_natCast]
            refine ⟨by rw [rng_len]; exact hu2, ?_⟩
            refine lc_fm (atF u t) _ [] (fun d hd K1 K2 hk => ?_) ?_
            · obtain ⟨i, hi, rfl⟩ := mem_rng hd
              rw [Int.zero_add] at hk ⊢
              simp only [dSeq, dNext, dBreak, dCont, dDrop, dRet, dRetN, dIfS, dSet, dB, dNotT, dAndT, dOrT, dNot, dAnd, dOr, dIf, dChain, dVar, dC, dOp, dUn, dNil, dCons, dCall, dTup, dLst, pyAll, dSl, dNo, dPart, dAsg, dPar, dDig, dMix, dPutD, dPutM, dM1, dFor, dItL, dItU, dItS, dItR1, dItR2, dItSc, dItZip, dLc, dYes, gdName, wipeD, asP, asB, asI, asS, asL, asU, sliceD, fCmp, fAdd, startD, fI, true_and, and_true, List.getD_cons_zero, List.getD_cons_succ, List.set_cons_zero, List.set_cons_succ, List.map_cons, List.map_nil, List.length_cons, List.length_nil, Nat.zero_add, Nat.reduceAdd, Nat.reduceSub, List.replicate, List.cons_append, List.nil_append, if_true, if_false, reduceIte, Bool.false_eq_true, Bool.not_true, Bool.not_false]
              refine len_str ht2 ⟨hu2, fEqQ_s ?_⟩
              have hk : (match (if cutS u (some (i : Int)) (some ((i : Int) + (t.length : Int))) = t then some (PyData.int (i : Int)) else none) with | some z => K1 z | none => K2) := hk
              by_cases q2 : cutS u (some (i : Int)) (some ((i : Int) + (t.length : Int))) = t
              · rw [if_pos q2] at hk
                rw [decide_eq_true q2]
                exact hk
              · rw [if_neg q2] at hk
                rw [decide_eq_false q2]
                exact hk
            · rw [List.nil_append]
              refine ⟨(show 0 ≤ sizeLine by decide), rfl, ?_⟩
              rw [if_pos rfl, has_in t1]
              exact h
          rw [if_neg (show ¬ eqW (.str w) "contains" = true from qa)] at h
          refine ite2 (fun q => ?_) fun qb => ?_
          · rw [if_pos (show eqW (.str w) "begins" = true from q)] at h
            refine len_str ht2 ⟨hu2, fEqQ_s ?_⟩
            rw [begins_cut]
            exact h
          rw [if_neg (show ¬ eqW (.str w) "begins" = true from qb)] at h
          refine ite2 (fun q => ?_) fun qc => ?_
          · rw [if_pos (show eqW (.str w) "ends" = true from q)] at h
            refine len_str hu2 (len_str ht2 ?_)
            simp only [dSeq, dNext, dBreak, dCont, dDrop, dRet, dRetN, dIfS, dSet, dB, dNotT, dAndT, dOrT, dNot, dAnd, dOr, dIf, dChain, dVar, dC, dOp, dUn, dNil, dCons, dCall, dTup, dLst, pyAll, dSl, dNo, dPart, dAsg, dPar, dDig, dMix, dPutD, dPutM, dM1, dFor, dItL, dItU, dItS, dItR1, dItR2, dItSc, dItZip, dLc, dYes, gdName, wipeD, asP, asB, asI, asS, asL, asU, sliceD, fCmp, fAdd, startD, fI, true_and, and_true, List.getD_cons_zero, List.getD_cons_succ, List.set_cons_zero, List.set_cons_succ, List.map_cons, List.map_nil, List.length_cons, List.length_nil, Nat.zero_add, Nat.reduceAdd, Nat.reduceSub, List.replicate, List.cons_append, List.nil_append, if_true, if_false, reduceIte, Bool.false_eq_true, Bool.not_true, Bool.not_false]
            by_cases q3 : t.length ≤ u.length
            · rw [decide_eq_true (show (t.length : Int) ≤ (u.length : Int) by omega)]
              rw [if_pos rfl]
              refine len_str hu2 (len_str ht2 ?_)
              simp only [dSeq, dNext, dBreak, dCont, dDrop, dRet, dRetN, dIfS, dSet, dB, dNotT, dAndT, dOrT, dNot, dAnd, dOr, dIf, dChain, dVar, dC, dOp, dUn, dNil, dCons, dCall, dTup, dLst, pyAll, dSl, dNo, dPart, dAsg, dPar, dDig, dMix, dPutD, dPutM, dM1, dFor, dItL, dItU, dItS, dItR1, dItR2, dItSc, dItZip, dLc, dYes, gdName, wipeD, asP, asB, asI, asS, asL, asU, sliceD, fCmp, fAdd, startD, fI, true_and, and_true, List.getD_cons_zero, List.getD_cons_succ, List.set_cons_zero, List.set_cons_succ, List.map_cons, List.map_nil, List.length_cons, List.length_nil, Nat.zero_add, Nat.reduceAdd, Nat.reduceSub, List.replicate, List.cons_append, List.nil_append, if_true, if_false, reduceIte, Bool.false_eq_true, Bool.not_true, Bool.not_false]
              refine ⟨hu2, fEqQ_s ?_⟩
              rw [ends_cut q3]
              exact h
            · rw [decide_eq_false (show ¬ (t.length : Int) ≤ (u.length : Int) by omega)]
              rw [ends_no q3] at h
              exact h
          rw [if_neg (show ¬ eqW (.str w) "ends" = true from qc)] at h
          have qi : eqW (.str w) "is" = true := by
            obtain ⟨y, hy, q4⟩ := List.any_eq_true.mp o0
            have e : w = y := of_decide_eq_true q4
            subst e
            rcases List.mem_cons.mp hy with e | hy
            · exact absurd (show eqW (.str w) "contains" = true by rw [e]; decide +kernel) qa
            rcases List.mem_cons.mp hy with e | hy
            · exact absurd (show eqW (.str w) "begins" = true by rw [e]; decide +kernel) qb
            rcases List.mem_cons.mp hy with e | hy
            · exact absurd (show eqW (.str w) "ends" = true by rw [e]; decide +kernel) qc
            have e := List.mem_singleton.mp hy
            rw [e]; decide +kernel
          refine fW_t (x := w) qi ?_
          refine fEqQ_s ?_
          exact h
      | nt c =>
        have ok : c.okn n := ok
        have fn2 : ∀ l ∈ c.lvs, l.fine := fun l m => fn l (by simp only [Cnd.lvs]; exact m)
        simp only [Cnd.hold] at h
        simp only [Cnd.d]
        refine ⟨rfl, _, _, rfl, _, _, rfl, rfl, ?_⟩
        simp only [dSeq, dNext, dBreak, dCont, dDrop, dRet, dRetN, dIfS, dSet, dB, dNotT, dAndT, dOrT, dNot, dAnd, dOr, dIf, dChain, dVar, dC, dOp, dUn, dNil, dCons, dCall, dTup, dLst, pyAll, dSl, dNo, dPart, dAsg, dPar, dDig, dMix, dPutD, dPutM, dM1, dFor, dItL, dItU, dItS, dItR1, dItR2, dItSc, dItZip, dLc, dYes, gdName, wipeD, asP, asB, asI, asS, asL, asU, sliceD, fCmp, fAdd, startD, fI, true_and, and_true, List.getD_cons_zero, List.getD_cons_succ, List.set_cons_zero, List.set_cons_succ, List.map_cons, List.map_nil, List.length_cons, List.length_nil, Nat.zero_add, Nat.reduceAdd, Nat.reduceSub, List.replicate, List.cons_append, List.nil_append, if_true, if_false, reduceIte, Bool.false_eq_true, Bool.not_true, Bool.not_false]
        refine ⟨_, rfl, ?_⟩
        refine fW_f (x := Str.ofString "not") (by decide +kernel) ?_
        refine fW_f (x := Str.ofString "not") (by decide +kernel) ?_
        refine fW_f (x := Str.ofString "not") (by decide +kernel) ?_
        refine fW_f (x := Str.ofString "not") (by decide +kernel) ?_
        refine fW_f (x := Str.ofString "not") (by decide +kernel) ?_
        refine fW_f (x := Str.ofString "not") (by decide +kernel) ?_
        refine fW_t (x := Str.ofString "not") (by decide +kernel) ?_
        exact ⟨c, s, a, u, ms, rfl, ok, fn2, hu, h⟩
      | gr b cs =>
        have ok2 : ∀ c ∈ cs, c.okn n := (show cs.length ≤ 100 ∧ ∀ c ∈ cs, c.okn n from ok).2
        have ok1 : cs.length ≤ 100 := (show cs.length ≤ 100 ∧ ∀ c ∈ cs, c.okn n from ok).1
        have fn2 : ∀ c ∈ cs, ∀ l ∈ c.lvs, l.fine := fun c hc l m => fn l (by simp only [Cnd.lvs]; exact in_lvsA hc m)
        clear ok fn
        simp only [Cnd.hold] at h
        simp only [Cnd.d]
        refine ⟨rfl, _, _, rfl, _, _, rfl, rfl, ?_⟩
        simp only [dSeq, dNext, dBreak, dCont, dDrop, dRet, dRetN, dIfS, dSet, dB, dNotT, dAndT, dOrT, dNot, dAnd, dOr, dIf, dChain, dVar, dC, dOp, dUn, dNil, dCons, dCall, dTup, dLst, pyAll, dSl, dNo, dPart, dAsg, dPar, dDig, dMix, dPutD, dPutM, dM1, dFor, dItL, dItU, dItS, dItR1, dItR2, dItSc, dItZip, dLc, dYes, gdName, wipeD, asP, asB, asI, asS, asL, asU, sliceD, fCmp, fAdd, startD, fI, true_and, and_true, List.getD_cons_zero, List.getD_cons_succ, List.set_cons_zero, List.set_cons_succ, List.map_cons, List.map_nil, List.length_cons, List.length_nil, Nat.zero_add, Nat.reduceAdd, Nat.reduceSub, List.replicate, List.cons_append, List.nil_append, if_true, if_false, reduceIte, Bool.false_eq_true, Bool.not_true, Bool.not_false]
        refine ⟨_, rfl, ?_⟩
        have gw := grW_n b
        refine fW_f (x := grW b) gw.1 ?_
        refine fW_f (x := grW b) gw.2.1 ?_
        refine fW_f (x := grW b) gw.2.2.1 ?_
        refine fW_f (x := grW b) gw.2.2.2.1 ?_
        refine fW_f (x := grW b) gw.2.2.2.2.1 ?_
        refine fW_f (x := grW b) gw.2.2.2.2.2.1 ?_
        refine fW_f (x := grW b) gw.2.2.2.2.2.2.1 ?_
        have key : ∀ (g : TDG) (te : TD) (δ : Dn) (fin : List PyData → Prop), (∀ c ∈ cs, ∀ K1 : PyData → Prop, K1 (.bool (c.hold s u ms)) → g (.p c.d) δ fun δ2 => dYes δ2 fun b => if b = true then te δ2 fun y => asP y K1 else False) → fin (cs.map fun c => .bool (c.hold s u ms)) → lcL g dYes te δ fin (Cnd.ds cs) [] := fun g te δ fin hd hf => by
          have key2 : ∀ (ds : List Cnd) (acc : List PyData), (∀ c ∈ ds, c ∈ cs) → fin (acc ++ ds.map fun c => .bool (c.hold s u ms)) → lcL g dYes te δ fin (Cnd.ds ds) acc := fun ds => by
            induction ds with
            | nil => intro acc _ hf; rw [List.map_nil, List.append_nil] at hf; exact hf
            | cons c ds ihd =>
              intro acc hm hf
              refine hd c (hm c List.mem_cons_self) _ ?_
              exact ihd (acc ++ [.bool (c.hold s u ms)]) (fun c m => hm c (List.mem_cons_of_mem _ m)) (by rw [List.append_assoc]; exact hf)
          exact key2 cs [] (fun c m => m) (by rw [List.nil_append]; exact hf)
        refine ⟨by rw [ds_map, List.length_map]; exact Nat.le_trans ok1 (by decide), key _ _ _ _ (fun c hc K1 hk => ?_) ?_⟩
        · simp only [dSeq, dNext, dBreak, dCont, dDrop, dRet, dRetN, dIfS, dSet, dB, dNotT, dAndT, dOrT, dNot, dAnd, dOr, dIf, dChain, dVar, dC, dOp, dUn, dNil, dCons, dCall, dTup, dLst, pyAll, dSl, dNo, dPart, dAsg, dPar, dDig, dMix, dPutD, dPutM, dM1, dFor, dItL, dItU, dItS, dItR1, dItR2, dItSc, dItZip, dLc, dYes, gdName, wipeD, asP, asB, asI, asS, asL, asU, sliceD, fCmp, fAdd, startD, fI, true_and, and_true, List.getD_cons_zero, List.getD_cons_succ, List.set_cons_zero, List.set_cons_succ, List.map_cons, List.map_nil, List.length_cons, List.length_nil, Nat.zero_add, Nat.reduceAdd, Nat.reduceSub, List.replicate, List.cons_append, List.nil_append, if_true, if_false, reduceIte, Bool.false_eq_true, Bool.not_true, Bool.not_false]
          exact ⟨c, s, a, u, ms, rfl, ok2 c hc, fn2 c hc, hu, hk⟩
        · cases b with
          | true =>
            refine fW_t (x := grW true) (by decide +kernel) ?_
            refine ⟨_, .inl rfl, rfl, flat_bools cs _, ?_⟩
            rw [if_pos rfl, hold_all]
            exact h
          | false =>
            refine fW_f (x := grW false) (by decide +kernel) ?_
            refine ⟨_, .inl rfl, rfl, flat_bools cs _, ?_⟩
            rw [if_neg Bool.false_ne_true, hold_any]
            exact h⟩).mono (by omega)
theorem ok_w_leaves (T : Tx K mg) (n : Nat) {k : Nat} (hk : n + 1 ≤ k) : FnG P w K mg base CX0 k T.a_w_leaves T.d_w_leaves ["condition"] (spD ⟨K, P, w⟩ (gSng n)) := by
  induction n generalizing k with
  | zero => exact ⟨fun vs H Q E ⟨ds, R, P, dm, r, ⟨c, _, z, _⟩, k⟩ => z.elim, fun A gd o s H a us vs Q E r e b v ⟨ds, R, P, dm, r', ⟨c, _, z, _⟩, k⟩ => z.elim⟩
  | succ n ih =>
    have F0 := ih (k := n + 1) (Nat.le_refl _)
    exact (okB (k := n + 1) T.F_w_leaves sc_w_leaves (fun ds R h => by obtain ⟨_, rfl, _⟩ := h; rfl) fun cdv A gd outer s H E hr => ⟨_, (dss_cons (ds_if (dt_cmp (od_eqW hr.units) (de_ix (dv 0) de_int) de_str) (dss_one (ds_ret (de_call F0 gd hr (by rfl) T.m_w_leaves T.F_w_leaves.kp T.b_w_leaves pass0 (da_cons (de_ix (dv 0) de_int) da_nil)))) dss_nil)
    (dss_cons (ds_if (dt_cmp (od_inW (u66 hr)) (de_ix (dv 0) de_int) (de_tup (da_cons de_str (da_cons de_str da_nil)))) (dss_cons (ds_set (i := 1) sc_w_leaves.nd rfl (by first | exact Or.inl rfl | exact Or.inr rfl) (de_lst da_nil))
    (dss_cons (ds_for (vs := [2]) PassesOwn.never rfl (di_tup (de_ix (dv 0) de_int)) (dg_name (i := 2) (by decide) sc_w_leaves.nd rfl (by first | exact Or.inl rfl | exact Or.inr rfl)) (dss_one (ds_set (i := 1) sc_w_leaves.nd rfl (by first | exact Or.inl rfl | exact Or.inr rfl) (de_op od_add (dv 1) (de_call F0 gd hr (by rfl) T.m_w_leaves T.F_w_leaves.kp T.b_w_leaves pass0 (da_cons (dv 2) da_nil))))))
    (dss_one (ds_ret (dv 1))))) dss_nil)
    (dss_one (ds_ret (de_lst (da_cons (dv 0) da_nil)))))), fun ds R h => by
      obtain ⟨c, rfl, ok, hl, h⟩ := h
      cases c with
      | lf l =>
        have ok : l.ok := ok
        obtain ⟨n1, n2⟩ := lf_w ok
        simp only [Cnd.lvs] at h
        simp only [Cnd.d]
        simp only [dSeq, dNext, dBreak, dCont, dDrop, dRet, dRetN, dIfS, dSet, dB, dNotT, dAndT, dOrT, dNot, dAnd, dOr, dIf, dChain, dVar, dC, dOp, dUn, dNil, dCons, dCall, dTup, dLst, pyAll, dSl, dNo, dPart, dAsg, dPar, dDig, dMix, dPutD, dPutM, dM1, dFor, dItL, dItU, dItS, dItR1, dItR2, dItSc, dItZip, dLc, dYes, gdName, wipeD, asP, asB, asI, asS, asL, asU, sliceD, fCmp, fAdd, startD, fI, true_and, and_true, List.getD_cons_zero, List.getD_cons_succ, List.set_cons_zero, List.set_cons_succ, List.map_cons, List.map_nil, List.length_cons, List.length_nil, Nat.zero_add, Nat.reduceAdd, Nat.reduceSub, List.replicate, List.cons_append, List.nil_append, if_true, if_false, reduceIte, Bool.false_eq_true, Bool.not_true, Bool.not_false]
        refine ⟨_, rfl, fEqW_of (x := l.w) (b := false) n1 ?_⟩
        refine ⟨_, rfl, (show 2 ≤ sizeLine by decide), ["all", "any"], rfl, ?_⟩
        rw [show inW (.str l.w) [Str.ofString "all", Str.ofString "any"] = false from n2]
        exact ⟨(show 1 ≤ sizeLine by decide), h⟩
      | nt c =>
        have ok : c.okn n := ok
        simp only [Cnd.lvs] at h hl
        simp only [Cnd.d]
        simp only [dSeq, dNext, dBreak, dCont, dDrop, dRet, dRetN, dIfS, dSet, dB, dNotT, dAndT, dOrT, dNot, dAnd, dOr, dIf, dChain, dVar, dC, dOp, dUn, dNil, dCons, dCall, dTup, dLst, pyAll, dSl, dNo, dPart, dAsg, dPar, dDig, dMix, dPutD, dPutM, dM1, dFor, dItL, dItU, dItS, dItR1, dItR2, dItSc, dItZip, dLc, dYes, gdName, wipeD, asP, asB, asI, asS, asL, asU, sliceD, fCmp, fAdd, startD, fI, true_and, and_true, List.getD_cons_zero, List.getD_cons_succ, List.set_cons_zero, List.set_cons_succ, List.map_cons, List.map_nil, List.length_cons, List.length_nil, Nat.zero_add, Nat.reduceAdd, Nat.reduceSub, List.replicate, List.cons_append, List.nil_append, if_true, if_false, reduceIte, Bool.false_eq_true, Bool.not_true, Bool.not_false]
        refine ⟨_, rfl, fEqW_of (x := Str.ofString "not") (b := true) (by decide +kernel) ?_⟩
        exact ⟨_, rfl, c, rfl, ok, hl, h⟩
      | gr b cs =>
        have ok2 : ∀ c ∈ cs, c.okn n := (show cs.length ≤ 100 ∧ ∀ c ∈ cs, c.okn n from ok).2
        clear ok
        obtain ⟨w1, w2, w3, w4⟩ := grW_f b
        simp only [Cnd.lvs] at h hl
        simp only [Cnd.d]
        simp only [dSeq, dNext, dBreak, dCont, dDrop, dRet, dRetN, dIfS, dSet, dB, dNotT, dAndT, dOrT, dNot, dAnd, dOr, dIf, dChain, dVar, dC, dOp, dUn, dNil, dCons, dCall, dTup, dLst, pyAll, dSl, dNo, dPart, dAsg, dPar, dDig, dMix, dPutD, dPutM, dM1, dFor, dItL, dItU, dItS, dItR1, dItR2, dItSc, dItZip, dLc, dYes, gdName, wipeD, asP, asB, asI, asS, asL, asU, sliceD, fCmp, fAdd, startD, fI, true_and, and_true, List.getD_cons_zero, List.getD_cons_succ, List.set_cons_zero, List.set_cons_succ, List.map_cons, List.map_nil, List.length_cons, List.length_nil, Nat.zero_add, Nat.reduceAdd, Nat.reduceSub, List.replicate, List.cons_append, List.nil_append, if_true, if_false, reduceIte, Bool.false_eq_true, Bool.not_true, Bool.not_false]
        refine ⟨_, rfl, fEqW_of (x := grW b) (b := false) w1 ?_⟩
        refine ⟨_, rfl, (show 2 ≤ sizeLine by decide), ["all", "any"], rfl, ?_⟩
        rw [show inW (.str (grW b)) [Str.ofString "all", Str.ofString "any"] = true from w2]
        have key : ∀ (s0 : Sl) (E : DE) (cs : List Cnd) (pre : List Lf) (s2 : Sl), (∀ xs s2, R (.p (.list xs)) → E.nx [s0, .v (.p (.list xs)), s2]) → (∀ c ∈ cs, c.okn n) → (pre ++ Cnd.lvsA cs).length ≤ 60 → R (.p (.list ((pre ++ Cnd.lvsA cs).map encL))) →
            forL E (gdName 2) (dSet 1 (dOp fAdd (dVar 1) (dCall (gSng n) (dCons (dVar 2) dNil)))) (Cnd.ds cs) [s0, .v (.p (.list (pre.map encL))), s2] := fun s0 E cs => by
          induction cs generalizing E with
          | nil =>
            intro pre s2 hE _ _ h
            simp only [Cnd.lvsA, List.append_nil] at h
            exact hE _ _ h
          | cons c cs ihc =>
            intro pre s2 hE okc hl h
            simp only [Cnd.lvsA, List.length_append] at hl
            rw [show pre ++ Cnd.lvsA (c :: cs) = (pre ++ c.lvs) ++ Cnd.lvsA cs by simp only [Cnd.lvsA, List.append_assoc]] at h
            refine ⟨c, rfl, okc c List.mem_cons_self, by omega, ?_, ?_⟩
            · rw [List.length_map, List.length_map]
              exact Nat.le_trans (show pre.length + c.lvs.length ≤ 60 by omega) (by decide)
            · show forL E _ _ (Cnd.ds cs) [s0, .v (.p (.list (pre.map encL ++ c.lvs.map encL))), .v (.p c.d)]
              rw [← List.map_append]
              exact ihc E (pre ++ c.lvs) _ hE (fun c m => okc c (List.mem_cons_of_mem _ m)) (by rw [List.length_append, List.length_append]; omega) h
        exact ⟨(show 0 ≤ sizeLine by decide), _, rfl, key _ _ cs [] _ (fun xs s2 z => z) ok2 (by rw [List.nil_append]; exact hl) (by rw [List.nil_append]; exact h)⟩⟩).mono (by omega)
theorem ok_w_typed_right (T : Tx K mg) {k : Nat} (hk : 10 ≤ k) : FnG P w K mg base CX0 k T.a_w_typed_right T.d_w_typed_right [] (spD ⟨K, P, w⟩ gTyp) :=
  (okB T.F_w_typed_right sc_w_typed_right (fun ds R h => by obtain ⟨rfl, _⟩ := h; rfl) fun cdv A gd outer s H E hr => ⟨_, (dss_cons (ds_set (i := 0) sc_w_typed_right.nd rfl (by first | exact Or.inl rfl | exact Or.inr rfl) (de_tup (da_cons de_str (da_cons (de_tup (da_cons (de_tup (da_cons de_str (da_cons (de_tup (da_cons de_str (da_cons de_str da_nil))) da_nil))) (da_cons (de_tup (da_cons de_str (da_cons de_str da_nil))) (da_cons (de_tup (da_cons de_str (da_cons de_str da_nil))) (da_cons (de_tup (da_cons de_str (da_cons (de_tup (da_cons de_str da_nil)) da_nil))) da_nil))))) da_nil))))
    (dss_cons (ds_if (dw_or (dt_cmp (od_neQ hr.units) (de_F (de_callF (ok_names_of T (k := 9) (by decide)) gd hr (by rfl) T.m_names_of T.F_names_of.kp T.b_names_of pass0 (da_cons (dv 0) da_nil))) (de_lst (da_cons de_str (da_cons de_str (da_cons de_str da_nil))))) (dw_or1 (dt_cmp (od_neQ hr.units) (de_F (de_callF (ok_marks_of T (k := 9) (by decide)) gd hr (by rfl) T.m_marks_of T.F_marks_of.kp T.b_marks_of pass0 (da_cons (dv 0) da_nil))) (de_lst (da_cons de_str (da_cons de_str da_nil)))))).pt (dss_one (ds_ret de_bl)) dss_nil)
    (dss_cons (ds_set (i := 1) sc_w_typed_right.nd rfl (by first | exact Or.inl rfl | exact Or.inr rfl) (de_tup (da_cons de_str (da_cons de_str (da_cons de_str (da_cons (de_tup da_nil) da_nil))))))
    (dss_cons (ds_set (i := 2) sc_w_typed_right.nd rfl (by first | exact Or.inl rfl | exact Or.inr rfl) (de_callTy cd_tuple (by rfl) T.n_tuple bt_tuple (da_cons (de_lc (own := [("sign", 3)]) rfl sc_w_typed_right.nd (di_str de_str) (blkOk_by (N := ["wide", "letter", "eight", "sign", "at", "page", "nots", "one", "found"]) (own := [("sign", 3)]) (sc := defScope s_w_typed_right) (by decide +kernel)) (fun _ _ _ _ _ => (dg_name (i := 3) (by decide) sc_w_typed_right.nd rfl (by first | exact Or.inl rfl | exact Or.inr rfl))) (fun _ _ _ _ _ => dts_nil) (fun _ _ _ _ _ => (de_tup (da_cons de_str (da_cons (dv 3) da_nil))))) da_nil)))
    (dss_cons (ds_for (vs := [4, 3]) PassesOwn.never rfl (di_enumS (by rfl) T.n_enumerate (da_cons de_str da_nil)) (dg_tup (n := 2) rfl (dgs_cons (dg_name (i := 4) (by decide) sc_w_typed_right.nd rfl (by first | exact Or.inl rfl | exact Or.inr rfl)) (dgs_cons (dg_name (i := 3) (by decide) sc_w_typed_right.nd rfl (by first | exact Or.inl rfl | exact Or.inr rfl)) dgs_nil))) (dss_cons (ds_set (i := 5) sc_w_typed_right.nd rfl (by first | exact Or.inl rfl | exact Or.inr rfl) (de_tup (da_cons de_str (da_cons de_str (da_cons (de_op od_add (dv 3) de_str) (da_cons (de_tup da_nil) da_nil))))))
    (dss_cons (ds_if (dw_or (dt_not (dt_val (de_call (ok_holds T 4 (k := 9) (by decide)) gd hr (by rfl) T.m_holds T.F_holds.kp T.b_holds pass0 (da_cons (de_tup (da_cons de_str (da_cons (dv 2) da_nil))) (da_cons (dv 5) da_nil))))) (dw_or1 (dt_val (de_call (ok_holds T 4 (k := 9) (by decide)) gd hr (by rfl) T.m_holds T.F_holds.kp T.b_holds pass0 (da_cons (de_tup (da_cons de_str (da_cons (dv 2) da_nil))) (da_cons (dv 5) da_nil)))))).pt (dss_one (ds_ret de_bl)) dss_nil)
    (dss_cons (ds_set (i := 6) sc_w_typed_right.nd rfl (by first | exact Or.inl rfl | exact Or.inr rfl) (de_op od_add (de_callTy cd_tuple (by rfl) T.n_tuple bt_tuple (da_cons (de_lc (own := [("one", 7)]) rfl sc_w_typed_right.nd (di_tup (de_op od_add (de_slice (dv 2) do_none (do_some (dv 4))) (de_slice (dv 2) (do_some (de_op od_add (dv 4) de_int)) do_none))) (blkOk_by (N := ["wide", "letter", "eight", "sign", "at", "page", "nots", "one", "found"]) (own := [("one", 7)]) (sc := defScope s_w_typed_right) (by decide +kernel)) (fun _ _ _ _ _ => (dg_name (i := 7) (by decide) sc_w_typed_right.nd rfl (by first | exact Or.inl rfl | exact Or.inr rfl))) (fun _ _ _ _ _ => dts_nil) (fun _ _ _ _ _ => (de_tup (da_cons de_str (da_cons (dv 7) da_nil))))) da_nil)) (de_tup (da_cons (de_tup (da_cons de_str (da_cons (de_ix (dv 2) (dv 4)) da_nil))) da_nil))))
    (dss_one (ds_if (dw_or (dt_val (de_call (ok_holds T 4 (k := 9) (by decide)) gd hr (by rfl) T.m_holds T.F_holds.kp T.b_holds pass0 (da_cons (de_tup (da_cons de_str (da_cons (dv 6) da_nil))) (da_cons (dv 5) da_nil)))) (dw_or1 (dt_not (dt_val (de_call (ok_holds T 4 (k := 9) (by decide)) gd hr (by rfl) T.m_holds T.F_holds.kp T.b_holds pass0 (da_cons (de_tup (da_cons de_str (da_cons (de_slice (dv 6) do_none (do_some (de_un ud_neg de_int))) da_nil))) (da_cons (dv 5) da_nil))))))).pt (dss_one (ds_ret de_bl)) dss_nil))))))
    (dss_cons (ds_if (dt_cmp (od_neQ hr.units) (de_F (de_callF (ok_tests_of T (k := 9) (by decide)) gd hr (by rfl) T.m_tests_of T.F_tests_of.kp T.b_tests_of pass0 (da_cons (de_tup (da_cons de_str (da_cons (de_revU (dv 2) (do_some (de_un ud_neg de_int))) da_nil))) da_nil))) (de_callTy cd_list (by rfl) T.n_list bt_list (da_cons (dv 2) da_nil))) (dss_one (ds_ret de_bl)) dss_nil)
    (dss_cons (ds_set (i := 8) sc_w_typed_right.nd rfl (by first | exact Or.inl rfl | exact Or.inr rfl) (de_lst (da_cons (de_call (ok_holds T 4 (k := 9) (by decide)) gd hr (by rfl) T.m_holds T.F_holds.kp T.b_holds pass0 (da_cons (de_tup (da_cons de_str (da_cons (de_tup da_nil) da_nil))) (da_cons (dv 1) da_nil))) (da_cons (de_call (ok_holds T 4 (k := 9) (by decide)) gd hr (by rfl) T.m_holds T.F_holds.kp T.b_holds pass0 (da_cons (de_tup (da_cons de_str (da_cons (de_tup da_nil) da_nil))) (da_cons (dv 1) da_nil))) (da_cons (de_call (ok_holds T 4 (k := 9) (by decide)) gd hr (by rfl) T.m_holds T.F_holds.kp T.b_holds pass0 (da_cons (de_tup (da_cons de_str (da_cons de_str da_nil))) (da_cons (dv 1) da_nil))) da_nil)))))
    (dss_one (ds_ret (de_cmp (od_eqQ hr.units) (de_callB (cd_repr gd hr) (by rfl) T.n_repr bt_repr (da_cons (dv 8) da_nil)) (de_callB (cd_repr gd hr) (by rfl) T.n_repr bt_repr (da_cons (de_lst (da_cons de_bl (da_cons de_bl (da_cons de_bl da_nil)))) da_nil)))))))))))), fun ds R h => by
      obtain ⟨rfl, h⟩ := h
      refine seq_mid (I := T0) (fun E1 _ n1 => ?_) (fun δ1 h1 => ?_)
      · exact ⟨by decide, by decide, by decide, by decide, by decide, by decide, by decide, by decide, n1 _ ⟨_, _, _, _, _, _, _, _, rfl⟩⟩
      obtain ⟨y1, y2, y3, y4, y5, y6, y7, y8, ye⟩ := h1
      subst ye
      have wok : wideC.okn 4 := gr_ok (by decide) fun c hc => by
        rcases List.mem_cons.mp hc with e | hc
        · rw [e]; exact trivial
        rcases List.mem_cons.mp hc with e | hc
        · rw [e]; exact trivial
        rcases List.mem_cons.mp hc with e | hc
        · rw [e]; exact trivial
        · rw [List.mem_singleton.mp hc]; exact trivial
      refine seq_mid (I := fun δ => ∃ y0 y1 y2 y3 y4 y5 y6 y7 y8 : Sl, δ = [y0, y1, y2, y3, y4, y5, y6, y7, y8]) (fun E1 _ n1 => ?_) (fun δ1 h1 => ?_)
      · refine ⟨wideC, rfl, wok, by decide +kernel, by decide +kernel, fun zs zr zm => ?_⟩
        have ez : zs = [Str.ofString "aaa", Str.ofString "abe", Str.ofString "b"] := risS_one zr (risB_iff.mp (by decide +kernel)) fun x => (zm x).trans (mem_both (by decide +kernel) x)
        subst ez
        refine ⟨by decide, fNe_strs (ks := [Str.ofString "aaa", Str.ofString "abe", Str.ofString "b"]) ?_⟩
        refine ⟨wideC, rfl, wok, by decide +kernel, fun zs zr zm => ?_⟩
        have ez : zs = [Str.ofString "k", Str.ofString "seen"] := risS_one zr (risB_iff.mp (by decide +kernel)) fun x => (zm x).trans (mem_both (by decide +kernel) x)
        subst ez
        refine ⟨by decide, fNe_strs (ks := [Str.ofString "k", Str.ofString "seen"]) ?_⟩
        exact n1 _ ⟨_, _, _, _, _, _, _, _, _, rfl⟩
      obtain ⟨y0, y1, y2, y3, y4, y5, y6, y7, y8, ye⟩ := h1
      subst ye
      clear wok
      refine seq_mid (I := T1) (fun E1 _ n1 => ⟨by decide, by decide, n1 _ ⟨_, _, _, _, _, _, _, _, rfl⟩⟩) (fun δ1 h1 => ?_)
      obtain ⟨y0, y2, y3, y4, y5, y6, y7, y8, ye⟩ := h1
      subst ye
      refine seq_mid (I := T2) (fun E1 _ n1 => ?_) (fun δ1 h1 => ?_)
      · refine ⟨by rw [signs_len]; decide +kernel, lc_map (fun d => .tuple [.str (Str.ofString "begins"), d]) (fun d hd K1 hk => ?_) ?_⟩
        · simp only [dSeq, dNext, dBreak, dCont, dDrop, dRet, dRetN, dIfS, dSet, dB, dNotT, dAndT, dOrT, dNot, dAnd, dOr, dIf, dChain, dVar, dC, dOp, dUn, dNil, dCons, dCall, dTup, dLst, pyAll, dSl, dNo, dPart, dAsg, dPar, dDig, dMix, dPutD, dPutM, dM1, dFor, dItL, dItU, dItS, dItR1, dItR2, dItSc, dItZip, dLc, dYes, gdName, wipeD, asP, asB, asI, asS, asL, asU, sliceD, fCmp, fAdd, startD, fI, true_and, and_true, List.getD_cons_zero, List.getD_cons_succ, List.set_cons_zero, List.set_cons_succ, List.map_cons, List.map_nil, List.length_cons, List.length_nil, Nat.zero_add, Nat.reduceAdd, Nat.reduceSub, List.replicate, List.cons_append, List.nil_append, if_true, if_false, reduceIte, Bool.false_eq_true, Bool.not_true, Bool.not_false]
          obtain ⟨c, hc, rfl⟩ := mem_signs hd
          exact ⟨by decide, hk⟩
        · refine ⟨_, .inl rfl, ?_⟩
          have e : (signsD (Str.ofString "stuvwxyz")).map (fun d => PyData.tuple [.str (Str.ofString "begins"), d]) = E8.map Cnd.d := by
            unfold signsD E8 sgsN
            rw [List.map_map, List.map_map]
            rfl
          rw [e]
          exact n1 _ ⟨_, _, _, _, _, _, _, rfl⟩
      obtain ⟨y0, y3, y4, y5, y6, y7, y8, ye⟩ := h1
      subst ye
      refine seq_mid (I := T2) (fun E1 _ n1 => ?_) (fun δ1 h1 => ?_)
      · refine ⟨_, rfl, for_inv T2 _ _ ⟨_, _, _, _, _, _, _, rfl⟩ (fun d hd δ2 h2 E2 hrt hnx _ _ => ?_) n1⟩
        obtain ⟨y0, y3, y4, y5, y6, y7, y8, ye⟩ := h2
        subst ye
        obtain ⟨i, hi, rfl⟩ := enum_at hd
        clear hd hrt n1
        obtain ⟨f1, f2, f3, f4⟩ := holds8_at hi
        have lu : (pageU i).length ≤ 4000 := by
          unfold pageU
          rw [len_app]
          exact Nat.le_trans (show 1 + 1 ≤ 4000 by decide) (Nat.le_refl _)
        have c1 : cutD (E8.map Cnd.d) none (some (i : Int)) = (E8.take i).map Cnd.d := by rw [cut_to, List.map_take]
        have c2 : cutD (E8.map Cnd.d) (some ((i : Int) + 1)) none = (E8.drop (i + 1)).map Cnd.d := by rw [show (i : Int) + 1 = ((i + 1 : Nat) : Int) by omega, cut_from, List.map_drop]
        have la := notsA_len i
        refine ⟨rfl, _, _, rfl, _, _, rfl, rfl, ?_⟩
        refine seq_mid (I := T5 i) (fun E3 _ n3 => ⟨(show 1 + 1 ≤ sizeLine by decide), by decide, (show 4 ≤ sizeLine by decide), n3 _ ⟨_, _, _, _, rfl⟩⟩) (fun δ3 h3 => ?_)
        obtain ⟨y0, y6, y7, y8, ye⟩ := h3
        subst ye
        refine seq_mid (I := T5 i) (fun E3 _ n3 => ?_) (fun δ3 h3 => ?_)
        · refine ⟨by decide, .gr false E8, _, _, pageU i, [], by rw [gr_d]; rfl, gr_ok (by rw [E8_len]; decide) (fun c hc => E8_ok hc), lu, ?_⟩
          rw [f1]
          refine ⟨by decide, .gr true E8, _, _, pageU i, [], by rw [gr_d]; rfl, gr_ok (by rw [E8_len]; decide) (fun c hc => E8_ok hc), lu, ?_⟩
          rw [f2]
          exact n3 _ ⟨_, _, _, _, rfl⟩
        obtain ⟨y0, y6, y7, y8, ye⟩ := h3
        subst ye
        refine seq_mid (I := T6 i) (fun E3 _ n3 => ?_) (fun δ3 h3 => ?_)
        · simp only [dSeq, dNext, dBreak, dCont, dDrop, dRet, dRetN, dIfS, dSet, dB, dNotT, dAndT, dOrT, dNot, dAnd, dOr, dIf, dChain, dVar, dC, dOp, dUn, dNil, dCons, dCall, dTup, dLst, pyAll, dSl, dNo, dPart, dAsg, dPar, dDig, dMix, dPutD, dPutM, dM1, dFor, dItL, dItU, dItS, dItR1, dItR2, dItSc, dItZip, dLc, dYes, gdName, wipeD, asP, asB, asI, asS, asL, asU, sliceD, fCmp, fAdd, startD, fI, true_and, and_true, List.getD_cons_zero, List.getD_cons_succ, List.set_cons_zero, List.set_cons_succ, List.map_cons, List.map_nil, List.length_cons, List.length_nil, Nat.zero_add, Nat.reduceAdd, Nat.reduceSub, List.replicate, List.cons_append, List.nil_append, if_true, if_false, reduceIte, Bool.false_eq_true, Bool.not_true, Bool.not_false]
          rw [c1, c2]
          have l1 : ((E8.take i).map Cnd.d).length + ((E8.drop (i + 1)).map Cnd.d).length ≤ 16 := by
            rw [List.length_map, List.length_map, List.length_take, List.length_drop, E8_len]
            omega
          refine ⟨Nat.le_trans l1 (by decide), by rw [List.length_append]; exact Nat.le_trans l1 (by decide), lc_map (fun d => .tuple [.str (Str.ofString "not"), d]) (fun d hd K1 hk => ?_) ?_⟩
          · simp only [dSeq, dNext, dBreak, dCont, dDrop, dRet, dRetN, dIfS, dSet, dB, dNotT, dAndT, dOrT, dNot, dAnd, dOr, dIf, dChain, dVar, dC, dOp, dUn, dNil, dCons, dCall, dTup, dLst, pyAll, dSl, dNo, dPart, dAsg, dPar, dDig, dMix, dPutD, dPutM, dM1, dFor, dItL, dItU, dItS, dItR1, dItR2, dItSc, dItZip, dLc, dYes, gdName, wipeD, asP, asB, asI, asS, asL, asU, sliceD, fCmp, fAdd, startD, fI, true_and, and_true, List.getD_cons_zero, List.getD_cons_succ, List.set_cons_zero, List.set_cons_succ, List.map_cons, List.map_nil, List.length_cons, List.length_nil, Nat.zero_add, Nat.reduceAdd, Nat.reduceSub, List.replicate, List.cons_append, List.nil_append, if_true, if_false, reduceIte, Bool.false_eq_true, Bool.not_true, Bool.not_false]
            exact ⟨(show 2 ≤ sizeLine by decide), hk⟩
          · refine ⟨_, .inl rfl, (E8.getD i (begC (Str.ofString ""))).d, ?_, (show 2 ≤ sizeLine by decide), (show 1 ≤ sizeLine by decide), ?_, ?_⟩
            · refine atI_nat ?_
              rw [List.getElem?_map, List.getD_eq_getElem?_getD, List.getElem?_eq_getElem (by rw [E8_len]; exact hi)]
              rfl
            · rw [List.length_map, List.length_append]
              exact Nat.le_trans (Nat.add_le_add_right l1 1) (by decide)
            · have e : (((E8.take i).map Cnd.d ++ (E8.drop (i + 1)).map Cnd.d).map fun d => PyData.tuple [.str (Str.ofString "not"), d]) ++ [PyData.tuple [.str (Str.ofString "not"), (E8.getD i (begC (Str.ofString ""))).d]] = (notsC i).map Cnd.d := by
                unfold notsC notsA
                have ef : (Cnd.d ∘ Cnd.nt) = (fun d => PyData.tuple [.str (Str.ofString "not"), d]) ∘ Cnd.d := funext nt_d
                simp only [List.map_append, List.map_map, List.map_cons, List.map_nil, nt_d, ef]
              rw [e]
              exact n3 _ ⟨_, _, _, rfl⟩
        obtain ⟨y0, y7, y8, ye⟩ := h3
        subst ye
        have lc : (notsC i).length ≤ 100 := by
          unfold notsC
          rw [List.length_append, List.length_singleton]
          omega
        have c3 : cutD ((notsC i).map Cnd.d) none (some (-1)) = (notsA i).map Cnd.d := by
          unfold cutD notsC
          rw [HT.sIx_none, List.drop_zero, Nat.sub_zero, List.length_map, List.length_append, List.length_singleton, List.map_append]
          rw [sIx_m1, ← List.length_map (f := Cnd.d)]
          exact List.take_left
        refine ⟨(show 2 ≤ sizeLine by decide), .gr true (notsC i), _, _, pageU i, [], by rw [gr_d]; rfl, gr_ok lc (fun c hc => by obtain ⟨k, rfl⟩ := notsC_in hi hc; exact nt_ok k), lu, ?_⟩
        rw [f3]
        simp only [dSeq, dNext, dBreak, dCont, dDrop, dRet, dRetN, dIfS, dSet, dB, dNotT, dAndT, dOrT, dNot, dAnd, dOr, dIf, dChain, dVar, dC, dOp, dUn, dNil, dCons, dCall, dTup, dLst, pyAll, dSl, dNo, dPart, dAsg, dPar, dDig, dMix, dPutD, dPutM, dM1, dFor, dItL, dItU, dItS, dItR1, dItR2, dItSc, dItZip, dLc, dYes, gdName, wipeD, asP, asB, asI, asS, asL, asU, sliceD, fCmp, fAdd, startD, fI, true_and, and_true, List.getD_cons_zero, List.getD_cons_succ, List.set_cons_zero, List.set_cons_succ, List.map_cons, List.map_nil, List.length_cons, List.length_nil, Nat.zero_add, Nat.reduceAdd, Nat.reduceSub, List.replicate, List.cons_append, List.nil_append, if_true, if_false, reduceIte, Bool.false_eq_true, Bool.not_true, Bool.not_false]
        rw [c3]
        refine ⟨(show 2 ≤ sizeLine by decide), .gr true (notsA i), _, _, pageU i, [], by rw [gr_d]; rfl, gr_ok (by omega) (fun c hc => by obtain ⟨k, rfl⟩ := notsA_in hc; exact nt_ok k), lu, ?_⟩
        rw [f4]
        exact hnx _ ⟨_, _, _, _, _, _, _, rfl⟩
      obtain ⟨y0, y3, y4, y5, y6, y7, y8, ye⟩ := h1
      subst ye
      have rv : (E8.map Cnd.d).reverse = E8.reverse.map Cnd.d := (List.map_reverse).symm
      refine seq_mid (I := T2) (fun E1 _ n1 => ?_) (fun δ1 h1 => ?_)
      · refine ⟨rfl, ?_⟩
        rw [rv]
        refine ⟨(show 2 ≤ sizeLine by decide), .gr true E8.reverse, by rw [gr_d]; rfl, gr_ok (by rw [List.length_reverse, E8_len]; decide) (fun c hc => E8_ok (List.mem_reverse.mp hc)), by decide +kernel, fun qs qa qb => ?_⟩
        have eq : qs = Q8 := ltP_one qa (by decide +kernel) fun x => (qb x).trans (mem_both (by decide +kernel) x)
        subst eq
        refine ⟨_, .inr rfl, ?_⟩
        have e : Q8.map encP = E8.map Cnd.d := by
          unfold Q8 E8
          rw [List.map_map, List.map_map]
          refine List.map_congr_left fun c _ => ?_
          show encP (Str.ofString "begins", ⟨#[c]⟩) = (begC ⟨#[c]⟩).d
          unfold begC
          simp only [Cnd.d]
          rfl
        rw [← e]
        refine ⟨by decide +kernel, by decide +kernel, by decide +kernel, ?_⟩
        rw [if_pos rfl, show PyData.eqv (.list (Q8.map encP)) (.list (Q8.map encP)) = true by decide +kernel]
        rw [e]
        exact n1 _ ⟨_, _, _, _, _, _, _, rfl⟩
      obtain ⟨y0, y3, y4, y5, y6, y7, y8, ye⟩ := h1
      subst ye
      clear rv
      refine seq_mid (I := T8) (fun E1 _ n1 => ?_) (fun δ1 h1 => ?_)
      · refine ⟨by decide, by decide, .gr true [], _, _, Str.ofString "", [], by rw [gr_d]; rfl, gr_ok (by decide) (fun c hc => absurd hc List.not_mem_nil), by decide +kernel, ?_⟩
        refine ⟨by decide, by decide, .gr false [], _, _, Str.ofString "", [], by rw [gr_d]; rfl, gr_ok (by decide) (fun c hc => absurd hc List.not_mem_nil), by decide +kernel, ?_⟩
        refine ⟨by decide, .lf (.txt (Str.ofString "is") (Str.ofString "")), _, _, Str.ofString "", [], by simp only [Cnd.d]; rfl, ⟨by decide +kernel, by decide +kernel⟩, by decide +kernel, ?_⟩
        rw [show Cnd.hold (Str.ofString "ann") (Str.ofString "") [] (.gr true []) = true by decide +kernel, show Cnd.hold (Str.ofString "ann") (Str.ofString "") [] (.gr false []) = false by decide +kernel, show Cnd.hold (Str.ofString "ann") (Str.ofString "") [] (.lf (.txt (Str.ofString "is") (Str.ofString ""))) = true by decide +kernel]
        exact ⟨by decide, n1 _ ⟨_, _, _, _, _, _, _, _, rfl⟩⟩
      obtain ⟨y0, y1, y2, y3, y4, y5, y6, y7, ye⟩ := h1
      subst ye
      refine ⟨_, rfl, shows3, by decide, _, rfl, shows3, fEqQ_s ?_⟩
      rw [decide_eq_true rfl]
      exact h⟩).mono hk
theorem law_s0 (T : Tx K mg) {fa : Addr} {fd : FuncData} (F : Fun K "law" "law" s_law fa fd) (cdv : Value) (A : Around) (gd : A.guards = some []) (outer : List PySem.Env) (s : Shared) (H : Hp) (E : XK) (hr : Room 10 (A.deeper (envOfC "law" (defScope s_law) s.heap.objs.size fa cdv))) : ∃ t, PS (cxOf CX0 P w K mg base ["script", "start", "well", "turn", "one", "parts", "tests", "part", "marks", "names", "due", "again", "told", "found", "look", "message", "text", "some"] "law" (defScope s_law) fa cdv A outer s H E).nox ((defBody s_law).getD 0 (.Pass ⟨0, 0, 0, 0⟩)) (upS ⟨K, P, w⟩ t) ∧ ∀ (ns : List Int), ns.length ≤ 63 → (∀ n ∈ ns, Bd 1048576 n) → ∀ (D : DE) (δ : Dn), JL ns δ → D.rt (.p (.bool true)) → (∀ δ', JL ns δ' → D.nx δ') → t D δ :=
  ⟨_, (ds_for (vs := [1]) PassesOwn.never rfl (di_rng1 (by rfl) T.n_range (da_cons (de_callB (cd_max rfl) (by rfl) T.n_max bt_max (da_cons de_int (da_cons (de_callB (cd_min rfl) (by rfl) T.n_min bt_min (da_cons de_int (da_cons (de_callB cd_lenS (by rfl) T.n_len bt_len (da_cons (dv 0) da_nil)) da_nil))) da_nil))) da_nil)) (dg_name (i := 1) (by decide) sc_law.nd rfl (by first | exact Or.inl rfl | exact Or.inr rfl)) (dss_cons (ds_set (i := 2) sc_law.nd rfl (by first | exact Or.inl rfl | exact Or.inr rfl) (de_call (ok_w_well T (k := 10) (by decide)) gd hr (by rfl) T.m_w_well T.F_w_well.kp T.b_w_well pass0 (da_cons (dv 0) (da_cons (dv 1) da_nil))))
    (dss_one (ds_for (vs := [3]) PassesOwn.never rfl (di_rng1 (by rfl) T.n_range (da_cons de_int da_nil)) (dg_name (i := 3) (by decide) sc_law.nd rfl (by first | exact Or.inl rfl | exact Or.inr rfl)) (dss_cons (ds_set (i := 4) sc_law.nd rfl (by first | exact Or.inl rfl | exact Or.inr rfl) (de_call (ok_w_condition T 3 (k := 10) (by decide)) gd hr (by rfl) T.m_w_condition T.F_w_condition.kp T.b_w_condition pass0 (da_cons (dv 2) (da_cons de_int da_nil))))
    (dss_cons (ds_set (i := 5) sc_law.nd rfl (by first | exact Or.inl rfl | exact Or.inr rfl) (de_call (ok_w_leaves T 4 (k := 10) (by decide)) gd hr (by rfl) T.m_w_leaves T.F_w_leaves.kp T.b_w_leaves pass0 (da_cons (dv 4) da_nil)))
    (dss_cons (ds_set (i := 6) sc_law.nd rfl (by first | exact Or.inl rfl | exact Or.inr rfl) (de_sortSet rfl (u64 hr) (de_lc (own := [("part", 7)]) rfl sc_law.nd (di_list (dv 5)) (blkOk_by (N := ["script", "start", "well", "turn", "one", "parts", "tests", "part", "marks", "names", "due", "again", "told", "found", "look", "message", "text", "some"]) (own := [("part", 7)]) (sc := defScope s_law) (by decide +kernel)) (fun _ _ _ _ _ => (dg_name (i := 7) (by decide) sc_law.nd rfl (by first | exact Or.inl rfl | exact Or.inr rfl))) (fun _ _ _ _ _ => (dts_one (dt_cmp (od_inW (u66 hr)) (de_ix (dv 7) de_int) (de_tup (da_cons de_str (da_cons de_str (da_cons de_str (da_cons de_str da_nil)))))))) (fun _ _ _ _ _ => (dv 7))) (by rfl) T.n_sorted (by rfl) T.n_set))
    (dss_cons (ds_set (i := 8) sc_law.nd rfl (by first | exact Or.inl rfl | exact Or.inr rfl) (de_callB (cd_sortK rfl hr) (by rfl) T.n_sorted bt_sorted (da_cons (de_callTy (cd_set rfl) (by rfl) T.n_set bt_set (da_cons (de_lc (own := [("part", 7)]) rfl sc_law.nd (di_list (dv 5)) (blkOk_by (N := ["script", "start", "well", "turn", "one", "parts", "tests", "part", "marks", "names", "due", "again", "told", "found", "look", "message", "text", "some"]) (own := [("part", 7)]) (sc := defScope s_law) (by decide +kernel)) (fun _ _ _ _ _ => (dg_name (i := 7) (by decide) sc_law.nd rfl (by first | exact Or.inl rfl | exact Or.inr rfl))) (fun _ _ _ _ _ => (dts_one (dt_cmp (od_eqW hr.units) (de_ix (dv 7) de_int) de_str))) (fun _ _ _ _ _ => (de_ix (dv 7) de_int))) da_nil)) da_nil)))
    (dss_cons (ds_set (i := 9) sc_law.nd rfl (by first | exact Or.inl rfl | exact Or.inr rfl) (de_lst da_nil))
    (dss_cons (ds_for (vs := [7]) PassesOwn.never rfl (di_list (dv 5)) (dg_name (i := 7) (by decide) sc_law.nd rfl (by first | exact Or.inl rfl | exact Or.inr rfl)) (dss_one (ds_if (dt_cmp (od_eqW hr.units) (de_ix (dv 7) de_int) de_str) (dss_one (ds_set (i := 9) sc_law.nd rfl (by first | exact Or.inl rfl | exact Or.inr rfl) (de_op od_add (dv 9) (de_callTy cd_list (by rfl) T.n_list bt_list (da_cons (de_ix (dv 7) de_int) da_nil))))) dss_nil)))
    (dss_cons (ds_set (i := 10) sc_law.nd rfl (by first | exact Or.inl rfl | exact Or.inr rfl) (de_lst (da_cons (dv 6) (da_cons (dv 8) (da_cons (de_callB (cd_sortK rfl hr) (by rfl) T.n_sorted bt_sorted (da_cons (de_callTy (cd_set rfl) (by rfl) T.n_set bt_set (da_cons (dv 9) da_nil)) da_nil)) da_nil)))))
    (dss_cons (ds_for (vs := [11]) PassesOwn.never rfl (di_rng1 (by rfl) T.n_range (da_cons de_int da_nil)) (dg_name (i := 11) (by decide) sc_law.nd rfl (by first | exact Or.inl rfl | exact Or.inr rfl)) (dss_told (i := 12) (f := 13) rfl PassesOwn.never sc_law.nd rfl (by first | exact Or.inl rfl | exact Or.inr rfl) rfl (by first | exact Or.inl rfl | exact Or.inr rfl) (by decide) (de_callF (ok_tests_of T (k := 10) (by decide)) gd hr (by rfl) T.m_tests_of T.F_tests_of.kp T.b_tests_of pass0 (da_cons (dv 4) da_nil)) (de_callF (ok_marks_of T (k := 10) (by decide)) gd hr (by rfl) T.m_marks_of T.F_marks_of.kp T.b_marks_of pass0 (da_cons (dv 4) da_nil)) (de_callF (ok_names_of T (k := 10) (by decide)) gd hr (by rfl) T.m_names_of T.F_names_of.kp T.b_names_of pass0 (da_cons (dv 4) da_nil)) (dt_cmp (od_neQ hr.units) (de_callB (cd_repr gd hr) (by rfl) T.n_repr bt_repr (da_cons (dv 12) da_nil)) (de_callB (cd_repr gd hr) (by rfl) T.n_repr bt_repr (da_cons (dv 10) da_nil))) (dss_one (ds_ret de_bl)) (pv 12) (ps_expr (pe_bm PySem.F.plainAttrs_list PySem.F.slot_list_append PySem.F.type_list_append mt_append (pv 13) (pa_cons pe_non pa_nil))) (pg_name sc_law.nd rfl (by first | exact Or.inl rfl | exact Or.inr rfl)) (by first | exact Or.inl rfl | exact Or.inr rfl)))
    (dss_one (ds_for (vs := [14]) PassesOwn.never rfl (di_rng1 (by rfl) T.n_range (da_cons de_int da_nil)) (dg_name (i := 14) (by decide) sc_law.nd rfl (by first | exact Or.inl rfl | exact Or.inr rfl)) (dss_cons (ds_set (i := 15) sc_law.nd rfl (by first | exact Or.inl rfl | exact Or.inr rfl) (de_call (ok_w_message T (k := 10) (by decide)) gd hr (by rfl) T.m_w_message T.F_w_message.kp T.b_w_message pass0 (da_cons (dv 2) da_nil)))
    (dss_cons (ds_if (dw_and (dt_cmp (od_neE hr.units0) (dv 6) (de_lst da_nil)) (dw_and1 (dt_cmp (od_eqQ hr.units) (de_call (ok_w_draw T (k := 10) (by decide)) gd hr (by rfl) T.m_w_draw T.F_w_draw.kp T.b_w_draw pass0 (da_cons (dv 2) (da_cons de_int da_nil))) de_int))).pt (dss_cons (ds_set (i := 16) sc_law.nd rfl (by first | exact Or.inl rfl | exact Or.inr rfl) (de_ix (de_call (ok_w_choose T (k := 10) (by decide)) gd hr (by rfl) T.m_w_choose T.F_w_choose.kp T.b_w_choose pass0 (da_cons (dv 2) (da_cons (dv 6) da_nil))) de_int))
    (dss_cons (ds_set (i := 17) sc_law.nd rfl (by first | exact Or.inl rfl | exact Or.inr rfl) (de_lst (da_cons (dv 16) (da_cons (de_op od_add de_str (dv 16)) (da_cons (de_op od_add (dv 16) de_str) (da_cons (de_slice (dv 16) (do_some de_int) do_none) (da_cons (de_slice (dv 16) do_none (do_some (de_un ud_neg de_int))) (da_cons (de_op od_add (de_op od_add de_str (dv 16)) de_str) (da_cons (de_op od_add (dv 16) (dv 16)) da_nil)))))))))
    (dss_one (ds_set (i := 15) sc_law.nd rfl (by first | exact Or.inl rfl | exact Or.inr rfl) (de_op od_add (de_op od_add (de_slice (dv 15) do_none (do_some de_int)) (de_tup (da_cons (de_call (ok_w_choose T (k := 10) (by decide)) gd hr (by rfl) T.m_w_choose T.F_w_choose.kp T.b_w_choose pass0 (da_cons (dv 2) (da_cons (dv 17) da_nil))) da_nil))) (de_slice (dv 15) (do_some de_int) do_none)))))) dss_nil)
    (dss_one (ds_if (dt_cmp (od_neQ hr.units) (de_callB (cd_repr gd hr) (by rfl) T.n_repr bt_repr (da_cons (de_call (ok_holds T 4 (k := 10) (by decide)) gd hr (by rfl) T.m_holds T.F_holds.kp T.b_holds pass0 (da_cons (dv 4) (da_cons (dv 15) da_nil))) da_nil)) (de_callB (cd_repr gd hr) (by rfl) T.n_repr bt_repr (da_cons (de_call (ok_w_holds T 4 (k := 10) (by decide)) gd hr (by rfl) T.m_w_holds T.F_w_holds.kp T.b_w_holds pass0 (da_cons (dv 4) (da_cons (dv 15) da_nil))) da_nil))) (dss_one (ds_ret de_bl)) dss_nil)))))))))))))))))), fun ns hn hb D δ hI hT hN => by
      obtain ⟨y1, y2, y3, y4, y5, y6, y7, y8, y9, y10, y11, y12, y13, y14, y15, y16, y17, ye⟩ := hI
      subst ye
      refine ⟨ns, rfl, _, _, rfl, _, _, rfl, _, rfl, by split <;> split <;> omega, by split <;> split <;> omega, for_inv (JL ns) _ _ ⟨_, _, _, _, _, _, _, _, _, _, _, _, _, _, _, _, _, rfl⟩ (fun d hd δ' hJ E' hrt hnx _ _ => ?_) hN⟩
      obtain ⟨y1, y2, y3, y4, y5, y6, y7, y8, y9, y10, y11, y12, y13, y14, y15, y16, y17, ye⟩ := hJ
      subst ye
      obtain ⟨k, hk, rfl⟩ := mem_rng hd
      have k5 : k ≤ 63 := by
        revert hk
        split <;> split <;> omega
      refine ⟨ns, k, by rw [Int.zero_add], hn, hb, k5, ⟨_, rfl, by decide, by decide, for_inv (JW ns) _ _ ⟨_, _, _, _, _, _, _, _, _, _, _, _, _, _, _, _, rfl⟩ (fun d2 hd2 δ2 hJ2 E2 hrt2 hnx2 _ _ => ?_) fun δ2 hJ2 => hnx _ (by
        obtain ⟨y1, y3, y4, y5, y6, y7, y8, y9, y10, y11, y12, y13, y14, y15, y16, y17, ye⟩ := hJ2
        subst ye
        exact ⟨_, _, _, _, _, _, _, _, _, _, _, _, _, _, _, _, _, rfl⟩)⟩⟩
      obtain ⟨y1, y3, y4, y5, y6, y7, y8, y9, y10, y11, y12, y13, y14, y15, y16, y17, ye⟩ := hJ2
      subst ye
      have hrt3 : E2.rt = D.rt := hrt2.trans hrt
      clear hN hnx hrt hrt2 hd hd2 hk k5
      -- one
      unfold gdName
      refine seq_mid (I := fun δ => ∃ c, CF 3 c ∧ JC ns c δ) (fun E3 r3 n3 => ⟨rfl, fun c hc => n3 _ ⟨c, hc, ⟨_, _, _, _, _, _, _, _, _, _, _, _, _, _, _, rfl⟩⟩⟩) (fun δ3 h3 => ?_)
      obtain ⟨c, cf, hJ3⟩ := h3
      obtain ⟨y1, y3, y5, y6, y7, y8, y9, y10, y11, y12, y13, y14, y15, y16, y17, ye⟩ := hJ3
      subst ye
      -- parts
      refine seq_mid (I := JP ns c) (fun E3 r3 n3 => ⟨c, rfl, cf.ok, Nat.le_trans cf.l27 (by decide), n3 _ ⟨_, _, _, _, _, _, _, _, _, _, _, _, _, _, rfl⟩⟩) (fun δ3 hJ3 => ?_)
      obtain ⟨y1, y3, y6, y7, y8, y9, y10, y11, y12, y13, y14, y15, y16, y17, ye⟩ := hJ3
      subst ye
      -- tests
      refine seq_mid (I := fun δ => ∃ qs : List (Str × Str), qs.Pairwise ltP ∧ (∀ x, x ∈ qs ↔ x ∈ tstL c.lvs) ∧ JT ns c qs δ) (fun E3 r3 n3 => ?_) (fun δ3 h3 => ?_)
      · refine ⟨by rw [List.length_map]; exact Nat.le_trans cf.l27 (by decide), lc_lf tD c.lvs [] (fun l ml K1 K2 hk => ?_) ?_⟩
        · have fl := cf.fine l ml
          simp only [dSeq, dNext, dBreak, dCont, dDrop, dRet, dRetN, dIfS, dSet, dB, dNotT, dAndT, dOrT, dNot, dAnd, dOr, dIf, dChain, dVar, dC, dOp, dUn, dNil, dCons, dCall, dTup, dLst, pyAll, dSl, dNo, dPart, dAsg, dPar, dDig, dMix, dPutD, dPutM, dM1, dFor, dItL, dItU, dItS, dItR1, dItR2, dItSc, dItZip, dLc, dYes, gdName, wipeD, asP, asB, asI, asS, asL, asU, sliceD, fCmp, fAdd, startD, fI, true_and, and_true, List.getD_cons_zero, List.getD_cons_succ, List.set_cons_zero, List.set_cons_succ, List.map_cons, List.map_nil, List.length_cons, List.length_nil, Nat.zero_add, Nat.reduceAdd, Nat.reduceSub, List.replicate, List.cons_append, List.nil_append, if_true, if_false, reduceIte, Bool.false_eq_true, Bool.not_true, Bool.not_false]
          refine ⟨_, rfl, ?_⟩
          refine ⟨(show 4 ≤ sizeLine by decide), ["contains", "begins", "ends", "is"], rfl, ?_⟩
          cases l with
          | frm n0 =>
            rw [show inW (.str (Lf.frm n0).w) [Str.ofString "contains", Str.ofString "begins", Str.ofString "ends", Str.ofString "is"] = false from (show inW (.str (Str.ofString "from")) ["contains", "begins", "ends", "is"] = false by decide +kernel)]
            exact hk
          | mrk m =>
            rw [show inW (.str (Lf.mrk m).w) [Str.ofString "contains", Str.ofString "begins", Str.ofString "ends", Str.ofString "is"] = false from (show inW (.str (Str.ofString "marked")) ["contains", "begins", "ends", "is"] = false by decide +kernel)]
            exact hk
          | txt w t =>
            rw [show inW (.str (Lf.txt w t).w) [Str.ofString "contains", Str.ofString "begins", Str.ofString "ends", Str.ofString "is"] = true from fl.1]
            exact hk
        · rw [List.nil_append, tD_all]
          exact ⟨tstL c.lvs, rfl, Nat.lt_of_le_of_lt (Nat.le_trans (tstL_len _) cf.l27) (by decide), fun qs so mem => n3 _ ⟨qs, so, mem, ⟨_, _, _, _, _, _, _, _, _, _, _, _, _, rfl⟩⟩⟩
      obtain ⟨qs, q1, q2, hJ3⟩ := h3
      obtain ⟨y1, y3, y7, y8, y9, y10, y11, y12, y13, y14, y15, y16, y17, ye⟩ := hJ3
      subst ye
      -- marks
      refine seq_mid (I := fun δ => ∃ ms : List Str, RisS ms ∧ (∀ x, x ∈ ms ↔ x ∈ mrkL c.lvs) ∧ JM ns c qs ms δ) (fun E3 r3 n3 => ?_) (fun δ3 h3 => ?_)
      · refine ⟨by rw [List.length_map]; exact Nat.le_trans cf.l27 (by decide), lc_lf mD c.lvs [] (fun l ml K1 K2 hk => ?_) ?_⟩
        · have fl := cf.fine l ml
          simp only [dSeq, dNext, dBreak, dCont, dDrop, dRet, dRetN, dIfS, dSet, dB, dNotT, dAndT, dOrT, dNot, dAnd, dOr, dIf, dChain, dVar, dC, dOp, dUn, dNil, dCons, dCall, dTup, dLst, pyAll, dSl, dNo, dPart, dAsg, dPar, dDig, dMix, dPutD, dPutM, dM1, dFor, dItL, dItU, dItS, dItR1, dItR2, dItSc, dItZip, dLc, dYes, gdName, wipeD, asP, asB, asI, asS, asL, asU, sliceD, fCmp, fAdd, startD, fI, true_and, and_true, List.getD_cons_zero, List.getD_cons_succ, List.set_cons_zero, List.set_cons_succ, List.map_cons, List.map_nil, List.length_cons, List.length_nil, Nat.zero_add, Nat.reduceAdd, Nat.reduceSub, List.replicate, List.cons_append, List.nil_append, if_true, if_false, reduceIte, Bool.false_eq_true, Bool.not_true, Bool.not_false]
          refine ⟨_, rfl, ?_⟩
          cases l with
          | frm n0 => exact fEqW_of (x := Str.ofString "from") (b := false) (by decide +kernel) hk
          | mrk m => exact fEqW_of (x := Str.ofString "marked") (b := true) (by decide +kernel) ⟨_, rfl, hk⟩
          | txt w t => exact fEqW_of (x := w) (b := false) (txt_w fl.1).2.1 hk
        · rw [mD_all]
          exact ⟨_, (mrkL c.lvs).map Sum.inr, rfl, keys_of _, by rw [List.length_map]; exact Nat.lt_of_le_of_lt (Nat.succ_le_succ (Nat.le_trans (mrkL_len _) cf.l27)) (by decide), mrkL c.lvs, rfl, fun ms hr hm _ => n3 _ ⟨ms, hr, hm, ⟨_, _, _, _, _, _, _, _, _, _, _, _, rfl⟩⟩⟩
      obtain ⟨ms, m1, m2, hJ3⟩ := h3
      obtain ⟨y1, y3, y7, y9, y10, y11, y12, y13, y14, y15, y16, y17, ye⟩ := hJ3
      subst ye
      -- names
      refine seq_mid (I := J9 ns c qs ms []) (fun E3 r3 n3 => ⟨(show 0 ≤ sizeLine by decide), n3 _ ⟨_, _, _, _, _, _, _, _, _, _, _, rfl⟩⟩) (fun δ3 hJ3 => ?_)
      obtain ⟨y1, y3, y7, y10, y11, y12, y13, y14, y15, y16, y17, ye⟩ := hJ3
      subst ye
      refine seq_mid (I := J9 ns c qs ms (namL c.lvs)) (fun E3 r3 n3 => ?_) (fun δ3 hJ3 => ?_)
      · refine for_lf (fun pre δ => (∀ l ∈ pre, l.fine) ∧ J9 ns c qs ms (namL pre) δ) c.lvs [] _ ⟨fun l m => absurd m List.not_mem_nil, ⟨_, _, _, _, _, _, _, _, _, _, _, rfl⟩⟩ (fun l ml pre hpre δ' hJ4 E4 r4 n4 => ?_) (fun δ' h => n3 δ' (by rw [List.nil_append] at h; exact h.2))
        obtain ⟨fpre, hJ4⟩ := hJ4
        obtain ⟨y1, y3, y7, y10, y11, y12, y13, y14, y15, y16, y17, ye⟩ := hJ4
        subst ye
        have fl := cf.fine l ml
        simp only [dSeq, dNext, dBreak, dCont, dDrop, dRet, dRetN, dIfS, dSet, dB, dNotT, dAndT, dOrT, dNot, dAnd, dOr, dIf, dChain, dVar, dC, dOp, dUn, dNil, dCons, dCall, dTup, dLst, pyAll, dSl, dNo, dPart, dAsg, dPar, dDig, dMix, dPutD, dPutM, dM1, dFor, dItL, dItU, dItS, dItR1, dItR2, dItSc, dItZip, dLc, dYes, gdName, wipeD, asP, asB, asI, asS, asL, asU, sliceD, fCmp, fAdd, startD, fI, true_and, and_true, List.getD_cons_zero, List.getD_cons_succ, List.set_cons_zero, List.set_cons_succ, List.map_cons, List.map_nil, List.length_cons, List.length_nil, Nat.zero_add, Nat.reduceAdd, Nat.reduceSub, List.replicate, List.cons_append, List.nil_append, if_true, if_false, reduceIte, Bool.false_eq_true, Bool.not_true, Bool.not_false]
        refine ⟨_, rfl, ?_⟩
        cases l with
        | frm n0 =>
          refine fEqW_of (x := Str.ofString "from") (b := true) (by decide +kernel) ?_
          refine ⟨_, rfl, _, .inr rfl, ?_⟩
          have hp : pre.length ≤ 27 := by
            have := cf.l27
            rw [List.length_nil] at hpre
            omega
          have e1 := namL_len fpre
          have e2 : n0.length ≤ 3 := fl.1
          refine ⟨by rw [List.length_map, List.length_map]; exact Nat.le_trans (show (namL pre).length + n0.length ≤ 100 by omega) (by decide), ?_⟩
          refine n4 _ ⟨fun l' m => (List.mem_append.mp m).elim (fpre l') fun z => by rw [List.mem_singleton.mp z]; exact fl, ?_⟩
          have e3 : (namL pre).map PyData.str ++ n0.map .str = (namL (pre ++ [.frm n0])).map .str := by
            rw [namL_app, List.map_append]
            simp only [namL, List.flatMap_cons, List.flatMap_nil, List.append_nil]
          rw [e3]
          exact ⟨_, _, _, _, _, _, _, _, _, _, _, rfl⟩
        | mrk m =>
          refine fEqW_of (x := Str.ofString "marked") (b := false) (by decide +kernel) ?_
          refine n4 _ ⟨fun l' m => (List.mem_append.mp m).elim (fpre l') fun z => by rw [List.mem_singleton.mp z]; exact fl, ?_⟩
          rw [namL_app, show namL [.mrk m] = [] from rfl, List.append_nil]
          exact ⟨_, _, _, _, _, _, _, _, _, _, _, rfl⟩
        | txt w t =>
          refine fEqW_of (x := w) (b := false) (txt_w fl.1).1 ?_
          refine n4 _ ⟨fun l' m => (List.mem_append.mp m).elim (fpre l') fun z => by rw [List.mem_singleton.mp z]; exact fl, ?_⟩
          rw [namL_app, show namL [.txt w t] = [] from rfl, List.append_nil]
          exact ⟨_, _, _, _, _, _, _, _, _, _, _, rfl⟩
      obtain ⟨y1, y3, y7, y10, y11, y12, y13, y14, y15, y16, y17, ye⟩ := hJ3
      subst ye
      -- due
      refine seq_mid (I := fun δ => ∃ zs : List Str, Due c qs ms zs ∧ JDu ns c qs ms zs δ) (fun E3 r3 n3 => ?_) (fun δ3 h3 => ?_)
      · refine ⟨_, (namL c.lvs).map Sum.inr, rfl, keys_of _, by rw [List.length_map]; exact Nat.lt_of_le_of_lt (Nat.succ_le_succ cf.l81) (by decide), namL c.lvs, rfl, fun zs hr hm _ => ⟨(show 3 ≤ sizeLine by decide), n3 _ ⟨zs, ⟨cf, q1, q2, m1, m2, hr, hm⟩, ⟨_, _, _, _, _, _, _, _, _, _, _, _, _, rfl⟩⟩⟩⟩
      obtain ⟨zs, due, hJ3⟩ := h3
      obtain ⟨y1, y3, y5, y7, y8, y9, y11, y12, y13, y14, y15, y16, y17, ye⟩ := hJ3
      subst ye
      clear q1 q2 m1 m2
      have sh := due.shows
      -- told
      refine seq_mid (I := JDu ns c qs ms zs) (fun E3 r3 n3 => ?_) (fun δ3 hJ3 => ?_)
      · refine ⟨2, rfl, by decide, by decide, for_inv (JDu ns c qs ms zs) _ _ ⟨_, _, _, _, _, _, _, _, _, _, _, _, _, rfl⟩ (fun d3 hd3 δ4 hJ4 E4 r4 n4 _ _ => ?_) n3⟩
        obtain ⟨y1, y3, y5, y7, y8, y9, y11, y12, y13, y14, y15, y16, y17, ye⟩ := hJ4
        subst ye
        refine ⟨c, rfl, cf.ok, Nat.le_trans cf.l27 (by decide), fun qs' qa qb => ?_⟩
        refine ⟨c, rfl, cf.ok, Nat.le_trans cf.l27 (by decide), fun ms' ma mb => ?_⟩
        refine ⟨c, rfl, cf.ok, Nat.le_trans cf.l27 (by decide), Nat.le_trans cf.l81 (by decide), fun zs' za zb => ?_⟩
        have eq : qs' = qs := ltP_one qa due.q1 fun x => (qb x).trans (due.q2 x).symm
        have em : ms' = ms := risS_one ma due.m1 fun x => (mb x).trans (due.m2 x).symm
        have ez : zs' = zs := risS_one za due.z1 fun x => (zb x).trans (due.z2 x).symm
        subst eq em ez
        have sz : ∀ n : Nat, n ≤ 100 → n < sizeLine := fun n h => Nat.lt_of_le_of_lt h (by decide)
        refine ⟨(show 12 < 18 by decide), (show 13 < 18 by decide), sz _ (by rw [List.length_map]; exact Nat.le_trans due.ql (by decide)), sz _ (by rw [List.length_map]; exact Nat.le_trans due.ml (by decide)), sz _ (by rw [List.length_map]; exact Nat.le_trans due.zl (by decide)), ?_⟩
        refine ⟨_, rfl, sh, _, rfl, sh, ?_⟩
        refine fNeq_refl ?_
        exact n4 _ ⟨_, _, _, _, _, _, _, _, _, _, _, _, _, rfl⟩
      obtain ⟨y1, y3, y5, y7, y8, y9, y11, y12, y13, y14, y15, y16, y17, ye⟩ := hJ3
      subst ye
      -- look
      refine ⟨8, rfl, by decide, by decide, for_inv (JDu ns c qs ms zs) _ _ ⟨_, _, _, _, _, _, _, _, _, _, _, _, _, rfl⟩ (fun d3 hd3 δ4 hJ4 E4 r4 n4 _ _ => ?_) fun δ4 hJ4 => hnx2 _ (by
        obtain ⟨y1, y3, y5, y7, y8, y9, y11, y12, y13, y14, y15, y16, y17, ye⟩ := hJ4
        subst ye
        exact ⟨_, _, _, _, _, _, _, _, _, _, _, _, _, _, _, _, rfl⟩)⟩
      obtain ⟨y1, y3, y5, y7, y8, y9, y11, y12, y13, y14, y15, y16, y17, ye⟩ := hJ4
      subst ye
      refine seq_mid (I := fun δ => ∃ (s a u : Str) (mm : List Str), u.length ≤ 4000 ∧ JMs ns c qs ms zs s a u mm δ) (fun E5 r5 n5 => ⟨rfl, fun s a u mm hu => n5 _ ⟨s, a, u, mm, Nat.le_trans hu (by decide), ⟨_, _, _, _, _, _, _, _, _, _, _, _, rfl⟩⟩⟩) (fun δ5 h5 => ?_)
      obtain ⟨s, a, u, mm, hu, hJ5⟩ := h5
      obtain ⟨y1, y3, y5, y7, y8, y9, y11, y12, y13, y14, y16, y17, ye⟩ := hJ5
      subst ye
      refine seq_mid (I := fun δ => ∃ (s a u : Str) (mm : List Str), u.length ≤ 4000 ∧ JMs ns c qs ms zs s a u mm δ) (fun E5 r5 n5 => ?_) (fun δ5 h5 => ?_)
      · have stay : ∀ δ, JMs ns c qs ms zs s a u mm δ → E5.nx δ := fun δ h => n5 δ ⟨s, a, u, mm, hu, h⟩
        refine ⟨(show 0 ≤ sizeLine by decide), rfl, ?_⟩
        rw [if_pos rfl]
        have q0 : (qs.map encP).isEmpty = true ∨ (0 < qs.length ∧ (qs.map encP).isEmpty = false) := by
          cases qs with
          | nil => exact .inl rfl
          | cons q qs => exact .inr ⟨Nat.succ_pos _, rfl⟩
        rcases q0 with q0 | ⟨qp, q0⟩
        · rw [q0]
          exact stay _ ⟨_, _, _, _, _, _, _, _, _, _, _, _, rfl⟩
        rw [q0]
        refine ⟨2, rfl, by decide, by decide, fun j hj => ⟨rfl, rfl, Nat.zero_le _, ?_⟩⟩
        rw [if_neg Bool.false_ne_true]
        cases PyData.eqv (.int (j : Int)) (.int 0) with
        | false => exact stay _ ⟨_, _, _, _, _, _, _, _, _, _, _, _, rfl⟩
        | true =>
          clear stay
          refine ⟨_, rfl, by rw [List.length_map]; exact qp, by rw [List.length_map]; exact Nat.lt_of_le_of_lt due.ql (by decide), fun x hx => ?_⟩
          obtain ⟨p, hp, rfl⟩ := List.mem_map.mp hx
          have tl : p.2.length ≤ 8 := by
            have := (tst_fine cf.fine ((due.q2 p).mp hp)).2.len
            rw [len_list] at this
            exact this
          refine ⟨.str p.2, rfl, ?_⟩
          generalize p.2 = t at tl
          have b8 : ∀ n : Nat, n ≤ 100 → n ≤ sizeLine := fun n h => Nat.le_trans h (by decide)
          refine ⟨b8 _ (show (Str.ofString "x").length + t.length ≤ 100 by rw [show (Str.ofString "x").length = 1 from rfl]; omega), b8 _ (show t.length + (Str.ofString "x").length ≤ 100 by rw [show (Str.ofString "x").length = 1 from rfl]; omega), b8 _ (by omega), b8 _ (by omega), b8 _ (show (Str.ofString "a").length + t.length ≤ 100 by rw [show (Str.ofString "a").length = 1 from rfl]; omega), b8 _ (show (Str.ofString "a" ++ t).length + (Str.ofString "b").length ≤ 100 by rw [len_app, show (Str.ofString "a").length = 1 from rfl, show (Str.ofString "b").length = 1 from rfl]; omega), b8 _ (by omega), (show 7 ≤ sizeLine by decide), ?_⟩
          refine ⟨_, rfl, (show 0 < 7 by decide), (show 7 < 1000000 by decide), fun x hx2 => ?_⟩
          have q : ∃ y, x = PyData.str y ∧ y.length ≤ 4000 := by
            rcases List.mem_cons.mp hx2 with e | hx2
            · exact ⟨_, e, by omega⟩
            rcases List.mem_cons.mp hx2 with e | hx2
            · exact ⟨_, e, by rw [len_app, show (Str.ofString "x").length = 1 from rfl]; omega⟩
            rcases List.mem_cons.mp hx2 with e | hx2
            · exact ⟨_, e, by rw [len_app, show (Str.ofString "x").length = 1 from rfl]; omega⟩
            rcases List.mem_cons.mp hx2 with e | hx2
            · exact ⟨_, e, Nat.le_trans (cutS_length t _ _) (by omega)⟩
            rcases List.mem_cons.mp hx2 with e | hx2
            · exact ⟨_, e, Nat.le_trans (cutS_length t _ _) (by omega)⟩
            rcases List.mem_cons.mp hx2 with e | hx2
            · exact ⟨_, e, by rw [len_app, len_app, show (Str.ofString "a").length = 1 from rfl, show (Str.ofString "b").length = 1 from rfl]; omega⟩
            · exact ⟨_, List.mem_singleton.mp hx2, by rw [len_app]; omega⟩
          obtain ⟨y, rfl, ly⟩ := q
          refine ⟨(show 1 ≤ sizeLine by decide), (show 2 + 1 ≤ sizeLine by decide), (show 3 + 1 ≤ sizeLine by decide), ?_⟩
          exact n5 _ ⟨s, a, y, mm, ly, ⟨_, _, _, _, _, _, _, _, _, _, _, _, rfl⟩⟩
      obtain ⟨s, a, u, mm, hu, hJ5⟩ := h5
      obtain ⟨y1, y3, y5, y7, y8, y9, y11, y12, y13, y14, y16, y17, ye⟩ := hJ5
      subst ye
      refine ⟨c, s, a, u, mm, rfl, cf.ok, hu, ?_⟩
      refine ⟨_, rfl, shows_b _, c, s, a, u, mm, rfl, cf.ok, cf.fine, hu, _, rfl, shows_b _, ?_⟩
      refine fNeq_refl ?_
      exact n4 _ ⟨_, _, _, _, _, _, _, _, _, _, _, _, _, rfl⟩⟩
theorem law_s1 (T : Tx K mg) {fa : Addr} {fd : FuncData} (F : Fun K "law" "law" s_law fa fd) (cdv : Value) (A : Around) (gd : A.guards = some []) (outer : List PySem.Env) (s : Shared) (H : Hp) (E : XK) (hr : Room 10 (A.deeper (envOfC "law" (defScope s_law) s.heap.objs.size fa cdv))) : ∃ t, PS (cxOf CX0 P w K mg base ["script", "start", "well", "turn", "one", "parts", "tests", "part", "marks", "names", "due", "again", "told", "found", "look", "message", "text", "some"] "law" (defScope s_law) fa cdv A outer s H E).nox ((defBody s_law).getD 1 (.Pass ⟨0, 0, 0, 0⟩)) (upS ⟨K, P, w⟩ t) ∧ ∀ (ns : List Int), ns.length ≤ 63 → (∀ n ∈ ns, Bd 1048576 n) → ∀ (D : DE) (δ : Dn), JL ns δ → D.rt (.p (.bool true)) → t D δ :=
  ⟨_, (ds_ret (de_call0 (ok_w_typed_right T (k := 10) (by decide)) gd hr (by rfl) T.m_w_typed_right T.F_w_typed_right.kp T.b_w_typed_right pass0)), fun ns hn hb D δ hI hT => by
      obtain ⟨y1, y2, y3, y4, y5, y6, y7, y8, y9, y10, y11, y12, y13, y14, y15, y16, y17, ye⟩ := hI
      subst ye
      exact ⟨rfl, hT⟩⟩
theorem ok_law (T : Tx K mg) {fa : Addr} {fd : FuncData} (F : Fun K "law" "law" s_law fa fd) : FnG P w K mg base CX0 11 fa fd ["script"] (spD ⟨K, P, w⟩ fLaw) :=
  okB F sc_law (fun ds R h => by obtain ⟨_, rfl, _⟩ := h; rfl) fun cdv A gd outer s H E hr => by
    obtain ⟨t0, p0, r0⟩ := law_s0 (base := base) T F cdv A gd outer s H E hr
    obtain ⟨t1, p1, r1⟩ := law_s1 (base := base) T F cdv A gd outer s H E hr
    exact ⟨_, (dss_cons p0 (dss_one p1)), fun ds R h => by
      obtain ⟨ns, rfl, hn, hb, h⟩ := h
      have h0 : JL ns (startD ["script", "start", "well", "turn", "one", "parts", "tests", "part", "marks", "names", "due", "again", "told", "found", "look", "message", "text", "some"] [.scr ns]) := ⟨_, _, _, _, _, _, _, _, _, _, _, _, _, _, _, _, _, rfl⟩
      exact r0 ns hn hb _ _ h0 h fun _ h1 => r1 ns hn hb _ _ h1 h⟩
end
theorem all_mk {l : PySem.W.OpenLaw} {w : World} {K : PySem.W.Frag} {h : Heap} {mg : Str → Option Value} {fa : Addr} (X : K.In h) (G : h.Ns mainGlobals mg) (hfa : mg "law" = some (.ref fa))
    {f0 : Addr} {od0 an0 : Option Addr} {sl0 : Array (Option Value)} {oc0 kV0 dc0 pm0 cd0 ct0 : Value}
    (a0 : PySem.W.nsIn K mainGlobals "subject_passes" = some (some (.ref f0))) (l0 : K.lookup f0 = some ⟨oc0, od0, .func (PySem.W.fnOf "subject_passes" "subject_passes" (defArgs s_subject_passes) (defBody s_subject_passes) (defScope s_subject_passes) .none kV0 dc0 pm0 an0 cd0 ct0), sl0⟩) (c0 : PySem.W.codeIn K cd0 "subject_passes" = true) (k0 : PySem.W.keepIn K (.ref f0) = true)
    {f1 : Addr} {od1 an1 : Option Addr} {sl1 : Array (Option Value)} {oc1 kV1 dc1 pm1 cd1 ct1 : Value}
    (a1 : PySem.W.nsIn K mainGlobals "single_holds" = some (some (.ref f1))) (l1 : K.lookup f1 = some ⟨oc1, od1, .func (PySem.W.fnOf "single_holds" "single_holds" (defArgs s_single_holds) (defBody s_single_holds) (defScope s_single_holds) .none kV1 dc1 pm1 an1 cd1 ct1), sl1⟩) (c1 : PySem.W.codeIn K cd1 "single_holds" = true) (k1 : PySem.W.keepIn K (.ref f1) = true)
    {f2 : Addr} {od2 an2 : Option Addr} {sl2 : Array (Option Value)} {oc2 kV2 dc2 pm2 cd2 ct2 : Value}
    (a2 : PySem.W.nsIn K mainGlobals "holds" = some (some (.ref f2))) (l2 : K.lookup f2 = some ⟨oc2, od2, .func (PySem.W.fnOf "holds" "holds" (defArgs s_holds) (defBody s_holds) (defScope s_holds) .none kV2 dc2 pm2 an2 cd2 ct2), sl2⟩) (c2 : PySem.W.codeIn K cd2 "holds" = true) (k2 : PySem.W.keepIn K (.ref f2) = true)
    {f3 : Addr} {od3 an3 : Option Addr} {sl3 : Array (Option Value)} {oc3 kV3 dc3 pm3 cd3 ct3 : Value}
    (a3 : PySem.W.nsIn K mainGlobals "singles_of" = some (some (.ref f3))) (l3 : K.lookup f3 = some ⟨oc3, od3, .func (PySem.W.fnOf "singles_of" "singles_of" (defArgs s_singles_of) (defBody s_singles_of) (defScope s_singles_of) .none kV3 dc3 pm3 an3 cd3 ct3), sl3⟩) (c3 : PySem.W.codeIn K cd3 "singles_of" = true) (k3 : PySem.W.keepIn K (.ref f3) = true)
    {f4 : Addr} {od4 an4 : Option Addr} {sl4 : Array (Option Value)} {oc4 kV4 dc4 pm4 cd4 ct4 : Value}
    (a4 : PySem.W.nsIn K mainGlobals "tests_of" = some (some (.ref f4))) (l4 : K.lookup f4 = some ⟨oc4, od4, .func (PySem.W.fnOf "tests_of" "tests_of" (defArgs s_tests_of) (defBody s_tests_of) (defScope s_tests_of) .none kV4 dc4 pm4 an4 cd4 ct4), sl4⟩) (c4 : PySem.W.codeIn K cd4 "tests_of" = true) (k4 : PySem.W.keepIn K (.ref f4) = true)
    {f5 : Addr} {od5 an5 : Option Addr} {sl5 : Array (Option Value)} {oc5 kV5 dc5 pm5 cd5 ct5 : Value}
    (a5 : PySem.W.nsIn K mainGlobals "marks_of" = some (some (.ref f5))) (l5 : K.lookup f5 = some ⟨oc5, od5, .func (PySem.W.fnOf "marks_of" "marks_of" (defArgs s_marks_of) (defBody s_marks_of) (defScope s_marks_of) .none kV5 dc5 pm5 an5 cd5 ct5), sl5⟩) (c5 : PySem.W.codeIn K cd5 "marks_of" = true) (k5 : PySem.W.keepIn K (.ref f5) = true)
    {f6 : Addr} {od6 an6 : Option Addr} {sl6 : Array (Option Value)} {oc6 kV6 dc6 pm6 cd6 ct6 : Value}
    (a6 : PySem.W.nsIn K mainGlobals "names_of" = some (some (.ref f6))) (l6 : K.lookup f6 = some ⟨oc6, od6, .func (PySem.W.fnOf "names_of" "names_of" (defArgs s_names_of) (defBody s_names_of) (defScope s_names_of) .none kV6 dc6 pm6 an6 cd6 ct6), sl6⟩) (c6 : PySem.W.codeIn K cd6 "names_of" = true) (k6 : PySem.W.keepIn K (.ref f6) = true)
    {f7 : Addr} {od7 an7 : Option Addr} {sl7 : Array (Option Value)} {oc7 kV7 dc7 pm7 cd7 ct7 : Value}
    (a7 : PySem.W.nsIn K mainGlobals "_law_well" = some (some (.ref f7))) (l7 : K.lookup f7 = some ⟨oc7, od7, .func (PySem.W.fnOf "_law_well" "_law_well" (defArgs s_w_well) (defBody s_w_well) (defScope s_w_well) .none kV7 dc7 pm7 an7 cd7 ct7), sl7⟩) (c7 : PySem.W.codeIn K cd7 "_law_well" = true) (k7 : PySem.W.keepIn K (.ref f7) = true)
    {f8 : Addr} {od8 an8 : Option Addr} {sl8 : Array (Option Value)} {oc8 kV8 dc8 pm8 cd8 ct8 : Value}
    (a8 : PySem.W.nsIn K mainGlobals "_law_draw" = some (some (.ref f8))) (l8 : K.lookup f8 = some ⟨oc8, od8, .func (PySem.W.fnOf "_law_draw" "_law_draw" (defArgs s_w_draw) (defBody s_w_draw) (defScope s_w_draw) .none kV8 dc8 pm8 an8 cd8 ct8), sl8⟩) (c8 : PySem.W.codeIn K cd8 "_law_draw" = true) (k8 : PySem.W.keepIn K (.ref f8) = true)
    {f9 : Addr} {od9 an9 : Option Addr} {sl9 : Array (Option Value)} {oc9 kV9 dc9 pm9 cd9 ct9 : Value}
    (a9 : PySem.W.nsIn K mainGlobals "_law_choose" = some (some (.ref f9))) (l9 : K.lookup f9 = some ⟨oc9, od9, .func (PySem.W.fnOf "_law_choose" "_law_choose" (defArgs s_w_choose) (defBody s_w_choose) (defScope s_w_choose) .none kV9 dc9 pm9 an9 cd9 ct9), sl9⟩) (c9 : PySem.W.codeIn K cd9 "_law_choose" = true) (k9 : PySem.W.keepIn K (.ref f9) = true)
    {f10 : Addr} {od10 an10 : Option Addr} {sl10 : Array (Option Value)} {oc10 kV10 dc10 pm10 cd10 ct10 : Value}
    (a10 : PySem.W.nsIn K mainGlobals "_law_text" = some (some (.ref f10))) (l10 : K.lookup f10 = some ⟨oc10, od10, .func (PySem.W.fnOf "_law_text" "_law_text" (defArgs s_w_text) (defBody s_w_text) (defScope s_w_text) .none kV10 dc10 pm10 an10 cd10 ct10), sl10⟩) (c10 : PySem.W.codeIn K cd10 "_law_text" = true) (k10 : PySem.W.keepIn K (.ref f10) = true)
    {f11 : Addr} {od11 an11 : Option Addr} {sl11 : Array (Option Value)} {oc11 kV11 dc11 pm11 cd11 ct11 : Value}
    (a11 : PySem.W.nsIn K mainGlobals "_law_names" = some (some (.ref f11))) (l11 : K.lookup f11 = some ⟨oc11, od11, .func (PySem.W.fnOf "_law_names" "_law_names" (defArgs s_w_names) (defBody s_w_names) (defScope s_w_names) .none kV11 dc11 pm11 an11 cd11 ct11), sl11⟩) (c11 : PySem.W.codeIn K cd11 "_law_names" = true) (k11 : PySem.W.keepIn K (.ref f11) = true)
    {f12 : Addr} {od12 an12 : Option Addr} {sl12 : Array (Option Value)} {oc12 kV12 dc12 pm12 cd12 ct12 : Value}
    (a12 : PySem.W.nsIn K mainGlobals "_law_condition" = some (some (.ref f12))) (l12 : K.lookup f12 = some ⟨oc12, od12, .func (PySem.W.fnOf "_law_condition" "_law_condition" (defArgs s_w_condition) (defBody s_w_condition) (defScope s_w_condition) .none kV12 dc12 pm12 an12 cd12 ct12), sl12⟩) (c12 : PySem.W.codeIn K cd12 "_law_condition" = true) (k12 : PySem.W.keepIn K (.ref f12) = true)
    {f13 : Addr} {od13 an13 : Option Addr} {sl13 : Array (Option Value)} {oc13 kV13 dc13 pm13 cd13 ct13 : Value}
    (a13 : PySem.W.nsIn K mainGlobals "_law_message" = some (some (.ref f13))) (l13 : K.lookup f13 = some ⟨oc13, od13, .func (PySem.W.fnOf "_law_message" "_law_message" (defArgs s_w_message) (defBody s_w_message) (defScope s_w_message) .none kV13 dc13 pm13 an13 cd13 ct13), sl13⟩) (c13 : PySem.W.codeIn K cd13 "_law_message" = true) (k13 : PySem.W.keepIn K (.ref f13) = true)
    {f14 : Addr} {od14 an14 : Option Addr} {sl14 : Array (Option Value)} {oc14 kV14 dc14 pm14 cd14 ct14 : Value}
    (a14 : PySem.W.nsIn K mainGlobals "_law_holds" = some (some (.ref f14))) (l14 : K.lookup f14 = some ⟨oc14, od14, .func (PySem.W.fnOf "_law_holds" "_law_holds" (defArgs s_w_holds) (defBody s_w_holds) (defScope s_w_holds) .none kV14 dc14 pm14 an14 cd14 ct14), sl14⟩) (c14 : PySem.W.codeIn K cd14 "_law_holds" = true) (k14 : PySem.W.keepIn K (.ref f14) = true)
    {f15 : Addr} {od15 an15 : Option Addr} {sl15 : Array (Option Value)} {oc15 kV15 dc15 pm15 cd15 ct15 : Value}
    (a15 : PySem.W.nsIn K mainGlobals "_law_leaves" = some (some (.ref f15))) (l15 : K.lookup f15 = some ⟨oc15, od15, .func (PySem.W.fnOf "_law_leaves" "_law_leaves" (defArgs s_w_leaves) (defBody s_w_leaves) (defScope s_w_leaves) .none kV15 dc15 pm15 an15 cd15 ct15), sl15⟩) (c15 : PySem.W.codeIn K cd15 "_law_leaves" = true) (k15 : PySem.W.keepIn K (.ref f15) = true)
    {f16 : Addr} {od16 an16 : Option Addr} {sl16 : Array (Option Value)} {oc16 kV16 dc16 pm16 cd16 ct16 : Value}
    (a16 : PySem.W.nsIn K mainGlobals "_law_typed_right" = some (some (.ref f16))) (l16 : K.lookup f16 = some ⟨oc16, od16, .func (PySem.W.fnOf "_law_typed_right" "_law_typed_right" (defArgs s_w_typed_right) (defBody s_w_typed_right) (defScope s_w_typed_right) .none kV16 dc16 pm16 an16 cd16 ct16), sl16⟩) (c16 : PySem.W.codeIn K cd16 "_law_typed_right" = true) (k16 : PySem.W.keepIn K (.ref f16) = true)
    {f17 : Addr} {od17 an17 : Option Addr} {sl17 : Array (Option Value)} {oc17 kV17 dc17 pm17 cd17 ct17 : Value}
    (a17 : PySem.W.nsIn K mainGlobals "law" = some (some (.ref f17))) (l17 : K.lookup f17 = some ⟨oc17, od17, .func (PySem.W.fnOf "law" "law" (defArgs s_law) (defBody s_law) (defScope s_law) .none kV17 dc17 pm17 an17 cd17 ct17), sl17⟩) (c17 : PySem.W.codeIn K cd17 "law" = true) (k17 : PySem.W.keepIn K (.ref f17) = true)
    (z0 : PySem.W.nsIn K mainGlobals "enumerate" = some none)
    (z1 : PySem.W.nsIn K mainGlobals "int" = some none)
    (z2 : PySem.W.nsIn K mainGlobals "len" = some none)
    (z3 : PySem.W.nsIn K mainGlobals "list" = some none)
    (z4 : PySem.W.nsIn K mainGlobals "max" = some none)
    (z5 : PySem.W.nsIn K mainGlobals "min" = some none)
    (z6 : PySem.W.nsIn K mainGlobals "range" = some none)
    (z7 : PySem.W.nsIn K mainGlobals "repr" = some none)
    (z8 : PySem.W.nsIn K mainGlobals "set" = some none)
    (z9 : PySem.W.nsIn K mainGlobals "sorted" = some none)
    (z10 : PySem.W.nsIn K mainGlobals "tuple" = some none)
    {tk0_0 tk0_1 : Tok} {au0 : Addr} {du0 : Option Addr} {nu0 : Nat} {su0 : Array (Option Value)} (y0 : PySem.W.nsIn K mainGlobals "GROUP_WORDS" = some (some (.ref au0))) (yl0 : K.lookup au0 = some ⟨.type "tuple", du0, .seq #[.str "all" tk0_0, .str "any" tk0_1] nu0, su0⟩)
    {tk1_0 tk1_1 tk1_2 tk1_3 : Tok} {au1 : Addr} {du1 : Option Addr} {nu1 : Nat} {su1 : Array (Option Value)} (y1 : PySem.W.nsIn K mainGlobals "TEST_WORDS" = some (some (.ref au1))) (yl1 : K.lookup au1 = some ⟨.type "tuple", du1, .seq #[.str "contains" tk1_0, .str "begins" tk1_1, .str "ends" tk1_2, .str "is" tk1_3] nu1, su1⟩)
    (off : K.lookup sysModules = none) :
    K.lookup sysModules = none ∧ ∃ fd : FuncData, (∀ (s : Shared) (u : Value), BindsTo s fd ⟨[u], []⟩ [("script", u)]) ∧ ∀ base : Heap, K.In base → base.Ns mainGlobals mg → FnG l.prog w K mg base CX0 11 fa fd ["script"] (spD ⟨K, l.prog, w⟩ fLaw) := by
  have e := hfa.symm.trans (PySem.W.mg_of X G a17)
  cases e
  have F0 := fun_mk (st := s_subject_passes) l0 c0 k0
  have F1 := fun_mk (st := s_single_holds) l1 c1 k1
  have F2 := fun_mk (st := s_holds) l2 c2 k2
  have F3 := fun_mk (st := s_singles_of) l3 c3 k3
  have F4 := fun_mk (st := s_tests_of) l4 c4 k4
  have F5 := fun_mk (st := s_marks_of) l5 c5 k5
  have F6 := fun_mk (st := s_names_of) l6 c6 k6
  have F7 := fun_mk (st := s_w_well) l7 c7 k7
  have F8 := fun_mk (st := s_w_draw) l8 c8 k8
  have F9 := fun_mk (st := s_w_choose) l9 c9 k9
  have F10 := fun_mk (st := s_w_text) l10 c10 k10
  have F11 := fun_mk (st := s_w_names) l11 c11 k11
  have F12 := fun_mk (st := s_w_condition) l12 c12 k12
  have F13 := fun_mk (st := s_w_message) l13 c13 k13
  have F14 := fun_mk (st := s_w_holds) l14 c14 k14
  have F15 := fun_mk (st := s_w_leaves) l15 c15 k15
  have F16 := fun_mk (st := s_w_typed_right) l16 c16 k16
  have F17 := fun_mk (st := s_law) l17 c17 k17
  have T : Tx K mg := ⟨f0, _, F0, F0.binds (ps := ["word", "text", "subject"]) (fun _ _ _ _ _ _ us hl => match us, hl with | [_, _, _], _ => rfl), PySem.W.mg_of X G a0,
    f1, _, F1, F1.binds (ps := ["word", "part", "message"]) (fun _ _ _ _ _ _ us hl => match us, hl with | [_, _, _], _ => rfl), PySem.W.mg_of X G a1,
    f2, _, F2, F2.binds (ps := ["condition", "message"]) (fun _ _ _ _ _ _ us hl => match us, hl with | [_, _], _ => rfl), PySem.W.mg_of X G a2,
    f3, _, F3, F3.binds (ps := ["condition"]) (fun _ _ _ _ _ _ us hl => match us, hl with | [_], _ => rfl), PySem.W.mg_of X G a3,
    f4, _, F4, F4.binds (ps := ["condition"]) (fun _ _ _ _ _ _ us hl => match us, hl with | [_], _ => rfl), PySem.W.mg_of X G a4,
    f5, _, F5, F5.binds (ps := ["condition"]) (fun _ _ _ _ _ _ us hl => match us, hl with | [_], _ => rfl), PySem.W.mg_of X G a5,
    f6, _, F6, F6.binds (ps := ["condition"]) (fun _ _ _ _ _ _ us hl => match us, hl with | [_], _ => rfl), PySem.W.mg_of X G a6,
    f7, _, F7, F7.binds (ps := ["script", "start"]) (fun _ _ _ _ _ _ us hl => match us, hl with | [_, _], _ => rfl), PySem.W.mg_of X G a7,
    f8, _, F8, F8.binds (ps := ["well", "many"]) (fun _ _ _ _ _ _ us hl => match us, hl with | [_, _], _ => rfl), PySem.W.mg_of X G a8,
    f9, _, F9, F9.binds (ps := ["well", "things"]) (fun _ _ _ _ _ _ us hl => match us, hl with | [_, _], _ => rfl), PySem.W.mg_of X G a9,
    f10, _, F10, F10.binds (ps := ["well"]) (fun _ _ _ _ _ _ us hl => match us, hl with | [_], _ => rfl), PySem.W.mg_of X G a10,
    f11, _, F11, F11.binds (ps := ["well", "some"]) (fun _ _ _ _ _ _ us hl => match us, hl with | [_, _], _ => rfl), PySem.W.mg_of X G a11,
    f12, _, F12, F12.binds (ps := ["well", "deep"]) (fun _ _ _ _ _ _ us hl => match us, hl with | [_, _], _ => rfl), PySem.W.mg_of X G a12,
    f13, _, F13, F13.binds (ps := ["well"]) (fun _ _ _ _ _ _ us hl => match us, hl with | [_], _ => rfl), PySem.W.mg_of X G a13,
    f14, _, F14, F14.binds (ps := ["condition", "message"]) (fun _ _ _ _ _ _ us hl => match us, hl with | [_, _], _ => rfl), PySem.W.mg_of X G a14,
    f15, _, F15, F15.binds (ps := ["condition"]) (fun _ _ _ _ _ _ us hl => match us, hl with | [_], _ => rfl), PySem.W.mg_of X G a15,
    f16, _, F16, F16.binds (ps := []) (fun _ _ _ _ _ _ us hl => match us, hl with | [], _ => rfl), PySem.W.mg_of X G a16,
    PySem.W.mg_none_of X G z0,
    PySem.W.mg_none_of X G z1,
    PySem.W.mg_none_of X G z2,
    PySem.W.mg_none_of X G z3,
    PySem.W.mg_none_of X G z4,
    PySem.W.mg_none_of X G z5,
    PySem.W.mg_none_of X G z6,
    PySem.W.mg_none_of X G z7,
    PySem.W.mg_none_of X G z8,
    PySem.W.mg_none_of X G z9,
    PySem.W.mg_none_of X G z10,
    .ref au0, PySem.W.mg_of X G y0, ⟨au0, rfl, fun H => .inr ⟨_, _, _, yl0, rfl, rfl, by show 2 ≤ sizeLine; decide, (.cons ⟨_, rfl⟩ (.cons ⟨_, rfl⟩ .nil))⟩⟩,
    .ref au1, PySem.W.mg_of X G y1, ⟨au1, rfl, fun H => .inr ⟨_, _, _, yl1, rfl, rfl, by show 4 ≤ sizeLine; decide, (.cons ⟨_, rfl⟩ (.cons ⟨_, rfl⟩ (.cons ⟨_, rfl⟩ (.cons ⟨_, rfl⟩ .nil))))⟩⟩⟩
  exact ⟨off, PySem.W.fnOf "law" "law" (defArgs s_law) (defBody s_law) (defScope s_law) .none kV17 dc17 pm17 an17 cd17 ct17, fun s v => .of_eq rfl, fun base _ _ => ok_law T F17⟩
end MR
open PySem PySem.W PyProof.Rows
set_option maxHeartbeats 0 in
theorem PySem.Challenge.cw_mailrings_k05_conditions_and_their_parts_holds : PySem.Challenge.rw_mailrings_k05_conditions_and_their_parts.Holds := by
  w_on; o_law; k_head; (case hw => w_witness2)
  k_fill
  refine MR.walk_G (l := PySem.Challenge.rw_mailrings_k05_conditions_and_their_parts) (k := 11) rfl rfl (by decide +kernel) ⟨rfl, by decide, by decide⟩ (fun w h Y => PySem.W.kIn_of Y) ?F
  case F =>
    intro w mg fa h KX G hmg
    refine' MR.all_mk KX G hmg ?a0 ?l0 ?c0 ?k0 ?a1 ?l1 ?c1 ?k1 ?a2 ?l2 ?c2 ?k2 ?a3 ?l3 ?c3 ?k3 ?a4 ?l4 ?c4 ?k4 ?a5 ?l5 ?c5 ?k5 ?a6 ?l6 ?c6 ?k6 ?a7 ?l7 ?c7 ?k7 ?a8 ?l8 ?c8 ?k8 ?a9 ?l9 ?c9 ?k9 ?a10 ?l10 ?c10 ?k10 ?a11 ?l11 ?c11 ?k11 ?a12 ?l12 ?c12 ?k12 ?a13 ?l13 ?c13 ?k13 ?a14 ?l14 ?c14 ?k14 ?a15 ?l15 ?c15 ?k15 ?a16 ?l16 ?c16 ?k16 ?a17 ?l17 ?c17 ?k17 ?z0 ?z1 ?z2 ?z3 ?z4 ?z5 ?z6 ?z7 ?z8 ?z9 ?z10 ?y0 ?y1 ?yl0 ?yl1 ?off
    (case a0 => k_is); (case l0 => k_is); (case c0 => k_is); (case k0 => k_is); (case a1 => k_is); (case l1 => k_is); (case c1 => k_is); (case k1 => k_is); (case a2 => k_is); (case l2 => k_is); (case c2 => k_is); (case k2 => k_is); (case a3 => k_is); (case l3 => k_is); (case c3 => k_is); (case k3 => k_is); (case a4 => k_is); (case l4 => k_is); (case c4 => k_is); (case k4 => k_is); (case a5 => k_is); (case l5 => k_is); (case c5 => k_is); (case k5 => k_is); (case a6 => k_is); (case l6 => k_is); (case c6 => k_is); (case k6 => k_is); (case a7 => k_is); (case l7 => k_is); (case c7 => k_is); (case k7 => k_is); (case a8 => k_is); (case l8 => k_is); (case c8 => k_is); (case k8 => k_is); (case a9 => k_is); (case l9 => k_is); (case c9 => k_is); (case k9 => k_is); (case a10 => k_is); (case l10 => k_is); (case c10 => k_is); (case k10 => k_is); (case a11 => k_is); (case l11 => k_is); (case c11 => k_is); (case k11 => k_is); (case a12 => k_is); (case l12 => k_is); (case c12 => k_is); (case k12 => k_is); (case a13 => k_is); (case l13 => k_is); (case c13 => k_is); (case k13 => k_is); (case a14 => k_is); (case l14 => k_is); (case c14 => k_is); (case k14 => k_is); (case a15 => k_is); (case l15 => k_is); (case c15 => k_is); (case k15 => k_is); (case a16 => k_is); (case l16 => k_is); (case c16 => k_is); (case k16 => k_is); (case a17 => k_is); (case l17 => k_is); (case c17 => k_is); (case k17 => k_is); (case z0 => k_is); (case z1 => k_is); (case z2 => k_is); (case z3 => k_is); (case z4 => k_is); (case z5 => k_is); (case z6 => k_is); (case z7 => k_is); (case z8 => k_is); (case z9 => k_is); (case z10 => k_is); (case y0 => k_is); (case y1 => k_is); (case yl0 => k_is); (case yl1 => k_is)
    (case off => rfl)

