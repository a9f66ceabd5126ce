import PyProof.Rows.All
import Wide.All
import OpenK.AllK
import Wide.FinOn
import HandS.SetFor
import HandS.SetKeys
import KE.SortData
import PyProof.StrWalks
import PyProof.EnumMake
import HandS.ForMost
import HandS.TupAny
import HandS.IsInst
import HandS.Zip
import HandS.TupMul
import PyProof.ReprRoads
import PyProof.CallFns
import KE.KxIndex
import HandS.EndBits
import KE.DataEq
import PyProof.ReprLen
import KE.DataCmp
import HandS.StrMore
import HandS.Replace
import HandS.Star
import PySem.Challenge.RW_mailrings_k02_order_and_strange_names
set_option Elab.async false
set_option linter.all false
set_option maxRecDepth 100000
set_option autoImplicit false
/-! Sets of numbers and texts: made from lists, tuples, texts; sorted. -/
namespace MR
open PySem PySem.Spec PyProof.Rows L2
def kOf (v : Value) : Option Key := match v with
  | .int k _ => some (.inl k)
  | .str x _ => some (.inr x)
  | _ => none
def hasK (ks : List Key) (j : Key) : Bool := ks.any fun i => decide (i = j)
theorem hasK_iff {ks : List Key} {j : Key} : hasK ks j = true ↔ j ∈ ks := by
  unfold hasK
  rw [List.any_eq_true]
  exact ⟨fun ⟨x, hx, e⟩ => of_decide_eq_true e ▸ hx, fun h => ⟨j, h, decide_eq_true rfl⟩⟩
def GoodK (w : World) (e : Int × Value) : Prop := ∃ k, kOf e.2 = some k ∧ e.1 = keyH w k
theorem kOf_is {k : Key} {v : Value} : keyIs k v = true ↔ kOf v = some k := by
  constructor
  · intro h
    rcases keyIs_shape h with ⟨i, t, rfl, rfl⟩ | ⟨x, t, rfl, rfl⟩ <;> rfl
  · intro h
    cases v with
    | int i t =>
      cases h
      exact keyIs_int i t
    | str x t =>
      cases h
      exact keyIs_str x t
    | _ => cases h
theorem kOf_scan {k : Key} {v : Value} (h : kOf v = some k) : v.scannable = true := by
  cases v with
  | int i t => rfl
  | str x t => rfl
  | _ => cases h
/-- the set of keys at a: S its members, n their number; its table rises and can be walked -/
def SetG (w : World) (h : Heap) (a : Addr) (S : Key → Bool) (n : Nat) : Prop :=
  ∃ ob el ep tb, h.get? a = some ob ∧ ob.ExactSet ∧ ob.data = .set el ep tb ∧ (∀ x ∈ el.toList, GoodK w x) ∧ (el.toList.map fun x => kOf x.2).Nodup ∧
    (∀ k, S k = true ↔ some k ∈ el.toList.map fun x => kOf x.2) ∧ el.size < scanBound ∧ tb.fits el.size = true ∧ el.size = n ∧ Ris tb.place.toList ∧ (w.params.followText "set-order" = true ∨ tb.led = true)
section
variable {P : Program} {w : World} {h h' : Heap} {a : Addr} {S : Key → Bool} {n : Nat}
theorem SetG.keeps (R : SetG w h a S n) (k : ∀ ob, h.get? a = some ob → h'.get? a = some ob) : SetG w h' a S n := let ⟨ob, el, ep, tb, e, r⟩ := R; ⟨ob, el, ep, tb, k ob e, r⟩
theorem SetG.same {T : Key → Bool} (R : SetG w h a S n) (e : ∀ k, T k = S k) : SetG w h a T n := by
  rw [show T = S from funext e]
  exact R
theorem goodK_elems {l : List (Int × Value)} (g : ∀ e ∈ l, GoodK w e) : ElemsOf (mixKind P w) l := fun e he => by
  obtain ⟨k, h1, h2⟩ := g e he
  exact ⟨⟨k, kOf_is.mpr h1, h2⟩, kOf_scan h1⟩
theorem goodK_mem {l : List (Int × Value)} (k : Key) : some k ∈ (l.map fun e => kOf e.2) ↔ ∃ e ∈ l, (mixKind P w).is k e.2 = true := by
  rw [List.mem_map]
  exact ⟨fun ⟨e, he, q⟩ => ⟨e, he, kOf_is.mpr q⟩, fun ⟨e, he, q⟩ => ⟨e, he, kOf_is.mp q⟩⟩
theorem SetG.toOf (R : SetG w h a S n) : h.SetOf (mixKind P w) a S n := by
  obtain ⟨ob, el, ep, tb, ho, hx, hd, g, _, hm, hb, hf, hn, _⟩ := R
  exact ⟨ob, el, ep, tb, ho, hx, hd, goodK_elems g, fun k => (hm k).trans (goodK_mem k), hb, hf, hn⟩
end
section
variable {P : Program} {w : World} {A : Around} {E : Value → Shared → Prop} {s : Shared} {a : Addr} {S : Key → Bool} {n : Nat}
/-- what storing an added key ends with -/
theorem setG_tail {gv : Bool → Sem Unit} (hgv : ∀ (b : Bool) (s₁ : Shared) (Q' : Unit → Shared → Prop), Q' () s₁ → wpAny (model P w) A (gv b) Q' E s₁)
    {ob : Obj} {el : Array (Int × Value)} {ep : Nat} {tb : SetTable} (ho : s.heap.get? a = some ob) (hx : ob.ExactSet) (hd : ob.data = .set el ep tb) {el1 : Array (Int × Value)} {t2 : SetTable} {T : Key → Bool}
    (g1 : ∀ x ∈ el1.toList, GoodK w x) (nd1 : (el1.toList.map fun x => kOf x.2).Nodup) (m1 : ∀ k, T k = true ↔ some k ∈ el1.toList.map fun x => kOf x.2) (hb1 : el1.size < scanBound) (hf2 : t2.fits el1.size = true) (hr : Ris t2.place.toList)
    (hl : w.params.followText "set-order" = true ∨ t2.led = true) {was : Bool} {R : Option Bool → Shared → Prop} (hR : ∀ h', Heap.SameBut a s.heap h' → SetG w h' a T el1.size → R (some true) { s with heap := h' }) :
    wpAny (model P w) A (do
        storeSet a el1 t2
        if (!was && t2.tooFull) = true then do
            gv (relayAll t2 el1 (SetTable.grown el1.size)).2.2
            storeSet a (relayAll t2 el1 (SetTable.grown el1.size)).1 (relayAll t2 el1 (SetTable.grown el1.size)).2.1
            pure (some true)
          else pure (some true)) R E s := by
  refine wpAny_bind (wpAny_storeSet_of ho hd ?_ (fits_of_scanBound hb1))
  have at1 := store_at (es' := el1) (t' := t2) ho hd
  have same1 := Heap.SameBut.update s.heap a (Obj.putSet el1 t2)
  split
  · have perm := relayAll_perm t2 el1 (SetTable.grown el1.size)
    have fit3 := relayAll_fits t2 el1 (SetTable.grown el1.size)
    have ris3 := relayAll_ris t2 el1 (SetTable.grown el1.size)
    have led3 := relayAll_led t2 el1 (SetTable.grown el1.size)
    generalize relayAll t2 el1 (SetTable.grown el1.size) = Z at perm fit3 ris3 led3 ⊢
    obtain ⟨el2, t3, gave⟩ := Z
    dsimp only at perm fit3 ris3 led3 ⊢
    have size2 : el2.size = el1.size := by rw [← Array.length_toList, perm.length_eq, Array.length_toList]
    have bound2 : el2.size < scanBound := size2 ▸ hb1
    refine wpAny_bind (hgv _ _ _ (wpAny_bind (wpAny_storeSet_of at1 rfl ?_ (fits_of_scanBound bound2))))
    have at2 := store_at (es' := el2) (t' := t3) at1 rfl
    refine wpAny_pure (hR _ (same1.trans (Heap.SameBut.update _ a _)) ?_)
    exact ⟨_, el2, _, t3, at2, hx, rfl, fun x q => g1 x (perm.mem_iff.mp q), (perm.map _).nodup_iff.mpr nd1, fun k => (m1 k).trans (perm.map _).mem_iff.symm, bound2, fit3, size2, ris3, hl.imp id fun z => by rw [led3]; exact z⟩
  · exact wpAny_pure (hR _ same1 ⟨_, el1, _, t2, at1, hx, rfl, g1, nd1, m1, hb1, hf2, rfl, hr, hl⟩)
theorem setG_add {k : Key} {v : Value} {Q : Bool → Shared → Prop} (hv : kOf v = some k) (R : SetG w s.heap a S n) (room : n + 1 < scanBound)
    (hQ : ∀ h', Heap.SameBut a s.heap h' → SetG w h' a (fun j => S j || decide (j = k)) (if S k = true then n else n + 1) → Q (!S k) { s with heap := h' }) :
    wpAny (model P w) A (setAddHashed a v ((mixKind P w).hash k)) Q E s := by
  obtain ⟨ob, el, ep, tb, ho, hx, hd, g, nd, hm, hb, hf, hn, hr, hl⟩ := R
  have isk : (mixKind P w).is k v = true := kOf_is.mpr hv
  have scn : v.scannable = true := kOf_scan hv
  have elems : ElemsOf (mixKind P w) el.toList := goodK_elems g
  unfold setAddHashed setAddHashedIn
  refine wpAny_holding (wpAny_bind (wpAny_setState_of ho hd hf ?_))
  dsimp only
  rw [byScan_of scn hb elems]
  simp only [↓reduceIte]
  unfold setAddByScan
  refine wpAny_bind (wpAny_bind (wpAny_rule (wpAny_bind (wpAny_setScan_of isk ho hd hf elems ?_))))
  cases found : List.findIdx? (fun e => (mixKind P w).is k e.2) el.toList with
  | some j =>
    dsimp only
    obtain ⟨hj, pj, _⟩ := List.findIdx?_eq_some_iff_getElem.mp found
    have inS : S k = true := (hm k).2 ((goodK_mem (P := P) (w := w) k).2 ⟨el.toList[j], List.getElem_mem hj, pj⟩)
    refine wpAny_pure (wpAny_pure ?_)
    have q := hQ s.heap (Heap.SameBut.refl a s.heap) ⟨ob, el, ep, tb, ho, hx, hd, g, nd, fun i => by
      rw [Bool.or_eq_true, decide_eq_true_eq, ← hm i]
      exact ⟨fun z => z.elim id fun e => e ▸ inS, .inl⟩, hb, hf, by rw [if_pos inS]; exact hn, hr, hl⟩
    rw [inS] at q
    exact q
  | none =>
    dsimp only
    have notin : some k ∉ el.toList.map fun e => kOf e.2 := fun z => by
      obtain ⟨e, he, q⟩ := (goodK_mem (P := P) (w := w) k).1 z
      have c := List.findIdx?_eq_none_iff.mp found e he
      rw [q] at c
      cases c
    have offS : S k = false := Bool.eq_false_iff.mpr fun q => notin ((hm k).1 q)
    have give : ∀ (b : Bool) {s₁ : Shared} {Q' : Unit → Shared → Prop}, Q' () s₁ → wpAny (model P w) A (match b with | true => rule "set.scan.the-table-gave-way" | false => pure ()) Q' E s₁ := fun b s₁ Q' q => by
      cases b
      · exact wpAny_pure q
      · exact wpAny_rule q
    have perm := layNew_perm tb el ((mixKind P w).hash k) v
    have fit1 := layNew_fits tb el ((mixKind P w).hash k) v
    have ris1 := layNew_ris tb el ((mixKind P w).hash k) v hr
    have led1 := layNew_led tb el ((mixKind P w).hash k) v
    generalize layNew tb el ((mixKind P w).hash k) v = Z at perm fit1 ris1 led1 ⊢
    obtain ⟨el1, t1, was, gave⟩ := Z
    dsimp only at perm fit1 ris1 led1 ⊢
    rw [Array.toList_push] at perm
    have front : el1.toList.Perm (((mixKind P w).hash k, v) :: el.toList) := perm.trans (List.perm_append_singleton _ _)
    have keys : (el1.toList.map fun e => kOf e.2).Perm (some k :: el.toList.map fun e => kOf e.2) := by
      have q := front.map fun (e : Int × Value) => kOf e.2
      rw [List.map_cons] at q
      rw [← hv]
      exact q
    have good1 : ∀ e ∈ el1.toList, GoodK w e := fun e he => by
      rcases List.mem_cons.mp (front.mem_iff.mp he) with z | z
      · rw [z]
        exact ⟨k, hv, rfl⟩
      · exact g e z
    have nd1 : (el1.toList.map fun e => kOf e.2).Nodup := keys.nodup_iff.mpr (List.nodup_cons.mpr ⟨notin, nd⟩)
    have mem1 : ∀ i, (S i || decide (i = k)) = true ↔ some i ∈ el1.toList.map fun e => kOf e.2 := fun i => by
      rw [Bool.or_eq_true, decide_eq_true_eq, hm i, keys.mem_iff, List.mem_cons]
      exact ⟨fun z => z.elim .inr fun e => .inl (by rw [e]), fun z => z.elim (fun e => .inr (Option.some.inj e)) .inl⟩
    have size1 : el1.size = n + 1 := by rw [← Array.length_toList, front.length_eq, List.length_cons, Array.length_toList, hn]
    have bound1 : el1.size < scanBound := size1 ▸ room
    have ledd : w.params.followText "set-order" = true ∨ t1.led = true := hl.imp id fun z => by rw [led1]; exact z
    have last : ∀ h', Heap.SameBut a s.heap h' → SetG w h' a (fun j => S j || decide (j = k)) el1.size → Q true { s with heap := h' } := fun h' sb r => by
      have q := hQ h' sb
      rw [offS] at q
      rw [size1] at r
      exact q r
    refine wpAny_bind (give _ ?_)
    split
    · refine wpAny_bind ?_
      rw [hashByValue_scannable 8 scn]
      refine wpAny_pure (setG_tail (fun b s₁ Q' q => ?_) ho hx hd good1 nd1 mem1 bound1 ?_ ?_ ?_ fun h' sb r => ?_)
      · cases b
        · exact wpAny_pure q
        · exact wpAny_rule q
      · first | (split <;> first | exact fit1 | exact SetTable.fits_plain_off fit1) | exact fit1
      · first | (split <;> exact ris1) | exact ris1
      · first | (split <;> exact ledd) | exact ledd
      · dsimp only
        exact wpAny_pure (last h' sb r)
    · refine wpAny_bind (wpAny_pure ?_)
      simp only [↓reduceIte]
      refine setG_tail (fun b s₁ Q' q => ?_) ho hx hd good1 nd1 mem1 bound1 fit1 ris1 ledd fun h' sb r => ?_
      · cases b
        · exact wpAny_pure q
        · exact wpAny_rule q
      · dsimp only
        exact wpAny_pure (last h' sb r)
def newSetObj (w : World) : Obj := { cls := .type "set", dict := none, data := .set #[] 0 (.fresh 0 0 (!w.params.followText "set-order")) }
theorem setG_empty {h : Heap} {a : Addr} {T : Key → Bool} (ho : h.get? a = some (newSetObj w)) (e : ∀ k, T k = false) : SetG w h a T 0 := by
  refine ⟨_, #[], 0, _, ho, ⟨rfl, rfl, rfl⟩, rfl, (fun e he => by simp at he), (by simp), (fun k => by rw [e k]; simp), (by decide), (by rfl), rfl, List.Pairwise.nil, ?_⟩
  show _ ∨ (!w.params.followText "set-order") = true
  cases w.params.followText "set-order"
  · exact .inr rfl
  · exact .inl rfl
/-- the loop by which an iterator's items come in -/
theorem setG_loop {I : Addr} {fp wr : List Addr} {G : Array GenState → Array GenState → Prop} {n : Nat} {Pv : Nat → Value → Prop} {St : Nat → Shared → Prop} {R : Result → Shared → Prop} (W : WalksS P w A.in1 I fp wr G n Pv St) (D : Addr) (hD : D ∉ fp)
    (ks : List Key) (hn : n = ks.length) (hb : ks.length + 1 < scanBound) (hval : ∀ i v, Pv i v → ∃ k, ks[i]? = some k ∧ kOf v = some k) :
    ∀ (m i : Nat) (s : Shared), n - i = m → i ≤ n → St i s → (∃ c, c ≤ i ∧ SetG w s.heap D (fun j => hasK (ks.take i) j) c) →
      (∀ s' c, Moved (D :: wr) G s s' → c ≤ n → SetG w s'.heap D (fun j => hasK ks j) c → R (.ok (.ret .none)) s') → codeAny (model P w) A (.builtin "set.update.loop" ⟨[.ref D, .ref I], []⟩) R s := by
  have hDw : D ∉ wr := fun z => hD (W.sub _ z)
  have sub : ∀ b ∈ wr, b ∈ D :: wr := fun _ z => List.mem_cons_of_mem _ z
  intro m
  induction m with
  | zero =>
    intro i s hm hi st ⟨c, hc, hS⟩ hR
    obtain rfl : i = n := by omega
    refine codeAny_builtin F.entry_set_update_loop ?_
    rw [Around.under_plainId F.plain_set_update_loop _]
    show wpAny _ A.in1 (pyNext (.ref I) >>= _) _ _ s
    refine wpAny_bind (W.done s _ _ st fun s2 mv => ?_)
    show wpAny _ A.in1 (ret Value.none) _ _ s2
    rw [List.take_of_length_le (show ks.length ≤ i by omega)] at hS
    exact wpAny_pure (hR s2 c (mv.mono sub) hc (hS.keeps fun ob e => mv.heap D ob hDw e))
  | succ m ih =>
    intro i s hm hi st ⟨c, hc, hS⟩ hR
    have lt : i < n := by omega
    refine codeAny_builtin F.entry_set_update_loop ?_
    rw [Around.under_plainId F.plain_set_update_loop _]
    show wpAny _ A.in1 (pyNext (.ref I) >>= _) _ _ s
    refine wpAny_bind (W.item i s _ _ lt st fun v s2 pv st2 mv => ?_)
    obtain ⟨k, hk, kv⟩ := hval i v pv
    have hS2 : SetG w s2.heap D (fun j => hasK (ks.take i) j) c := hS.keeps fun ob e => mv.heap D ob hDw e
    show wpAny _ A.in1 (holding [v] (setAdd D v) >>= _) _ _ s2
    refine wpAny_bind (wpAny_holding ?_)
    unfold setAdd
    refine wpAny_holding (wpAny_bind ((mixKind P w).pyHash (k := k) (kOf_is.mpr kv) ?_))
    refine setG_add (s := { s2 with toks := s2.toks + 1 }) kv hS2 (by omega) fun h' sb hS3 => ?_
    have hS4 : SetG w h' D (fun j => hasK (ks.take (i + 1)) j) (if hasK (ks.take i) k = true then c else c + 1) := hS3.same fun j => by
      rw [List.take_add_one, hk]
      unfold hasK
      rw [List.any_append]
      congr 1
      show (decide (k = j) || false) = decide (j = k)
      rw [Bool.or_false]
      exact decide_eq_decide.mpr ⟨Eq.symm, Eq.symm⟩
    have hc4 : (if hasK (ks.take i) k = true then c else c + 1) ≤ i + 1 := by split <;> omega
    have other : ∀ b ob, b ≠ D → s2.heap.get? b = some ob → h'.get? b = some ob := fun b ob nb e => (sb.2 b nb).trans e
    refine wpAny_pure ⟨plainId_quiet F.plain_set_update_loop _, ih (i + 1) _ (by omega) lt (W.frame _ s2 _ _ st2 (Nat.le_succ _) fun b hbf ob e => other b ob (fun z => hD (z ▸ hbf)) e) ⟨_, hc4, hS4⟩ fun s3 c3 mv3 hc3 hS5 => ?_⟩
    exact hR s3 c3 (Moved.trans W.gtrans ((mv.mono sub).then_heap (Nat.le_succ _) fun b ob hbn e => other b ob (fun z => hbn (z ▸ List.mem_cons_self)) e) mv3) hc3 hS5
theorem code_new1 (v : Value) {Q₁ : Value → Shared → Prop} (h : Q₁ (.ref s.heap.objs.size) { s with heap := s.heap.push (newSetObj w) }) : codeAny (model P w) A (.call (.builtin "set.__new__") ⟨[.type "set", v], []⟩) (wants Q₁ E) s := code_set_led1 v h
end
end MR

namespace MR
open PySem PySem.Spec PyProof.Rows L2
section
variable {P : Program} {w : World} {A : Around} {E : Value → Shared → Prop} {s : Shared} {a : Addr} {S : Key → Bool} {n : Nat}

set_option maxHeartbeats 3200000 in
theorem call_set_list {l : Addr} {items : Array Value} (ks : List Key) {Q : Value → Shared → Prop} (hh : A.handled = none) (hl : s.heap.IsList l items) (hsz : items.size = ks.length) (hit : ∀ (i : Nat) (v : Value), items[i]? = some v → ∃ k, ks[i]? = some k ∧ kOf v = some k) (hb : ks.length + 1 < scanBound)
    (h : ∀ (h' : Heap) (tk c : Nat), SetG w h' s.heap.objs.size (fun j => hasK ks j) c → c ≤ ks.length → (∀ b o, s.heap.get? b = some o → h'.get? b = some o) → Q (.ref s.heap.objs.size) { s with heap := h', toks := tk }) :
    wpAny (model P w) A (call (.type "set") [.ref l]) Q E s := by
  obtain ⟨c0, tl, hmro⟩ := F.called_set.mro
  have is_made := F.called_set.made
  have is_sub := F.called_set.sub
  refine wpAny_call (codeAny_of_tree (?_ : wpAny _ _ (callAny (.type "set") _) _ _ _))
  refine wpAny_pure ⟨Code.quiet_builtin _ (by decide +kernel), codeAny_builtin F.entry_type_call ?_⟩
  rw [Around.under_plain (weight_type_call_type "set" [.ref l] []) rfl]
  have f1 := F.called_set.notType
  have f2 := F.called_set.canCreate
  have f3 := F.typeCall_set_1 (.ref l)
  repeat (any_goals (first | assumption | wp_step))
  refine codeAny_mono (code_new1 (.ref l) (E := E) (Q₁ := fun ob s₁ => ob = .ref s.heap.objs.size ∧ s₁ = { s with heap := s.heap.push (newSetObj w) }) ⟨rfl, rfl⟩) fun res s₁ hr => ?_
  cases res with
  | error e => exact hr
  | ok fl =>
    cases fl with
    | ret obj =>
      obtain ⟨rfl, rfl⟩ := hr
      have at0 : (s.heap.push (newSetObj w)).get? s.heap.objs.size = some (newSetObj w) := Heap.get?_push_size _ rfl
      have ty0 : Shared.TypeIs { s with heap := s.heap.push (newSetObj w) } (.ref s.heap.objs.size) "set" := ⟨_, at0, rfl⟩
      have li := F.called_set.init.lookup
      have bi := F.called_set.init.bind (.ref s.heap.objs.size)
      repeat (any_goals (first | assumption | wp_step))
      refine codeAny_mono (codeAny_call_builtin (R := wants (fun r s₂ => r = .none ∧ ∃ h' tk c, s₂ = { s with heap := h', toks := tk } ∧ SetG w h' s.heap.objs.size (fun j => hasK ks j) c ∧ c ≤ ks.length ∧
          ∀ b o, s.heap.get? b = some o → h'.get? b = some o) E) F.called_set.init.plain F.entry_set_init (check_set_init_1 ty0 ?_)) fun res₂ s₂ hr₂ => ?_
      · obtain ⟨ol, hol, hcl, nl, hdl⟩ := hl
        obtain ⟨ocls, odict, odata, oslots⟩ := ol
        simp only at hcl hdl
        subst hcl; subst hdl
        have at1 : (s.heap.push (newSetObj w)).get? l = some { cls := .type "list", dict := odict, data := .seq items nl, slots := oslots } := Heap.get?_push_of_some _ hol
        have seq1 : (s.heap.push (newSetObj w)).IsList l items := ⟨_, at1, rfl, nl, rfl⟩
        have n1 := F.sub_list_set
        have n2 := F.sub_list_frozenset
        have n3 : (Value.type "list" == Value.type "dict") = false := by decide
        unfold Builtin.«set.__init__» noKeywords Builtin.Frozenset.updateFrom
        generalize hPI : pyIter = PI
        wp_walk
        subst hPI
        refine wpAny_pyIter_list seq1 ?_
        refine wpAny_bind (wpAny_runValue ?_)
        have hh3 : A.in1.in1.in1.handled = none := by simp [hh]
        have sz1 : (s.heap.push (newSetObj w)).objs.size = s.heap.objs.size + 1 := Heap.size_push ..
        have lS : l < s.heap.objs.size := Heap.lt_size hol
        have apart : l ≠ (s.heap.push (newSetObj w)).objs.size := Nat.ne_of_lt (by rw [sz1]; exact Nat.lt_succ_of_lt lS)
        refine setG_loop ((Walks.list hh3 _ l apart items).toS) s.heap.objs.size (by rw [sz1]; simp only [List.mem_cons, List.not_mem_nil, or_false, not_or]; exact ⟨Nat.ne_of_lt (Nat.lt_succ_self _), Nat.ne_of_gt lS⟩) ks hsz hb hit (items.size - 0) 0 _ (by omega) (Nat.zero_le _) ⟨⟨_, Heap.get?_push_size _ rfl, rfl, rfl⟩, (seq1.push _)⟩ ?hS0 ?hR
        case hS0 => exact ⟨0, Nat.le_refl 0, setG_empty (Heap.get?_push_of_some _ at0) fun k => by unfold hasK; rw [List.take_zero]; rfl⟩
        case hR =>
          intro s3 c3 mv hc3 hS3
          obtain ⟨h3, g3, d3, tk3, os3⟩ := s3
          obtain rfl : g3 = s.gens := mv.gens
          obtain rfl : d3 = s.drawn := mv.drawn
          obtain rfl : os3 = s.os := mv.os
          refine wpAny_pure (?_ : wpAny _ _ (ret Value.none) _ _ _)
          refine wpAny_pure ⟨rfl, h3, tk3, c3, rfl, hS3, (by rw [← hsz]; exact hc3), fun b o e => ?_⟩
          have lt0 : b < s.heap.objs.size := Heap.lt_size e
          refine mv.heap b o (fun z => ?_) (Heap.get?_push_of_some _ (Heap.get?_push_of_some _ e))
          simp only [List.mem_cons, List.not_mem_nil, or_false] at z
          rcases z with z | z
          · exact absurd lt0 (by rw [z]; exact Nat.lt_irrefl _)
          · exact absurd lt0 (by rw [z, sz1]; exact Nat.not_lt_of_le (Nat.le_succ _))
      · cases res₂ with
        | error e => exact hr₂
        | ok fl₂ =>
          cases fl₂ with
          | ret r =>
            obtain ⟨rfl, h3, tk3, c3, rfl, hS3, hc3, hk3⟩ := hr₂
            repeat (any_goals (first | assumption | wp_step))
            exact h _ _ _ hS3 hc3 hk3
          | _ => exact hr₂.elim
    | _ => exact hr.elim
end
end MR

namespace MR
open PySem PySem.Spec PyProof.Rows L2
section
variable {P : Program} {w : World} {A : Around} {E : Value → Shared → Prop} {s : Shared} {a : Addr} {S : Key → Bool} {n : Nat}

set_option maxHeartbeats 3200000 in
theorem call_set_tuple {l : Addr} {items : Array Value} (ks : List Key) {Q : Value → Shared → Prop} (hh : A.handled = none) (hl : s.heap.IsTuple l items) (hsz : items.size = ks.length) (hit : ∀ (i : Nat) (v : Value), items[i]? = some v → ∃ k, ks[i]? = some k ∧ kOf v = some k) (hb : ks.length + 1 < scanBound)
    (h : ∀ (h' : Heap) (tk c : Nat), SetG w h' s.heap.objs.size (fun j => hasK ks j) c → c ≤ ks.length → (∀ b o, s.heap.get? b = some o → h'.get? b = some o) → Q (.ref s.heap.objs.size) { s with heap := h', toks := tk }) :
    wpAny (model P w) A (call (.type "set") [.ref l]) Q E s := by
  obtain ⟨c0, tl, hmro⟩ := F.called_set.mro
  have is_made := F.called_set.made
  have is_sub := F.called_set.sub
  refine wpAny_call (codeAny_of_tree (?_ : wpAny _ _ (callAny (.type "set") _) _ _ _))
  refine wpAny_pure ⟨Code.quiet_builtin _ (by decide +kernel), codeAny_builtin F.entry_type_call ?_⟩
  rw [Around.under_plain (weight_type_call_type "set" [.ref l] []) rfl]
  have f1 := F.called_set.notType
  have f2 := F.called_set.canCreate
  have f3 := F.typeCall_set_1 (.ref l)
  repeat (any_goals (first | assumption | wp_step))
  refine codeAny_mono (code_new1 (.ref l) (E := E) (Q₁ := fun ob s₁ => ob = .ref s.heap.objs.size ∧ s₁ = { s with heap := s.heap.push (newSetObj w) }) ⟨rfl, rfl⟩) fun res s₁ hr => ?_
  cases res with
  | error e => exact hr
  | ok fl =>
    cases fl with
    | ret obj =>
      obtain ⟨rfl, rfl⟩ := hr
      have at0 : (s.heap.push (newSetObj w)).get? s.heap.objs.size = some (newSetObj w) := Heap.get?_push_size _ rfl
      have ty0 : Shared.TypeIs { s with heap := s.heap.push (newSetObj w) } (.ref s.heap.objs.size) "set" := ⟨_, at0, rfl⟩
      have li := F.called_set.init.lookup
      have bi := F.called_set.init.bind (.ref s.heap.objs.size)
      repeat (any_goals (first | assumption | wp_step))
      refine codeAny_mono (codeAny_call_builtin (R := wants (fun r s₂ => r = .none ∧ ∃ h' tk c, s₂ = { s with heap := h', toks := tk } ∧ SetG w h' s.heap.objs.size (fun j => hasK ks j) c ∧ c ≤ ks.length ∧
          ∀ b o, s.heap.get? b = some o → h'.get? b = some o) E) F.called_set.init.plain F.entry_set_init (check_set_init_1 ty0 ?_)) fun res₂ s₂ hr₂ => ?_
      · obtain ⟨ol, hol, hcl, nl, hdl⟩ := hl
        obtain ⟨ocls, odict, odata, oslots⟩ := ol
        simp only at hcl hdl
        subst hcl; subst hdl
        have at1 : (s.heap.push (newSetObj w)).get? l = some { cls := .type "tuple", dict := odict, data := .seq items nl, slots := oslots } := Heap.get?_push_of_some _ hol
        have seq1 : (s.heap.push (newSetObj w)).IsTuple l items := ⟨_, at1, rfl, nl, rfl⟩
        have n1 := F.sub_tuple_set
        have n2 := F.sub_tuple_frozenset
        have n3 : (Value.type "tuple" == Value.type "dict") = false := by decide
        unfold Builtin.«set.__init__» noKeywords Builtin.Frozenset.updateFrom
        generalize hPI : pyIter = PI
        wp_walk
        subst hPI
        refine wpAny_pyIter_tuple seq1 ?_
        refine wpAny_bind (wpAny_runValue ?_)
        have hh3 : A.in1.in1.in1.handled = none := by simp [hh]
        have sz1 : (s.heap.push (newSetObj w)).objs.size = s.heap.objs.size + 1 := Heap.size_push ..
        have lS : l < s.heap.objs.size := Heap.lt_size hol
        have apart : l ≠ (s.heap.push (newSetObj w)).objs.size := Nat.ne_of_lt (by rw [sz1]; exact Nat.lt_succ_of_lt lS)
        refine setG_loop ((Walks.tuple hh3 _ l apart items).toS) s.heap.objs.size (by rw [sz1]; simp only [List.mem_cons, List.not_mem_nil, or_false, not_or]; exact ⟨Nat.ne_of_lt (Nat.lt_succ_self _), Nat.ne_of_gt lS⟩) ks hsz hb hit (items.size - 0) 0 _ (by omega) (Nat.zero_le _) ⟨⟨_, Heap.get?_push_size _ rfl, rfl, rfl⟩, (seq1.push _)⟩ ?hS0 ?hR
        case hS0 => exact ⟨0, Nat.le_refl 0, setG_empty (Heap.get?_push_of_some _ at0) fun k => by unfold hasK; rw [List.take_zero]; rfl⟩
        case hR =>
          intro s3 c3 mv hc3 hS3
          obtain ⟨h3, g3, d3, tk3, os3⟩ := s3
          obtain rfl : g3 = s.gens := mv.gens
          obtain rfl : d3 = s.drawn := mv.drawn
          obtain rfl : os3 = s.os := mv.os
          refine wpAny_pure (?_ : wpAny _ _ (ret Value.none) _ _ _)
          refine wpAny_pure ⟨rfl, h3, tk3, c3, rfl, hS3, (by rw [← hsz]; exact hc3), fun b o e => ?_⟩
          have lt0 : b < s.heap.objs.size := Heap.lt_size e
          refine mv.heap b o (fun z => ?_) (Heap.get?_push_of_some _ (Heap.get?_push_of_some _ e))
          simp only [List.mem_cons, List.not_mem_nil, or_false] at z
          rcases z with z | z
          · exact absurd lt0 (by rw [z]; exact Nat.lt_irrefl _)
          · exact absurd lt0 (by rw [z, sz1]; exact Nat.not_lt_of_le (Nat.le_succ _))
      · cases res₂ with
        | error e => exact hr₂
        | ok fl₂ =>
          cases fl₂ with
          | ret r =>
            obtain ⟨rfl, h3, tk3, c3, rfl, hS3, hc3, hk3⟩ := hr₂
            repeat (any_goals (first | assumption | wp_step))
            exact h _ _ _ hS3 hc3 hk3
          | _ => exact hr₂.elim
    | _ => exact hr.elim
end
end MR

namespace MR
open PySem PySem.Spec PyProof.Rows L2
section
variable {P : Program} {w : World} {A : Around} {E : Value → Shared → Prop} {s : Shared} {a : Addr} {S : Key → Bool} {n : Nat}

set_option maxHeartbeats 3200000 in
theorem call_set_ascii {x : Str} {t : Tok} (ks : List Key) {Q : Value → Shared → Prop} (hh : A.handled = none) (ha : x.cps.all (· < 128) = true) (hks : ks = x.cps.toList.map fun c => Sum.inr ⟨#[c]⟩) (hb : ks.length + 1 < scanBound)
    (h : ∀ (h' : Heap) (tk c : Nat), SetG w h' s.heap.objs.size (fun j => hasK ks j) c → c ≤ ks.length → (∀ b o, s.heap.get? b = some o → h'.get? b = some o) → Q (.ref s.heap.objs.size) { s with heap := h', toks := tk }) :
    wpAny (model P w) A (call (.type "set") [.str x t]) Q E s := by
  obtain ⟨c0, tl, hmro⟩ := F.called_set.mro
  have is_made := F.called_set.made
  have is_sub := F.called_set.sub
  refine wpAny_call (codeAny_of_tree (?_ : wpAny _ _ (callAny (.type "set") _) _ _ _))
  refine wpAny_pure ⟨Code.quiet_builtin _ (by decide +kernel), codeAny_builtin F.entry_type_call ?_⟩
  rw [Around.under_plain (weight_type_call_type "set" [.str x t] []) rfl]
  have f1 := F.called_set.notType
  have f2 := F.called_set.canCreate
  have f3 := F.typeCall_set_1 (.str x t)
  repeat (any_goals (first | assumption | wp_step))
  refine codeAny_mono (code_new1 (.str x t) (E := E) (Q₁ := fun ob s₁ => ob = .ref s.heap.objs.size ∧ s₁ = { s with heap := s.heap.push (newSetObj w) }) ⟨rfl, rfl⟩) fun res s₁ hr => ?_
  cases res with
  | error e => exact hr
  | ok fl =>
    cases fl with
    | ret obj =>
      obtain ⟨rfl, rfl⟩ := hr
      have at0 : (s.heap.push (newSetObj w)).get? s.heap.objs.size = some (newSetObj w) := Heap.get?_push_size _ rfl
      have ty0 : Shared.TypeIs { s with heap := s.heap.push (newSetObj w) } (.ref s.heap.objs.size) "set" := ⟨_, at0, rfl⟩
      have li := F.called_set.init.lookup
      have bi := F.called_set.init.bind (.ref s.heap.objs.size)
      repeat (any_goals (first | assumption | wp_step))
      refine codeAny_mono (codeAny_call_builtin (R := wants (fun r s₂ => r = .none ∧ ∃ h' tk c, s₂ = { s with heap := h', toks := tk } ∧ SetG w h' s.heap.objs.size (fun j => hasK ks j) c ∧ c ≤ ks.length ∧
          ∀ b o, s.heap.get? b = some o → h'.get? b = some o) E) F.called_set.init.plain F.entry_set_init (check_set_init_1 ty0 ?_)) fun res₂ s₂ hr₂ => ?_
      · skip
        have n1 := F.sub_str_set
        have n2 := F.sub_str_frozenset
        have n3 : (Value.type "str" == Value.type "dict") = false := by decide
        unfold Builtin.«set.__init__» noKeywords Builtin.Frozenset.updateFrom
        generalize hPI : pyIter = PI
        wp_walk
        subst hPI
        refine wpAny_pyIter_ascii ha ?_
        refine wpAny_bind (wpAny_runValue ?_)
        have hh3 : A.in1.in1.in1.handled = none := by simp [hh]
        have sz1 : (s.heap.push (newSetObj w)).objs.size = s.heap.objs.size + 1 := Heap.size_push ..

        refine setG_loop ((Walks.strAscii hh3 _ x t).toS) s.heap.objs.size (by rw [sz1]; simp only [List.mem_cons, List.not_mem_nil, or_false]; exact Nat.ne_of_lt (Nat.lt_succ_self _)) ks (by rw [hks, List.length_map, Array.length_toList]) hb (fun i v ⟨c, t2, e1, e2⟩ => ⟨.inr ⟨#[c]⟩, by rw [hks, List.getElem?_map, Array.getElem?_toList, e1]; rfl, by rw [e2]; rfl⟩) (x.cps.size - 0) 0 _ (by omega) (Nat.zero_le _) ⟨_, Heap.get?_push_size _ rfl, rfl, rfl⟩ ?hS0 ?hR
        case hS0 => exact ⟨0, Nat.le_refl 0, setG_empty (Heap.get?_push_of_some _ at0) fun k => by unfold hasK; rw [List.take_zero]; rfl⟩
        case hR =>
          intro s3 c3 mv hc3 hS3
          obtain ⟨h3, g3, d3, tk3, os3⟩ := s3
          obtain rfl : g3 = s.gens := mv.gens
          obtain rfl : d3 = s.drawn := mv.drawn
          obtain rfl : os3 = s.os := mv.os
          refine wpAny_pure (?_ : wpAny _ _ (ret Value.none) _ _ _)
          refine wpAny_pure ⟨rfl, h3, tk3, c3, rfl, hS3, (by rw [hks, List.length_map, Array.length_toList]; exact hc3), fun b o e => ?_⟩
          have lt0 : b < s.heap.objs.size := Heap.lt_size e
          refine mv.heap b o (fun z => ?_) (Heap.get?_push_of_some _ (Heap.get?_push_of_some _ e))
          simp only [List.mem_cons, List.not_mem_nil, or_false] at z
          rcases z with z | z
          · exact absurd lt0 (by rw [z]; exact Nat.lt_irrefl _)
          · exact absurd lt0 (by rw [z, sz1]; exact Nat.not_lt_of_le (Nat.le_succ _))
      · cases res₂ with
        | error e => exact hr₂
        | ok fl₂ =>
          cases fl₂ with
          | ret r =>
            obtain ⟨rfl, h3, tk3, c3, rfl, hS3, hc3, hk3⟩ := hr₂
            repeat (any_goals (first | assumption | wp_step))
            exact h _ _ _ hS3 hc3 hk3
          | _ => exact hr₂.elim
    | _ => exact hr.elim
end
end MR

namespace MR
open PySem PySem.Spec PyProof.Rows L2
section
variable {P : Program} {w : World} {A : Around} {E : Value → Shared → Prop} {s : Shared} {a : Addr} {S : Key → Bool} {n : Nat}

set_option maxHeartbeats 3200000 in
theorem call_set_wide {x : Str} {t : Tok} (ks : List Key) {Q : Value → Shared → Prop} (hh : A.handled = none) (ha : x.cps.all (· < 128) = false) (hks : ks = x.cps.toList.map fun c => Sum.inr ⟨#[c]⟩) (hb : ks.length + 1 < scanBound)
    (h : ∀ (h' : Heap) (tk c : Nat), SetG w h' s.heap.objs.size (fun j => hasK ks j) c → c ≤ ks.length → (∀ b o, s.heap.get? b = some o → h'.get? b = some o) → Q (.ref s.heap.objs.size) { s with heap := h', toks := tk }) :
    wpAny (model P w) A (call (.type "set") [.str x t]) Q E s := by
  obtain ⟨c0, tl, hmro⟩ := F.called_set.mro
  have is_made := F.called_set.made
  have is_sub := F.called_set.sub
  refine wpAny_call (codeAny_of_tree (?_ : wpAny _ _ (callAny (.type "set") _) _ _ _))
  refine wpAny_pure ⟨Code.quiet_builtin _ (by decide +kernel), codeAny_builtin F.entry_type_call ?_⟩
  rw [Around.under_plain (weight_type_call_type "set" [.str x t] []) rfl]
  have f1 := F.called_set.notType
  have f2 := F.called_set.canCreate
  have f3 := F.typeCall_set_1 (.str x t)
  repeat (any_goals (first | assumption | wp_step))
  refine codeAny_mono (code_new1 (.str x t) (E := E) (Q₁ := fun ob s₁ => ob = .ref s.heap.objs.size ∧ s₁ = { s with heap := s.heap.push (newSetObj w) }) ⟨rfl, rfl⟩) fun res s₁ hr => ?_
  cases res with
  | error e => exact hr
  | ok fl =>
    cases fl with
    | ret obj =>
      obtain ⟨rfl, rfl⟩ := hr
      have at0 : (s.heap.push (newSetObj w)).get? s.heap.objs.size = some (newSetObj w) := Heap.get?_push_size _ rfl
      have ty0 : Shared.TypeIs { s with heap := s.heap.push (newSetObj w) } (.ref s.heap.objs.size) "set" := ⟨_, at0, rfl⟩
      have li := F.called_set.init.lookup
      have bi := F.called_set.init.bind (.ref s.heap.objs.size)
      repeat (any_goals (first | assumption | wp_step))
      refine codeAny_mono (codeAny_call_builtin (R := wants (fun r s₂ => r = .none ∧ ∃ h' tk c, s₂ = { s with heap := h', toks := tk } ∧ SetG w h' s.heap.objs.size (fun j => hasK ks j) c ∧ c ≤ ks.length ∧
          ∀ b o, s.heap.get? b = some o → h'.get? b = some o) E) F.called_set.init.plain F.entry_set_init (check_set_init_1 ty0 ?_)) fun res₂ s₂ hr₂ => ?_
      · skip
        have n1 := F.sub_str_set
        have n2 := F.sub_str_frozenset
        have n3 : (Value.type "str" == Value.type "dict") = false := by decide
        unfold Builtin.«set.__init__» noKeywords Builtin.Frozenset.updateFrom
        generalize hPI : pyIter = PI
        wp_walk
        subst hPI
        refine wpAny_pyIter_wide ha ?_
        refine wpAny_bind (wpAny_runValue ?_)
        have hh3 : A.in1.in1.in1.handled = none := by simp [hh]
        have sz1 : (s.heap.push (newSetObj w)).objs.size = s.heap.objs.size + 1 := Heap.size_push ..

        refine setG_loop ((Walks.strWide hh3 _ x t).toS) s.heap.objs.size (by rw [sz1]; simp only [List.mem_cons, List.not_mem_nil, or_false]; exact Nat.ne_of_lt (Nat.lt_succ_self _)) ks (by rw [hks, List.length_map, Array.length_toList]) hb (fun i v ⟨c, t2, e1, e2⟩ => ⟨.inr ⟨#[c]⟩, by rw [hks, List.getElem?_map, Array.getElem?_toList, e1]; rfl, by rw [e2]; rfl⟩) (x.cps.size - 0) 0 _ (by omega) (Nat.zero_le _) ⟨_, Heap.get?_push_size _ rfl, rfl, rfl⟩ ?hS0 ?hR
        case hS0 => exact ⟨0, Nat.le_refl 0, setG_empty (Heap.get?_push_of_some _ at0) fun k => by unfold hasK; rw [List.take_zero]; rfl⟩
        case hR =>
          intro s3 c3 mv hc3 hS3
          obtain ⟨h3, g3, d3, tk3, os3⟩ := s3
          obtain rfl : g3 = s.gens := mv.gens
          obtain rfl : d3 = s.drawn := mv.drawn
          obtain rfl : os3 = s.os := mv.os
          refine wpAny_pure (?_ : wpAny _ _ (ret Value.none) _ _ _)
          refine wpAny_pure ⟨rfl, h3, tk3, c3, rfl, hS3, (by rw [hks, List.length_map, Array.length_toList]; exact hc3), fun b o e => ?_⟩
          have lt0 : b < s.heap.objs.size := Heap.lt_size e
          refine mv.heap b o (fun z => ?_) (Heap.get?_push_of_some _ (Heap.get?_push_of_some _ e))
          simp only [List.mem_cons, List.not_mem_nil, or_false] at z
          rcases z with z | z
          · exact absurd lt0 (by rw [z]; exact Nat.lt_irrefl _)
          · exact absurd lt0 (by rw [z, sz1]; exact Nat.not_lt_of_le (Nat.le_succ _))
      · cases res₂ with
        | error e => exact hr₂
        | ok fl₂ =>
          cases fl₂ with
          | ret r =>
            obtain ⟨rfl, h3, tk3, c3, rfl, hS3, hc3, hk3⟩ := hr₂
            repeat (any_goals (first | assumption | wp_step))
            exact h _ _ _ hS3 hc3 hk3
          | _ => exact hr₂.elim
    | _ => exact hr.elim
end
end MR

namespace MR
open PySem PySem.Spec PyProof.Rows L2
section
variable {P : Program} {w : World} {A : Around} {E : Value → Shared → Prop} {s : Shared} {a : Addr} {S : Key → Bool} {n : Nat}

def txtOf (v : Value) : Str := match v with
  | .str x _ => x
  | _ => Str.empty
/-- the texts of a set, sorted -/
theorem sorted_setG {n : Nat} {Q : Value → Shared → Prop} (R : SetG w s.heap a S n) (hh : A.handled = none) (hu : A.units + 64 < cLine) (hs : ∀ k, S k = true → ∃ x, k = Sum.inr x)
    (hQ : ∀ s' p (out : Array Value) (c : Nat) (xs : List Str), (∀ b o, s.heap.get? b = some o → s'.heap.get? b = some o) → s'.gens = s.gens → s'.os = s.os → s.heap.objs.size ≤ p →
      s'.heap.get? p = some (seqObj "list" out c) → PySem.W.EachIs (fun v x => ∃ t, v = Value.str x t) out.toList xs → (∃ ys : List Str, xs = ys.mergeSort (PySem.W.dataLe false PyData.str) ∧ ys.length ≤ sizeLine ∧ ys.Nodup ∧ (∀ x, x ∈ ys ↔ S (Sum.inr x) = true)) → Q (.ref p) s') :
    wpAny (model P w) A (call (.builtin "sorted") [.ref a]) Q E s := by
  obtain ⟨ob, el, ep, tb, ho, hx, hd, g, nd, hm, hb, hf, hn, hr, hl⟩ := R
  refine Calls.call_function_entry kind_sorted plain_sorted entry_sorted (args_sorted1 _) ?_
  unfold Builtin.«sorted»
  refine wpAny_bind (m := checkCount "sorted" 1 1 _) (wpAny_pure (wpAny_bind (collect_set (A := A.in1) hh ⟨ob, ho, hx.1, hd⟩ hf hb hr hl fun s1 vs k1 hz g1 o1 pm => ?_)))
  have texts : ∀ v ∈ vs, ∃ x t, v = Value.str x t := fun v hv => by
    obtain ⟨e, he, q⟩ := List.mem_map.mp (pm.mem_iff.mp hv)
    obtain ⟨k, hk, _⟩ := g e he
    obtain ⟨x, rfl⟩ := hs k ((hm k).2 (List.mem_map.mpr ⟨e, he, hk⟩))
    rw [q] at hk
    cases v with
    | str y t =>
      cases hk
      exact ⟨_, t, rfl⟩
    | int i t => cases hk
    | _ => cases hk
  have vl : vs.length ≤ sizeLine := by
    rw [pm.length_eq, List.length_map, Array.length_toList]
    exact fits_of_scanBound hb
  have each : PySem.W.EachIs (fun v x => ∃ t, v = Value.str x t) vs (vs.map txtOf) := by
    clear pm hz g1 o1 vl k1
    induction vs with
    | nil => exact .nil
    | cons v l ih =>
      obtain ⟨x, t, rfl⟩ := texts v List.mem_cons_self
      exact .cons ⟨t, rfl⟩ (ih fun u hu => texts u (List.mem_cons_of_mem _ hu))
  refine wpAny_bind (wpAny_newList ?_ vl)
  have at1 : (s1.heap.push (seqObj "list" vs.toArray 0)).get? s1.heap.objs.size = some (seqObj "list" vs.toArray 0) := Heap.get?_push_size _ rfl
  have er : PySem.W.EachIs (fun v x => ∃ as, Reads (s1.heap.push (seqObj "list" vs.toArray 0)) v (PyData.str x) as ∧ s1.heap.objs.size ∉ as) vs (vs.map txtOf) := each.mono fun v x ⟨t, e⟩ => by
    rw [e]
    exact ⟨[], .str x t, List.not_mem_nil⟩
  refine wpAny_bind (wpAny_holding (PySem.W.list_sort_data (A := A.in1) (s := { s1 with heap := s1.heap.push (seqObj "list" vs.toArray 0) }) at1 each er (PySem.W.AllAlike.of fun _ _ => rfl) (PySem.W.Sortable.others fun _ => ⟨fun z => (nomatch z), fun _ z => (nomatch z)⟩)
    (by rw [List.length_map]; exact vl) (fun x _ => by show A.units + 1 + 1 + 0 < cLine; omega) fun out hlen eo => ?_))
  obtain ⟨c, hc⟩ := sortedHeap_at (vs := vs) (out := out.toArray) at1
  refine wpAny_pure ⟨_, rfl, hQ _ s1.heap.objs.size out.toArray c _ (fun b u e => ?_) g1 o1 hz hc (by rw [List.toList_toArray]; exact eo) ⟨_, rfl, by rw [List.length_map]; exact vl, ?_, fun x => ?_⟩⟩
  · have q := k1 b u e
    have lt := Heap.lt_size q
    show (sortedHeap (s1.heap.push (seqObj "list" vs.toArray 0)) s1.heap.objs.size vs out.toArray).get? b = some u
    rw [sortedHeap_old (Nat.ne_of_lt lt) (by rw [size_push']; exact Nat.lt_succ_of_lt lt)]
    exact Heap.get?_push_of_some _ q
  · have nk : (vs.map kOf).Nodup := by
      have q := (pm.map kOf).nodup_iff
      rw [List.map_map] at q
      exact q.mpr nd
    have e : vs.map kOf = (vs.map txtOf).map fun x => some (Sum.inr x : Key) := by
      rw [List.map_map]
      refine List.map_congr_left fun v hv => ?_
      obtain ⟨x, t, rfl⟩ := texts v hv
      rfl
    rw [e] at nk
    exact List.Pairwise.of_map _ (fun a b h z => h (by rw [z])) nk
  · rw [hm, List.mem_map, List.mem_map]
    constructor
    · rintro ⟨v, hv, rfl⟩
      obtain ⟨e, he, q⟩ := List.mem_map.mp (pm.mem_iff.mp hv)
      obtain ⟨y, t, rfl⟩ := texts v hv
      exact ⟨e, he, by rw [q]; rfl⟩
    · rintro ⟨e, he, q⟩
      have hv : e.2 ∈ vs := pm.mem_iff.mpr (List.mem_map.mpr ⟨e, he, rfl⟩)
      obtain ⟨y, t, ey⟩ := texts _ hv
      refine ⟨e.2, hv, ?_⟩
      rw [ey] at q ⊢
      cases q
      rfl
end
end MR

/-! The data layer: what a program does with values that read as data, without addresses. -/
namespace MR
open PySem PySem.Spec PyProof.Rows L2

/-- a key as data -/
def keyD : Key → PyData
  | .inl i => .int i
  | .inr x => .str x
/-- of at most n bits -/
def Bd (n : Nat) (i : Int) : Prop := ∃ b : Nat, 0 < b ∧ b ≤ n ∧ i.natAbs < 2 ^ b
/-- the well of drawn numbers: the one object that the defs change -/
def Well (o : HO) : Prop := ∃ i j : Int, o = .dK [(.inr "digits", .int i), (.inr "mixed", .int j)] ∧ 0 ≤ i ∧ Bd 2000000 i ∧ 0 ≤ j ∧ j < 4294967296

mutual
/-- the value v reads as the data d -/
def Rp (K : PySem.W.Frag) (H : Hp) : PyData → V → Prop
  | .none, v => v = .non
  | .bool b, v => v = .bl b
  | .int i, v => v = .int i
  | .str x, v => v = .str x
  | .list ds, v => ∃ a xs, v = .ref a ∧ H a = some (.lst xs) ∧ RpA K H ds xs
  | .tuple ds, v => ∃ a xs, v = .ref a ∧ SqT K H a xs ∧ RpA K H ds xs
  | .dict kvs, v => ∃ a es, v = .ref a ∧ H a = some (.dK es) ∧ ¬ Well (.dK es) ∧ RpK K H kvs es
def RpA (K : PySem.W.Frag) (H : Hp) : List PyData → List V → Prop
  | [], vs => vs = []
  | d :: ds, vs => ∃ v r, vs = v :: r ∧ Rp K H d v ∧ RpA K H ds r
def RpK (K : PySem.W.Frag) (H : Hp) : List (PyData × PyData) → List (Key × V) → Prop
  | [], es => es = []
  | (k, d) :: r, es => ∃ k' v q, es = (k', v) :: q ∧ k = keyD k' ∧ Rp K H d v ∧ RpK K H r q
end

/-! ### what may change: the wells alone -/
def Ext (H H' : Hp) : Prop := ∀ a o, H a = some o → H' a = some o ∨ (Well o ∧ ∃ o', H' a = some o' ∧ Well o')
def hide (P : Addr → Bool) (H : Hp) : Hp := fun a => if P a = true then none else H a
theorem Ext.refl (H : Hp) : Ext H H := fun _ _ h => .inl h
theorem Ext.trans {H H1 H2 : Hp} (x : Ext H H1) (y : Ext H1 H2) : Ext H H2 := fun a o h => by
  rcases x a o h with h1 | ⟨w, o1, h1, w1⟩
  · exact y a o h1
  · rcases y a o1 h1 with h2 | ⟨_, o2, h2, w2⟩
    · exact .inr ⟨w, o1, h2, w1⟩
    · exact .inr ⟨w, o2, h2, w2⟩
theorem Ext.same {H H' : Hp} (x : Same H H') : Ext H H' := fun a o h => .inl (x a o h)
theorem Ext.new {H : Hp} {p : Addr} {o : HO} (h : H p = none) : Ext H (upd H p o) := fun a u e => .inl (by
  rw [upd_ne (ne_of_none e h)]
  exact e)
theorem Ext.none {H H' : Hp} {p : Addr} (x : Ext H H') (h : H' p = Option.none) : H p = Option.none := by
  cases q : H p with
  | none => rfl
  | some o =>
    rcases x p o q with z | ⟨_, _, z, _⟩ <;> (rw [z] at h; cases h)
theorem Ext.some {H H' : Hp} {p : Addr} (x : Ext H H') (h : H p ≠ Option.none) : H' p ≠ Option.none := fun z => h (x.none z)
theorem Ext.hide {H H' : Hp} (P : Addr → Bool) (x : Ext H H') : Ext (hide P H) (hide P H') := fun a o h => by
  unfold MR.hide at h ⊢
  split at h
  · cases h
  · rename_i n
    rw [if_neg n]
    exact x a o h
theorem hide_ext (P : Addr → Bool) (H : Hp) : Ext (hide P H) H := fun a o h => by
  unfold hide at h
  split at h
  · cases h
  · exact .inl h
theorem hide_less {P P' : Addr → Bool} (H : Hp) (h : ∀ a, P a = true → P' a = true) : Ext (hide P' H) (hide P H) := fun a o e => by
  unfold hide at e ⊢
  split at e
  · cases e
  · rename_i n
    rw [if_neg (fun z => n (h a z))]
    exact .inl e
theorem hide_at {P : Addr → Bool} {H : Hp} {a : Addr} (h : P a = false) : hide P H a = H a := by
  unfold hide
  rw [h, if_neg Bool.false_ne_true]
/-- what is private stands there; the table of modules is private to all -/
def Dom (P : Addr → Bool) (H : Hp) : Prop := P sysModules = true ∧ ∀ a, P a = true → H a ≠ none
theorem hide_off (H : Hp) : hide (fun _ => false) H = H := funext fun a => hide_at rfl
theorem Ext.lst {H H' : Hp} {a : Addr} {xs : List V} (x : Ext H H') (h : H a = Option.some (.lst xs)) : H' a = Option.some (.lst xs) := by
  rcases x a _ h with z | ⟨⟨_, _, z, _⟩, _⟩
  · exact z
  · cases z
theorem Ext.seqL {K : PySem.W.Frag} {H H' : Hp} {a : Addr} {xs : List V} (x : Ext H H') (h : SqL K H a xs) : SqL K H' a xs := by
  rcases h with (h | ⟨o, h⟩) | h
  · exact .inl (.inl (x.lst h))
  · rcases x a _ h with z | ⟨⟨_, _, z, _⟩, _⟩
    · exact .inl (.inr ⟨o, z⟩)
    · cases z
  · exact .inr h
theorem Ext.seqT {K : PySem.W.Frag} {H H' : Hp} {a : Addr} {xs : List V} (x : Ext H H') (h : SqT K H a xs) : SqT K H' a xs := by
  rcases h with (h | ⟨o, h⟩) | h
  · rcases x a _ h with z | ⟨⟨_, _, z, _⟩, _⟩
    · exact .inl (.inl z)
    · cases z
  · rcases x a _ h with z | ⟨⟨_, _, z, _⟩, _⟩
    · exact .inl (.inr ⟨o, z⟩)
    · cases z
  · exact .inr h
mutual
theorem Rp.ext {K : PySem.W.Frag} {H H' : Hp} (x : Ext H H') : ∀ {d : PyData} {v : V}, Rp K H d v → Rp K H' d v
  | .none, _, h => h
  | .bool _, _, h => h
  | .int _, _, h => h
  | .str _, _, h => h
  | .list _, _, ⟨a, xs, e, q, r⟩ => ⟨a, xs, e, x.lst q, RpA.ext x r⟩
  | .tuple _, _, ⟨a, xs, e, q, r⟩ => ⟨a, xs, e, x.seqT q, RpA.ext x r⟩
  | .dict _, _, ⟨a, es, e, q, n, r⟩ => ⟨a, es, e, (x a _ q).resolve_right fun z => n z.1, n, RpK.ext x r⟩
theorem RpA.ext {K : PySem.W.Frag} {H H' : Hp} (x : Ext H H') : ∀ {ds : List PyData} {vs : List V}, RpA K H ds vs → RpA K H' ds vs
  | [], _, h => h
  | _ :: _, _, ⟨v, r, e, h, t⟩ => ⟨v, r, e, Rp.ext x h, RpA.ext x t⟩
theorem RpK.ext {K : PySem.W.Frag} {H H' : Hp} (x : Ext H H') : ∀ {ds : List (PyData × PyData)} {vs : List (Key × V)}, RpK K H ds vs → RpK K H' ds vs
  | [], _, h => h
  | (_, _) :: _, _, ⟨k, v, q, e, ek, h, t⟩ => ⟨k, v, q, e, ek, Rp.ext x h, RpK.ext x t⟩
end
theorem RpA.len {K : PySem.W.Frag} {H : Hp} : ∀ {ds : List PyData} {vs : List V}, RpA K H ds vs → ds.length = vs.length
  | [], vs, h => by rw [show vs = [] from h]; rfl
  | _ :: _, _, ⟨v, r, e, _, t⟩ => by rw [e, List.length_cons, List.length_cons, RpA.len t]
theorem RpA.app {K : PySem.W.Frag} {H : Hp} : ∀ {ds es : List PyData} {vs us : List V}, RpA K H ds vs → RpA K H es us → RpA K H (ds ++ es) (vs ++ us)
  | [], _, vs, _, h, q => by rw [show vs = [] from h]; exact q
  | _ :: _, _, _, _, ⟨v, r, e, h, t⟩, q => ⟨v, _, by rw [e]; rfl, h, RpA.app t q⟩
theorem RpA.get {K : PySem.W.Frag} {H : Hp} : ∀ {ds : List PyData} {vs : List V} {i : Nat} {d : PyData}, RpA K H ds vs → ds[i]? = some d → ∃ v, vs[i]? = some v ∧ Rp K H d v
  | [], _, _, _, _, e => by cases e
  | _ :: _, _, 0, _, ⟨v, r, q, h, t⟩, e => by
    cases e
    exact ⟨v, by rw [q]; rfl, h⟩
  | _ :: _, _, i + 1, _, ⟨v, r, q, h, t⟩, e => by
    obtain ⟨u, e1, e2⟩ := RpA.get (i := i) t e
    exact ⟨u, by rw [q]; exact e1, e2⟩
theorem RpA.back {K : PySem.W.Frag} {H : Hp} {ds : List PyData} {vs : List V} {i : Nat} {v : V} (h : RpA K H ds vs) (e : vs[i]? = some v) : ∃ d, ds[i]? = some d ∧ Rp K H d v := by
  have hi : i < ds.length := by
    rw [h.len]
    exact (List.getElem?_eq_some_iff.mp e).1
  obtain ⟨u, e1, e2⟩ := h.get (List.getElem?_eq_getElem hi)
  rw [e] at e1
  cases e1
  exact ⟨_, List.getElem?_eq_getElem hi, e2⟩
theorem RpA.take {K : PySem.W.Frag} {H : Hp} : ∀ {ds : List PyData} {vs : List V} (n : Nat), RpA K H ds vs → RpA K H (ds.take n) (vs.take n)
  | _, _, 0, _ => rfl
  | [], vs, n + 1, h => by rw [show vs = [] from h]; rfl
  | _ :: _, _, n + 1, ⟨v, r, e, h, t⟩ => ⟨v, r.take n, by rw [e]; rfl, h, RpA.take n t⟩
theorem RpA.drop {K : PySem.W.Frag} {H : Hp} : ∀ {ds : List PyData} {vs : List V} (n : Nat), RpA K H ds vs → RpA K H (ds.drop n) (vs.drop n)
  | _, _, 0, h => h
  | [], vs, n + 1, h => by rw [show vs = [] from h]; rfl
  | _ :: _, _, n + 1, ⟨v, r, e, h, t⟩ => by rw [e]; exact RpA.drop n t

/-! ### slots -/
/-- data, or what is no data: the well, a set of keys (by its members), a value by itself -/
inductive DV where
  | p (d : PyData) | well | set (ks : List Key) | scr (ns : List Int) | raw (v : V)
/-- the written part, the program, the world -/
structure Ky where
  K : PySem.W.Frag
  P : Program
  w : World
def Cx.ky (X : Cx) : Ky := ⟨X.K, X.prog, X.w⟩
/-- a set of keys, as an object -/
def SetGO (w : World) (a : Addr) (S : Key → Bool) (n : Nat) : HO := .ext fun h => SetG w h a S n
def Rv (κ : Ky) (H : Hp) : DV → V → Prop
  | .p d, v => Rp κ.K H d v
  | .well, v => ∃ a o, v = .ref a ∧ H a = some o ∧ Well o
  | .set ks, v => ∃ a n, v = .ref a ∧ H a = some (SetGO κ.w a (hasK ks) n)
  | .scr ns, v => ∃ a, v = .ref a ∧ SqL κ.K H a (ns.map V.int)
  | .raw u, v => v = u
theorem Rv.ext {κ : Ky} {H H' : Hp} (x : Ext H H') : ∀ {d : DV} {v : V}, Rv κ H d v → Rv κ H' d v
  | .p _, _, h => Rp.ext x h
  | .well, _, ⟨a, o, e, h, w⟩ => by
    rcases x a o h with z | ⟨_, o', z, w'⟩
    · exact ⟨a, o, e, z, w⟩
    · exact ⟨a, o', e, z, w'⟩
  | .set _, _, ⟨a, n, e, h⟩ => ⟨a, n, e, (x a _ h).resolve_right fun ⟨⟨_, _, z, _⟩, _⟩ => by cases z⟩
  | .scr _, _, ⟨a, e, h⟩ => ⟨a, e, x.seqL h⟩
  | .raw _, _, h => h
/-- a slot: nothing, data, a list that this slot alone holds -/
inductive Sl where
  | un | v (d : DV) | own (ds : List PyData)
abbrev Dn := List Sl
abbrev Sg := L2.St
def oor (P L : Addr → Bool) : Addr → Bool := fun a => P a || L a
/-- what stays as it is through a def: its heap at the entry, what is private to the callers, what else is to be kept (as what, where) -/
structure Sc where
  H0 : Hp
  P : Addr → Bool
  bs : List DV
  us : List V
def RvA (κ : Ky) (H : Hp) : List DV → List V → Prop
  | [], vs => vs = []
  | d :: ds, vs => ∃ v r, vs = v :: r ∧ Rv κ H d v ∧ RvA κ H ds r
theorem RvA.ext {κ : Ky} {H H' : Hp} (x : Ext H H') : ∀ {ds : List DV} {vs : List V}, RvA κ H ds vs → RvA κ H' ds vs
  | [], _, h => h
  | _ :: _, _, ⟨v, r, e, h, t⟩ => ⟨v, r, e, h.ext x, RvA.ext x t⟩
theorem RvA.len {κ : Ky} {H : Hp} : ∀ {ds : List DV} {vs : List V}, RvA κ H ds vs → ds.length = vs.length
  | [], vs, h => by rw [show vs = [] from h]; rfl
  | _ :: _, _, ⟨v, r, e, _, t⟩ => by rw [e, List.length_cons, List.length_cons, RvA.len t]
theorem RvA.app {κ : Ky} {H : Hp} : ∀ {ds es : List DV} {vs us : List V}, RvA κ H ds vs → RvA κ H es us → RvA κ H (ds ++ es) (vs ++ us)
  | [], _, vs, _, h, q => by rw [show vs = [] from h]; exact q
  | _ :: _, _, _, _, ⟨v, r, e, h, t⟩, q => ⟨v, _, by rw [e]; rfl, h, RvA.app t q⟩
theorem RvA.split {κ : Ky} {H : Hp} : ∀ {ds es : List DV} {vs us : List V}, ds.length = vs.length → RvA κ H (ds ++ es) (vs ++ us) → RvA κ H ds vs ∧ RvA κ H es us
  | [], _, [], _, _, q => ⟨rfl, q⟩
  | [], _, _ :: _, _, h, _ => by cases h
  | _ :: _, _, [], _, h, _ => by cases h
  | d :: ds, es, v :: vs, us, h, ⟨v', r, e, q, t⟩ => by
    have e' : v :: (vs ++ us) = v' :: r := e
    cases e'
    obtain ⟨h1, h2⟩ := RvA.split (Nat.succ.inj h) t
    exact ⟨⟨v, vs, rfl, q, h1⟩, h2⟩
/-- the slots σ read as δ; L: the lists that single slots hold -/
structure ES (κ : Ky) (c : Sc) (H : Hp) (L : Addr → Bool) (δ : Dn) (σ : Sg) : Prop where
  len : δ.length = σ.length
  val : ∀ (i : Nat) (d : DV), δ[i]? = some (Sl.v d) → ∃ v, σ[i]? = some (some v) ∧ Rv κ (hide (oor c.P L) H) d v
  own : ∀ (i : Nat) (ds : List PyData), δ[i]? = some (Sl.own ds) → ∃ a xs, σ[i]? = some (some (V.ref a)) ∧ L a = true ∧ H a = some (.lst xs) ∧ RpA κ.K (hide (oor c.P L) H) ds xs
  sep : ∀ (i j : Nat) (ds es : List PyData) (a : Addr), i ≠ j → δ[i]? = some (Sl.own ds) → δ[j]? = some (Sl.own es) → σ[i]? = some (some (V.ref a)) → σ[j]? ≠ some (some (V.ref a))
  psys : c.P sysModules = true
  pdom : ∀ a, c.P a = true → c.H0 a ≠ none
  ldom : ∀ a, L a = true → H a ≠ none ∧ c.H0 a = none
  ext : Ext c.H0 H
  kept : RvA κ (hide (oor c.P L) H) c.bs c.us
section
variable {κ : Ky} {c : Sc} {H H' : Hp} {L : Addr → Bool} {δ : Dn} {σ : Sg}
theorem ES.on (s : ES κ c H L δ σ) (x : Ext H H') : ES κ c H' L δ σ where
  len := s.len
  val := fun i d e => by
    obtain ⟨v, h1, h2⟩ := s.val i d e
    exact ⟨v, h1, h2.ext (x.hide _)⟩
  own := fun i ds e => by
    obtain ⟨a, xs, h1, h2, h3, h4⟩ := s.own i ds e
    exact ⟨a, xs, h1, h2, x.lst h3, h4.ext (x.hide _)⟩
  sep := s.sep
  psys := s.psys
  pdom := s.pdom
  ldom := fun a h => ⟨x.some (s.ldom a h).1, (s.ldom a h).2⟩
  ext := s.ext.trans x
  kept := s.kept.ext (x.hide _)
theorem ES.dom (s : ES κ c H L δ σ) : Dom (oor c.P L) H := by
  refine ⟨by unfold oor; rw [s.psys]; rfl, fun a h => ?_⟩
  unfold oor at h
  rcases (Bool.or_eq_true _ _).mp h with z | z
  · exact s.ext.some (s.pdom a z)
  · exact (s.ldom a z).1
end
theorem hide_new {P : Addr → Bool} {H : Hp} {p : Addr} {o : HO} (d : Dom P H) (h : H p = none) : hide P (upd H p o) p = some o := by
  have z : P p = false := by
    cases q : P p with
    | false => rfl
    | true => exact absurd h (d.2 p q)
  rw [hide_at z, upd_same]

/-! ### judgements -/
abbrev TD := Dn → (DV → Prop) → Prop
abbrev TB := Dn → (Bool → Prop) → Prop
abbrev TL := Dn → (List DV → Prop) → Prop
def up (κ : Ky) (t : TD) : TE := fun σ H Q => ∃ δ R c L, ES κ c H L δ σ ∧ t δ R ∧ ∀ v H' d, Ext H H' → Rv κ (hide (oor c.P L) H') d v → R d → Q v H'
def upT (κ : Ky) (t : TB) : TT := fun σ H Q => ∃ δ R c L, ES κ c H L δ σ ∧ t δ R ∧ ∀ b H', Ext H H' → R b → Q b H'
def upA (κ : Ky) (t : TL) : TA := fun σ H Q => ∃ δ R c L, ES κ c H L δ σ ∧ t δ R ∧ ∀ vs H' ds, Ext H H' → RvA κ (hide (oor c.P L) H') ds vs → R ds → Q vs H'
abbrev F2 := DV → DV → (DV → Prop) → Prop
abbrev F1 := DV → (DV → Prop) → Prop
abbrev FL := List DV → (DV → Prop) → Prop
/-- what an operation on values asks, by data -/
def upO (κ : Ky) (f : F2) : R2 := fun x y H Q => ∃ d e R P, Dom P H ∧ Rv κ (hide P H) d x ∧ Rv κ (hide P H) e y ∧ f d e R ∧ ∀ v H' r, Ext H H' → Rv κ (hide P H') r v → R r → Q v H'
def upU (κ : Ky) (f : F1) : V → Hp → VK → Prop := fun x H Q => ∃ d R P, Dom P H ∧ Rv κ (hide P H) d x ∧ f d R ∧ ∀ v H' r, Ext H H' → Rv κ (hide P H') r v → R r → Q v H'
def upC (κ : Ky) (f : FL) : List V → Hp → VK → Prop := fun xs H Q => ∃ ds R P, Dom P H ∧ RvA κ (hide P H) ds xs ∧ f ds R ∧ ∀ v H' r, Ext H H' → Rv κ (hide P H') r v → R r → Q v H'
def upM (κ : Ky) (f : DV → FL) : V → List V → Hp → VK → Prop := fun x xs H Q => ∃ d ds R P, Dom P H ∧ Rv κ (hide P H) d x ∧ RvA κ (hide P H) ds xs ∧ f d ds R ∧ ∀ v H' r, Ext H H' → Rv κ (hide P H') r v → R r → Q v H'
section
variable {X : Cx} {e : Expr} {t t' : TE}
theorem PE.imp (h : PE X e t') (q : ∀ σ H Q, t σ H Q → t' σ H Q) : PE X e t := ⟨fun pins s σ H Q I z => h.run pins s σ H Q I (q σ H Q z)⟩
theorem PT.imp {t t' : TT} (h : PT X e t') (q : ∀ σ H Q, t σ H Q → t' σ H Q) : PT X e t := ⟨fun pins s σ H Q I z => h.run pins s σ H Q I (q σ H Q z)⟩
theorem PW.imp {t t' : TT} (h : PW X e t') (q : ∀ σ H Q, t σ H Q → t' σ H Q) : PW X e t := ⟨fun wh pins s σ H Q I z => h.run wh pins s σ H Q I (q σ H Q z)⟩
theorem PA.imp {es : List Expr} {t t' : TA} (h : PA X es t') (q : ∀ σ H Q, t σ H Q → t' σ H Q) : PA X es t := ⟨fun pos pins s σ H Q I z => h.run pos pins s σ H Q I (q σ H Q z)⟩
theorem PSs.imp {st : List Stmt} {t t' : TS} (h : PSs X st t') (q : ∀ D σ H, t D σ H → t' D σ H) : PSs X st t := ⟨fun pins s σ H D I z => h.run pins s σ H D I (q D σ H z)⟩
theorem PS.imp {st : Stmt} {t t' : TS} (h : PS X st t') (q : ∀ D σ H, t D σ H → t' D σ H) : PS X st t := ⟨fun pins s σ H D I z => h.run pins s σ H D I (q D σ H z)⟩
theorem PI.imp {tg : Expr} {t t' : TI} (h : PI X tg e t') (q : ∀ σ H R, t σ H R → t' σ H R) : PI X tg e t := ⟨fun pins s σ H R I z => h.run pins s σ H R I (q σ H R z)⟩
end

/-! ### expressions -/
def dVar (i : Nat) : TD := fun δ R => match δ.getD i .un with
  | .v d => R d
  | _ => False
def dC (d : DV) : TD := fun _ R => R d
def dOp (f : F2) (ta tb : TD) : TD := fun δ R => ta δ fun d => tb δ fun e => f d e R
def dUn (f : F1) (ta : TD) : TD := fun δ R => ta δ fun d => f d R
def dNil : TL := fun _ R => R []
def dCons (ta : TD) (t : TL) : TL := fun δ R => ta δ fun d => t δ fun ds => R (d :: ds)
section
variable {X : Cx} {a b : Expr} {es : List Expr} {ta tb : TD} {t : TL} {pos : Pos}
theorem up_var {κ : Ky} {i : Nat} {σ : Sg} {H : Hp} {Q : VK} (h : up κ (dVar i) σ H Q) : tVar i σ H Q := by
  obtain ⟨δ, R, c, L, es, h, k⟩ := h
  unfold dVar at h
  rw [List.getD_eq_getElem?_getD] at h
  cases e : δ[i]? with
  | none => rw [e] at h; exact h.elim
  | some s =>
    rw [e] at h
    cases s with
    | un => exact h.elim
    | own ds => exact h.elim
    | v d =>
      obtain ⟨v, h1, h2⟩ := es.val i d e
      exact ⟨v, h1, k v H d (Ext.refl H) h2 h⟩
theorem dv (i : Nat) {x : Str} (hN : X.N[i]? = some x := by rfl) (hv : Vis X.env.scope x := by first | exact Or.inl rfl | exact Or.inr (Or.inl rfl) | exact Or.inr (Or.inr rfl)) (hd : (x == ("__debug__" : Str)) = false := by decide)
    (hcd : (x == ("__classdict__" : Str)) = false := by decide) : PE X (.Name x pos) (up (Cx.ky X) (dVar i)) := PE.imp (pv i hN hv hd hcd) fun _ _ _ h => up_var h
theorem up_c {κ : Ky} {d : DV} {v : V} (r : ∀ H, Rv κ H d v) {σ : Sg} {H : Hp} {Q : VK} (h : up κ (dC d) σ H Q) : tC v σ H Q := by
  obtain ⟨δ, R, c, L, es, h, k⟩ := h
  exact k v H d (Ext.refl H) (r _) h
theorem de_int {i j pos} : PE X (.Constant (.int i) j pos) (up (Cx.ky X) (dC (.p (.int i)))) := PE.imp pe_int fun _ _ _ h => up_c (d := (.p (.int i))) (v := .int i) (fun _ => rfl) h
theorem de_bl {b j pos} : PE X (.Constant (.bool b) j pos) (up (Cx.ky X) (dC (.p (.bool b)))) := PE.imp pe_bl fun _ _ _ h => up_c (d := (.p (.bool b))) (v := .bl b) (fun _ => rfl) h
theorem de_non {j pos} : PE X (.Constant .none j pos) (up (Cx.ky X) (dC (.p .none))) := PE.imp pe_non fun _ _ _ h => up_c (d := (.p .none)) (v := .non) (fun _ => rfl) h
theorem de_str {x j pos} : PE X (.Constant (.str x) j pos) (up (Cx.ky X) (dC (.p (.str x)))) := PE.imp pe_str fun _ _ _ h => up_c (d := (.p (.str x))) (v := .str x) (fun _ => rfl) h
/-- a constant of the module -/
theorem de_glob {x : Str} {d : DV} {v : V} {u : Value} {pos : Pos} (hg : Gl X x) (hm : X.mg x = some u) (r : RelV v u) (q : ∀ H, Rv (Cx.ky X) H d v) (hd : (x == ("__debug__" : Str)) = false := by decide) : PE X (.Name x pos) (up (Cx.ky X) (dC d)) :=
  PE.imp (pe_glob hg hm r hd) fun _ _ _ h => up_c q h
/-- a built-in as a value -/
theorem de_bltn {x : Str} {v : V} {u : Value} {pos : Pos} (hg : Gl X x) (hm : X.mg x = none) (hv : bootBuiltins x = some u) (r : RelV v u) (hn : x ≠ "__name__" := by decide) (hd : (x == ("__debug__" : Str)) = false := by decide) : PE X (.Name x pos) (up (Cx.ky X) (dC (.raw v))) :=
  PE.imp (pe_bltn hg hm hv r hn hd) fun _ _ _ h => up_c (d := (.raw v)) (v := v) (fun _ => rfl) h
theorem up_op {κ : Ky} {f : F2} {σ : Sg} {H : Hp} {Q : VK} (h : up κ (dOp f ta tb) σ H Q) : tOp (upO κ f) (up κ ta) (up κ tb) σ H Q := by
  obtain ⟨δ, R, c, L, es, h, k⟩ := h
  refine ⟨δ, _, c, L, es, h, fun v H1 d x1 r1 h1 => ⟨δ, _, c, L, es.on x1, h1, fun u H2 e x2 r2 h2 => ?_⟩⟩
  exact ⟨d, e, R, _, (es.on (x1.trans x2)).dom, r1.ext (x2.hide _), r2, h2, fun z H3 r x3 q1 q2 => k z H3 r (x1.trans (x2.trans x3)) q1 q2⟩
theorem de_op {op : Operator} {f : F2} (ho : OpR X (binaryOp op) (upO (Cx.ky X) f)) (ha : PE X a (up (Cx.ky X) ta)) (hb : PE X b (up (Cx.ky X) tb)) : PE X (.BinOp a op b pos) (up (Cx.ky X) (dOp f ta tb)) :=
  PE.imp (pe_op ho ha hb) fun _ _ _ h => up_op h
theorem de_cmp {op : CmpOp} {f : F2} (ho : OpR X (compareOp op) (upO (Cx.ky X) f)) (ha : PE X a (up (Cx.ky X) ta)) (hb : PE X b (up (Cx.ky X) tb)) (hm : behindInMarks op b = false := by first | exact nomark _ | rfl) : PE X (.Compare a [op] [b] pos) (up (Cx.ky X) (dOp f ta tb)) :=
  PE.imp (pe_cmpR ho ha hb hm) fun _ _ _ h => up_op h
theorem up_un {κ : Ky} {f : F1} {σ : Sg} {H : Hp} {Q : VK} (h : up κ (dUn f ta) σ H Q) : tUn (upU κ f) (up κ ta) σ H Q := by
  obtain ⟨δ, R, c, L, es, h, k⟩ := h
  refine ⟨δ, _, c, L, es, h, fun v H1 d x1 r1 h1 => ?_⟩
  exact ⟨d, R, _, (es.on x1).dom, r1, h1, fun z H3 r x3 q1 q2 => k z H3 r (x1.trans x3) q1 q2⟩
theorem de_un {op : UnaryOp} {f : F1} (ho : UnR X (unaryOp op) (upU (Cx.ky X) f)) (ha : PE X a (up (Cx.ky X) ta)) : PE X (.UnaryOp op a pos) (up (Cx.ky X) (dUn f ta)) := PE.imp (pe_un ho ha) fun _ _ _ h => up_un h
theorem da_nil : PA X [] (upA (Cx.ky X) dNil) := PA.imp pa_nil fun _ H _ ⟨δ, R, c, L, es, h, k⟩ => k [] H [] (Ext.refl _) rfl h
theorem da_cons (ha : PE X a (up (Cx.ky X) ta)) (h : PA X es (upA (Cx.ky X) t)) (hs : starEach (a :: es) X.env = (false, eval a X.env) :: starEach es X.env := by rfl) : PA X (a :: es) (upA (Cx.ky X) (dCons ta t)) := by
  refine PA.imp (pa_cons ha h hs) fun σ H Q ⟨δ, R, c, L, es, h, k⟩ => ?_
  refine ⟨δ, _, c, L, es, h, fun v H1 d x1 r1 h1 => ⟨δ, _, c, L, es.on x1, h1, fun us H2 ds x2 r2 h2 => ?_⟩⟩
  exact k _ H2 (d :: ds) (x1.trans x2) ⟨v, us, rfl, r1.ext (x2.hide _), r2⟩ h2
end
end MR

/-! Tests, calls, statements, loops, comprehensions by data. -/
namespace MR
open PySem PySem.Spec PyProof.Rows L2

/-! ### data by its kind -/
def asB (d : DV) (K : Bool → Prop) : Prop := match d with
  | .p (.bool b) => K b
  | _ => False
def asI (d : DV) (K : Int → Prop) : Prop := match d with
  | .p (.int i) => K i
  | _ => False
def asS (d : DV) (K : Str → Prop) : Prop := match d with
  | .p (.str x) => K x
  | _ => False
def asL (d : DV) (K : List PyData → Prop) : Prop := match d with
  | .p (.list x) => K x
  | _ => False
def asU (d : DV) (K : List PyData → Prop) : Prop := match d with
  | .p (.tuple x) => K x
  | _ => False
def asP (d : DV) (K : PyData → Prop) : Prop := match d with
  | .p x => K x
  | _ => False
theorem asB_of {d : DV} {K : Bool → Prop} (h : asB d K) : ∃ b, d = .p (.bool b) ∧ K b := by
  cases d with
  | p x => cases x with
    | bool b => exact ⟨b, rfl, h⟩
    | _ => exact h.elim
  | _ => exact h.elim
theorem asI_of {d : DV} {K : Int → Prop} (h : asI d K) : ∃ b, d = .p (.int b) ∧ K b := by
  cases d with
  | p x => cases x with
    | int b => exact ⟨b, rfl, h⟩
    | _ => exact h.elim
  | _ => exact h.elim
theorem asS_of {d : DV} {K : Str → Prop} (h : asS d K) : ∃ b, d = .p (.str b) ∧ K b := by
  cases d with
  | p x => cases x with
    | str b => exact ⟨b, rfl, h⟩
    | _ => exact h.elim
  | _ => exact h.elim
theorem asL_of {d : DV} {K : List PyData → Prop} (h : asL d K) : ∃ b, d = .p (.list b) ∧ K b := by
  cases d with
  | p x => cases x with
    | list b => exact ⟨b, rfl, h⟩
    | _ => exact h.elim
  | _ => exact h.elim
theorem asU_of {d : DV} {K : List PyData → Prop} (h : asU d K) : ∃ b, d = .p (.tuple b) ∧ K b := by
  cases d with
  | p x => cases x with
    | tuple b => exact ⟨b, rfl, h⟩
    | _ => exact h.elim
  | _ => exact h.elim
theorem asP_of {d : DV} {K : PyData → Prop} (h : asP d K) : ∃ b, d = .p b ∧ K b := by
  cases d with
  | p x => exact ⟨x, rfl, h⟩
  | _ => exact h.elim

/-! ### tests -/
def dB (t : TD) : TB := fun δ R => t δ fun d => asB d R
def dNotT (t : TB) : TB := fun δ R => t δ fun b => R (!b)
def dAndT (t u : TB) : TB := fun δ R => t δ fun b => if b = true then u δ R else R false
def dOrT (t u : TB) : TB := fun δ R => t δ fun b => if b = true then R true else u δ R
def dNot (t : TD) : TD := fun δ R => t δ fun d => asB d fun b => R (.p (.bool (!b)))
def dAnd (t u : TD) : TD := fun δ R => t δ fun d => asB d fun b => if b = true then u δ R else R (.p (.bool false))
def dOr (t u : TD) : TD := fun δ R => t δ fun d => asB d fun b => if b = true then R (.p (.bool true)) else u δ R
def dIf (c : TB) (t u : TD) : TD := fun δ R => c δ fun b => if b = true then t δ R else u δ R
def dChain (f f' : F2) (ta tb tc : TD) : TD := fun δ R => ta δ fun d => tb δ fun e => f d e fun z => asB z fun b => if b = true then tc δ fun g => f' e g R else R (.p (.bool false))
section
variable {X : Cx} {a b c : Expr} {rest : List Expr} {ta tb tc : TD} {u w : TB} {pos : Pos}
theorem dt_val {e : Expr} {t : TD} (h : PE X e (up (Cx.ky X) t)) (he : ∀ whole, isTrue e X.env whole = (do let v ← whole; standAt e.pos; holding [v] (truthy v)) := by intro _; rfl) : PT X e (upT (Cx.ky X) (dB t)) := by
  refine PT.imp (pt_val h he) fun σ H Q ⟨δ, R, c, L, es, h, k⟩ => ⟨δ, _, c, L, es, h, fun v H1 d x1 r1 h1 => ?_⟩
  obtain ⟨b, rfl, h2⟩ := asB_of h1
  exact ⟨b, r1, k b H1 x1 h2⟩
theorem dt_cmp {op : CmpOp} {f : F2} (ho : OpR X (compareOp op) (upO (Cx.ky X) f)) (ha : PE X a (up (Cx.ky X) ta)) (hb : PE X b (up (Cx.ky X) tb)) (hm : behindInMarks op b = false := by first | exact nomark _ | rfl) : PT X (.Compare a [op] [b] pos) (upT (Cx.ky X) (dB (dOp f ta tb))) := by
  refine PT.imp (pt_cmpR ho ha hb hm) fun σ H Q ⟨δ, R, c, L, es, h, k⟩ => ?_
  refine ⟨δ, _, c, L, es, h, fun v H1 d x1 r1 h1 => ⟨δ, _, c, L, es.on x1, h1, fun u H2 e x2 r2 h2 => ?_⟩⟩
  refine ⟨d, e, _, _, (es.on (x1.trans x2)).dom, r1.ext (x2.hide _), r2, h2, fun z H3 r x3 q1 q2 => ?_⟩
  obtain ⟨b, rfl, h3⟩ := asB_of q2
  exact ⟨b, q1, k b H3 (x1.trans (x2.trans x3)) h3⟩
theorem dt_not (ha : PT X a (upT (Cx.ky X) u)) : PT X (.UnaryOp .Not a pos) (upT (Cx.ky X) (dNotT u)) :=
  PT.imp (pt_not ha) fun σ H Q ⟨δ, R, c, L, es, h, k⟩ => ⟨δ, _, c, L, es, h, fun b H1 x1 h1 => k (!b) H1 x1 h1⟩
theorem dw_and1 (ha : PT X a (upT (Cx.ky X) u)) : PW X (.BoolOp .And [a] pos) (upT (Cx.ky X) u) := pw_and1 ha
theorem dw_or1 (ha : PT X a (upT (Cx.ky X) u)) : PW X (.BoolOp .Or [a] pos) (upT (Cx.ky X) u) := pw_or1 ha
theorem dw_and (ha : PT X a (upT (Cx.ky X) u)) (hb : PW X (.BoolOp .And (b :: rest) pos) (upT (Cx.ky X) w)) : PW X (.BoolOp .And (a :: b :: rest) pos) (upT (Cx.ky X) (dAndT u w)) := by
  refine PW.imp (pw_and ha hb) fun σ H Q ⟨δ, R, c, L, es, h, k⟩ => ⟨δ, _, c, L, es, h, fun b H1 x1 h1 => ?_⟩
  cases b with
  | true => exact ⟨δ, R, c, L, es.on x1, h1, fun b H2 x2 h2 => k b H2 (x1.trans x2) h2⟩
  | false => exact k false H1 x1 h1
theorem dw_or (ha : PT X a (upT (Cx.ky X) u)) (hb : PW X (.BoolOp .Or (b :: rest) pos) (upT (Cx.ky X) w)) : PW X (.BoolOp .Or (a :: b :: rest) pos) (upT (Cx.ky X) (dOrT u w)) := by
  refine PW.imp (pw_or ha hb) fun σ H Q ⟨δ, R, c, L, es, h, k⟩ => ⟨δ, _, c, L, es, h, fun b H1 x1 h1 => ?_⟩
  cases b with
  | false => exact ⟨δ, R, c, L, es.on x1, h1, fun b H2 x2 h2 => k b H2 (x1.trans x2) h2⟩
  | true => exact k true H1 x1 h1
theorem de_one {op} {t : TD} (h : PE X a (up (Cx.ky X) t)) : PE X (.BoolOp op [a] pos) (up (Cx.ky X) t) := pe_one h
theorem de_and (ha : PE X a (up (Cx.ky X) ta)) (hb : PE X (.BoolOp .And (b :: rest) pos) (up (Cx.ky X) tb)) : PE X (.BoolOp .And (a :: b :: rest) pos) (up (Cx.ky X) (dAnd ta tb)) := by
  refine PE.imp (pe_and ha hb) fun σ H Q ⟨δ, R, c, L, es, h, k⟩ => ⟨δ, _, c, L, es, h, fun v H1 d x1 r1 h1 => ?_⟩
  obtain ⟨b, rfl, h2⟩ := asB_of h1
  cases b with
  | true => exact ⟨true, r1, ⟨δ, R, c, L, es.on x1, h2, fun u H2 e x2 r2 h2 => k u H2 e (x1.trans x2) r2 h2⟩⟩
  | false => exact ⟨false, r1, k (.bl false) H1 (.p (.bool false)) x1 rfl h2⟩
theorem de_or (ha : PE X a (up (Cx.ky X) ta)) (hb : PE X (.BoolOp .Or (b :: rest) pos) (up (Cx.ky X) tb)) : PE X (.BoolOp .Or (a :: b :: rest) pos) (up (Cx.ky X) (dOr ta tb)) := by
  refine PE.imp (pe_or ha hb) fun σ H Q ⟨δ, R, c, L, es, h, k⟩ => ⟨δ, _, c, L, es, h, fun v H1 d x1 r1 h1 => ?_⟩
  obtain ⟨b, rfl, h2⟩ := asB_of h1
  cases b with
  | false => exact ⟨false, r1, ⟨δ, R, c, L, es.on x1, h2, fun u H2 e x2 r2 h2 => k u H2 e (x1.trans x2) r2 h2⟩⟩
  | true => exact ⟨true, r1, k (.bl true) H1 (.p (.bool true)) x1 rfl h2⟩
theorem de_not (ha : PE X a (up (Cx.ky X) ta)) : PE X (.UnaryOp .Not a pos) (up (Cx.ky X) (dNot ta)) := by
  refine PE.imp (pe_not ha) fun σ H Q ⟨δ, R, c, L, es, h, k⟩ => ⟨δ, _, c, L, es, h, fun v H1 d x1 r1 h1 => ?_⟩
  obtain ⟨b, rfl, h2⟩ := asB_of h1
  exact ⟨b, r1, k (.bl (!b)) H1 (.p (.bool (!b))) x1 rfl h2⟩
theorem de_if (hc : PT X c (upT (Cx.ky X) u)) (ha : PE X a (up (Cx.ky X) ta)) (hb : PE X b (up (Cx.ky X) tb)) : PE X (.IfExp c a b pos) (up (Cx.ky X) (dIf u ta tb)) := by
  refine PE.imp (pe_ifExp hc ha hb) fun σ H Q ⟨δ, R, c, L, es, h, k⟩ => ⟨δ, _, c, L, es, h, fun b H1 x1 h1 => ?_⟩
  cases b with
  | true => exact ⟨δ, R, c, L, es.on x1, h1, fun u H2 e x2 r2 h2 => k u H2 e (x1.trans x2) r2 h2⟩
  | false => exact ⟨δ, R, c, L, es.on x1, h1, fun u H2 e x2 r2 h2 => k u H2 e (x1.trans x2) r2 h2⟩
theorem de_chain {op op' : CmpOp} {f f' : F2} (ho : OpR X (compareOp op) (upO (Cx.ky X) f)) (ho' : OpR X (compareOp op') (upO (Cx.ky X) f')) (ha : PE X a (up (Cx.ky X) ta)) (hb : PE X b (up (Cx.ky X) tb)) (hc : PE X c (up (Cx.ky X) tc)) (hm : lastMarks [op, op'] [b, c] = false := by with_unfolding_all rfl) :
    PE X (.Compare a [op, op'] [b, c] pos) (up (Cx.ky X) (dChain f f' ta tb tc)) := by
  refine PE.imp (pe_chain ho ho' ha hb hc hm) fun σ H Q ⟨δ, R, c, L, es, h, k⟩ => ?_
  refine ⟨δ, _, c, L, es, h, fun v H1 d x1 r1 h1 => ⟨δ, _, c, L, es.on x1, h1, fun u H2 e x2 r2 h2 => ?_⟩⟩
  refine ⟨d, e, _, _, (es.on (x1.trans x2)).dom, r1.ext (x2.hide _), r2, h2, fun z H3 r x3 q1 q2 => ?_⟩
  obtain ⟨b, rfl, q3⟩ := asB_of q2
  cases b with
  | true =>
    refine ⟨true, q1, ⟨δ, _, c, L, es.on (x1.trans (x2.trans x3)), q3, fun y H4 g x4 r4 h4 => ?_⟩⟩
    exact ⟨e, g, R, _, (es.on (x1.trans (x2.trans (x3.trans x4)))).dom, r2.ext ((x3.trans x4).hide _), r4, h4, fun z' H5 r' x5 q5 q6 => k z' H5 r' (x1.trans (x2.trans (x3.trans (x4.trans x5)))) q5 q6⟩
  | false => exact ⟨false, q1, k (.bl false) H3 (.p (.bool false)) (x1.trans (x2.trans x3)) rfl q3⟩
end

/-! ### promises that hold where no text of an object is being written (repr asks that) -/
structure FnG (P : Program) (w : World) (K : PySem.W.Frag) (mg : Str → Option Value) (base : Heap) (CX : CXT) (k : Nat) (f : Addr) (fd : FuncData) (ps : List Str) (sp : Sp) : Prop where
  len : ∀ vs H Q E, sp vs H Q E → vs.length = ps.length
  go : ∀ (A : Around), A.guards = some [] → ∀ (outer : List PySem.Env) (s : Shared) (H : Hp) (args : Args) (us : List Value) (vs : List V) (Q : VK) (E : XK),
    Room k A → Env0 P w K mg base A outer s H → BindsTo s fd args (ps.zip us) → Vals vs us → sp vs H Q E → codeAny (model P w) A (.call (.ref f) args) (CR CX outer P w H s Q E) s
section
variable {P : Program} {w : World} {K : PySem.W.Frag} {mg : Str → Option Value} {base : Heap} {CX : CXT} {j k : Nat} {f : Addr} {fd : FuncData} {ps : List Str} {sp sp' : Sp}
theorem FnG.of (F : FnOk P w K mg base CX k f fd ps sp) : FnG P w K mg base CX k f fd ps sp := ⟨F.len, fun A _ => F.run A⟩
theorem FnG.mono (F : FnG P w K mg base CX j f fd ps sp) (h : j ≤ k) : FnG P w K mg base CX k f fd ps sp := ⟨F.len, fun A g o s H a us vs Q E r => F.go A g o s H a us vs Q E (r.mono h)⟩
theorem FnG.imp (F : FnG P w K mg base CX k f fd ps sp) (h : ∀ vs H Q E, sp' vs H Q E → sp vs H Q E) : FnG P w K mg base CX k f fd ps sp' :=
  ⟨fun vs H Q E q => F.len vs H Q E (h vs H Q E q), fun A g o s H a us vs Q E r e b v q => F.go A g o s H a us vs Q E r e b v (h vs H Q E q)⟩
end
section
variable {X : Cx} {CX : CXT} {k : Nat} {f : Addr} {fd : FuncData} {ps : List Str} {sp : Sp} {dvs : List V} {ds : List Value} {E : XK} {x : Str} {p pos : Pos} {e : Expr} {es : List Expr} {t : TA}
/-- such a def is called -/
theorem goes {pins : List (Addr × Obj)} {σ : Sg} {H : Hp} {s : Shared} {Q : VK} {us : List Value} {vs : List V} (F : FnG X.prog X.w X.K X.mg X.base CX k f fd ps sp) (gd : X.A.guards = some []) (room : Room k X.A) (hb : L2.Binds X.K fd ps ds) (hd : Vals dvs ds) (hx : Passes CX X E)
    (I : Inv X pins σ H s) (rel : Vals vs us) (h : sp (vs ++ dvs) H Q E) : wpAny (model X.prog X.w) X.A (call (.ref f) us) (EP X pins σ Q) X.xe s := by
  have rel' : Vals (vs ++ dvs) (us ++ ds) := rel.append hd
  have many : (us ++ ds).length = ps.length := rel'.length.symm.trans (F.len _ _ _ _ h)
  refine wpAny_call (codeAny_mono (F.go X.A gd X.stack s H ⟨us, []⟩ (us ++ ds) (vs ++ dvs) Q E room I.env0 (hb s us I.kIn many) rel' h) fun res s2 q => ?_)
  cases res with
  | error err => exact hx pins σ H s err s2 I q
  | ok fl => cases fl with
    | ret u => exact I.after q
    | next => exact q.elim
    | brk => exact q.elim
    | cont => exact q.elim
theorem pe_callG (F : FnG X.prog X.w X.K X.mg X.base CX k f fd ps sp) (gd : X.A.guards = some []) (room : Room k X.A) (hg : Gl X x) (hm : X.mg x = some (.ref f)) (hk : PySem.W.keepIn X.K (.ref f) = true) (hb : L2.Binds X.K fd ps ds) (hd : Vals dvs ds) (hx : Passes CX X E)
    (ha : PA X (e :: es) t) (hdb : (x == ("__debug__" : Str)) = false := by decide) (he : starEach (e :: es) X.env = (false, eval e X.env) :: starEach es X.env := by rfl) (hpl : (backTo pos (starEach es X.env)).any (·.1) = false := by rfl) :
    PE X (.Call (.Name x p) (e :: es) [] pos) (tCall sp dvs E t) := by
  refine ⟨fun pins s σ H Q I h => wpAny_Call_Name_kw (ld_glob I hg hm ?_ hdb)⟩
  refine PySem.W.callWith_K (h₀ := X.base) I.ok.mod.kin hk (thn (ha.run pos pins s σ H _ I h) fun us s1 ⟨vs, H1, I1, r, q⟩ => ⟨I1.kIn, ?_⟩) he hpl
  exact goes F gd room hb hd hx I1 r q
theorem pe_callG0 (F : FnG X.prog X.w X.K X.mg X.base CX k f fd ps sp) (gd : X.A.guards = some []) (room : Room k X.A) (hg : Gl X x) (hm : X.mg x = some (.ref f)) (hk : PySem.W.keepIn X.K (.ref f) = true) (hb : L2.Binds X.K fd ps ds) (hd : Vals dvs ds) (hx : Passes CX X E)
    (hdb : (x == ("__debug__" : Str)) = false := by decide) : PE X (.Call (.Name x p) [] [] pos) (tCall sp dvs E tNil) :=
  ⟨fun pins s σ H Q I h => wpAny_Call_Name_kw (ld_glob I hg hm (PySem.W.callWith_K0 I.kIn hk (goes (us := []) F gd room hb hd hx I .nil h)) hdb)⟩
end
/-- the rule for a def by its body, such a promise -/
theorem fnG_of {CX : CXT} {P : Program} {w : World} {K : PySem.W.Frag} {mg : Str → Option Value} {base : Heap} {k : Nat} {f : Addr} {fd : FuncData} {x qual : Str} {st : Stmt} {N ps : List Str} {sp : Sp} (F : Fun K x qual st f fd) (S : FnScope N ps (defScope st))
    (len : ∀ vs H Q E, sp vs H Q E → vs.length = ps.length)
    (hbody : ∀ (cdv : Value) (A : Around), A.guards = some [] → ∀ (outer : List PySem.Env) (s : Shared) (H : Hp) (vs : List V) (Q : VK) (E : XK), Room k (A.deeper (envOfC qual (defScope st) s.heap.objs.size f cdv)) → sp vs H Q E →
      ∃ t, PSs (cxOf CX P w K mg base N qual (defScope st) f cdv A outer s H E) (defBody st) t ∧ t { nx := fun _ H' => Q .non H', rt := Q } (L2.start N vs) H) : FnG P w K mg base CX (k + 1) f fd ps sp := by
  obtain ⟨oc, od, kV, doc, pm, an, cdv, ct, osl, rfl, lk, hcd⟩ := F.ex
  refine ⟨len, fun A gd outer s H args us vs Q E room e0 bnd rel hsp => ?_⟩
  have many := len _ _ _ _ hsp
  have inK : K.In s.heap := e0.mod.kin.keeps fun b o q => (e0.bs b o q).1
  have limit : s.heap.NoLimit := e0.mod.nolimit.keeps fun b o q => (e0.bs b o q).1
  have kinds : ∀ y ∈ ps.zip us, (defScope st).names.lookup y.1 = some .local ∨ ((defScope st).names.lookup y.1 = some .cell ∧ ((cellsFrom (s.heap.objs.size + 1) (defScope st).names []).lookup y.1).isSome = true) := fun ⟨n, v⟩ hy =>
    (S.par n (List.of_mem_zip hy).1).imp id fun q => ⟨q, PySem.W.cellsFrom_some _ _ _ (.inl q)⟩
  refine codeAny_call_function room.depth (inK _ _ lk) rfl S.co S.gen rfl (PySem.W.codeRec_of inK hcd) (bnd _ _ _ _ ?_)
  refine wpAny_newFunctionEnv_cells S.kind kinds fun env henv s1 made => ?_
  subst henv
  refine ⟨limit.keeps made.toInCall.keep, codeAny_func ?_⟩
  obtain ⟨t, ht, hq⟩ := hbody cdv A gd outer s H vs Q E (room.deeper _) hsp
  have inv0 : Inv (cxOf CX P w K mg base N qual (defScope st) f cdv A outer s H E) [] (L2.start N vs) H s1 := inv_start S room.hd e0 many rel made
  refine wpAny_mono (ht.run [] s1 (L2.start N vs) H _ inv0 hq) (fun fl s2 hs => ?_) fun _ _ hs => hs
  have ends : ∀ {σ2 : Sg} {H2 : Hp} {v : V} {u : Value}, Inv (cxOf CX P w K mg base N qual (defScope st) f cdv A outer s H E) [] σ2 H2 s2 → RelV v u → Q v H2 → CE outer P w H s Q u s2 :=
    fun {σ2 H2 v u} J rv q => ⟨v, H2, J.os, J.bare, J.base, J.hok, rv, q⟩
  cases fl with
  | ret u =>
    obtain ⟨v, σ2, H2, J, rv, q⟩ := hs
    exact ends J rv q
  | next =>
    obtain ⟨σ2, H2, J, q⟩ := hs
    exact ends (v := V.non) (u := Value.none) J rfl q
  | brk => exact (show False from let ⟨_, _, _, q⟩ := hs; q).elim
  | cont => exact (show False from let ⟨_, _, _, q⟩ := hs; q).elim

/-! ### calls -/
def dCall (f : FL) (t : TL) : TD := fun δ R => t δ fun ds => f ds R
def spD (κ : Ky) (f : FL) : Sp := fun vs H Q _ => upC κ f vs H Q
section
variable {X : Cx} {e : Expr} {es : List Expr} {t : TL} {pos p : Pos} {x : Str}
theorem up_call {κ : Ky} {f : FL} {σ : Sg} {H : Hp} {Q : VK} (h : up κ (dCall f t) σ H Q) : upA κ t σ H fun vs H1 => upC κ f vs H1 Q := by
  obtain ⟨δ, R, c, L, es, h, k⟩ := h
  exact ⟨δ, _, c, L, es, h, fun vs H1 ds x1 r1 h1 => ⟨ds, R, _, (es.on x1).dom, r1, h1, fun v H2 r x2 q1 q2 => k v H2 r (x1.trans x2) q1 q2⟩⟩
theorem de_call {k : Nat} {f : Addr} {fd : FuncData} {ps : List Str} {g : FL} {CX : CXT} {E : XK} (F : FnG X.prog X.w X.K X.mg X.base CX k f fd ps (spD (Cx.ky X) g)) (gd : X.A.guards = some []) (hr : Room k X.A) (hg : Gl X x) (hm : X.mg x = some (.ref f)) (hk : PySem.W.keepIn X.K (.ref f) = true)
    (hb : Binds X.K fd ps []) (hx : Passes CX X E) (ha : PA X (e :: es) (upA (Cx.ky X) t)) (hdb : (x == ("__debug__" : Str)) = false := by decide) (he : starEach (e :: es) X.env = (false, eval e X.env) :: starEach es X.env := by rfl)
    (hpl : (backTo pos (starEach es X.env)).any (·.1) = false := by rfl) : PE X (.Call (.Name x p) (e :: es) [] pos) (up (Cx.ky X) (dCall g t)) := by
  refine PE.imp (pe_callG F gd hr hg hm hk hb .nil hx ha hdb he hpl) fun σ H Q h => ?_
  have q := up_call h
  obtain ⟨δ, R, c, L, es, h1, k1⟩ := q
  refine ⟨δ, R, c, L, es, h1, fun vs H1 ds x1 r1 q1 => ?_⟩
  have q2 := k1 vs H1 ds x1 r1 q1
  show spD (Cx.ky X) g (vs ++ []) H1 Q E
  rw [List.append_nil]
  exact q2
theorem de_callB {id : String} {g : FL} (hc : CallR X (.builtin id) (upC (Cx.ky X) g)) (hg : Gl X x) (hm : X.mg x = none) (hv : bootBuiltins x = some (.builtin id)) (ha : PA X (e :: es) (upA (Cx.ky X) t)) (hn : x ≠ "__name__" := by decide) (hdb : (x == ("__debug__" : Str)) = false := by decide)
    (he : starEach (e :: es) X.env = (false, eval e X.env) :: starEach es X.env := by rfl) (hpl : (backTo pos (starEach es X.env)).any (·.1) = false := by rfl) : PE X (.Call (.Name x p) (e :: es) [] pos) (up (Cx.ky X) (dCall g t)) :=
  PE.imp (pe_callB hc hg hm hv ha hn hdb he hpl) fun _ _ _ h => up_call h
theorem de_callTy {id : String} {g : FL} (hc : CallR X (.type id) (upC (Cx.ky X) g)) (hg : Gl X x) (hm : X.mg x = none) (hv : bootBuiltins x = some (.type id)) (ha : PA X (e :: es) (upA (Cx.ky X) t)) (hn : x ≠ "__name__" := by decide) (hdb : (x == ("__debug__" : Str)) = false := by decide)
    (he : starEach (e :: es) X.env = (false, eval e X.env) :: starEach es X.env := by rfl) (hpl : (backTo pos (starEach es X.env)).any (·.1) = false := by rfl) : PE X (.Call (.Name x p) (e :: es) [] pos) (up (Cx.ky X) (dCall g t)) :=
  PE.imp (pe_callTy hc hg hm hv ha hn hdb he hpl) fun _ _ _ h => up_call h
end

/-! ### statements -/
structure DE where
  nx : Dn → Prop
  rt : DV → Prop
  bk : Dn → Prop := fun _ => False
  ct : Dn → Prop := fun _ => False
abbrev TDS := DE → Dn → Prop
/-- what reaches the ends of the data's reading reaches the program's -/
structure Fin (κ : Ky) (c : Sc) (E : DE) (D : Ends) : Prop where
  nx : ∀ δ σ H L, ES κ c H L δ σ → E.nx δ → D.nx σ H
  rt : ∀ v H d, Ext c.H0 H → Rv κ (hide c.P H) d v → E.rt d → D.rt v H
  bk : ∀ δ σ H L, ES κ c H L δ σ → E.bk δ → D.bk σ H
  ct : ∀ δ σ H L, ES κ c H L δ σ → E.ct δ → D.ct σ H
def upS (κ : Ky) (t : TDS) : TS := fun D σ H => ∃ δ E c L, ES κ c H L δ σ ∧ t E δ ∧ Fin κ c E D
def dSeq (t u : TDS) : TDS := fun E δ => t { E with nx := u E } δ
def dNext : TDS := fun E δ => E.nx δ
def dBreak : TDS := fun E δ => E.bk δ
def dCont : TDS := fun E δ => E.ct δ
def dDrop (t : TD) : TDS := fun E δ => t δ fun _ => E.nx δ
def dRet (t : TD) : TDS := fun E δ => t δ E.rt
def dRetN : TDS := fun E _ => E.rt (.p .none)
def dIfS (c : TB) (t u : TDS) : TDS := fun E δ => c δ fun b => if b = true then t E δ else u E δ
def dSet (i : Nat) (t : TD) : TDS := fun E δ => t δ fun d => E.nx (δ.set i (.v d))
theorem oor_off (P : Addr → Bool) : oor P (fun _ => false) = P := funext fun a => by unfold oor; rw [Bool.or_false]
theorem out_of {P L : Addr → Bool} {H : Hp} {κ : Ky} {d : DV} {v : V} (h : Rv κ (hide (oor P L) H) d v) : Rv κ (hide P H) d v := h.ext (hide_less H fun a z => by unfold oor; rw [z]; rfl)
section
variable {κ : Ky} {c : Sc} {H : Hp} {L : Addr → Bool} {δ : Dn} {σ : Sg}
theorem ES.set (s : ES κ c H L δ σ) {i : Nat} {d : DV} {v : V} (r : Rv κ (hide (oor c.P L) H) d v) : ES κ c H L (δ.set i (.v d)) (σ.set i (some v)) where
  len := by rw [List.length_set, List.length_set]; exact s.len
  val := fun j e h => by
    by_cases hj : j = i
    · subst hj
      have hl : j < δ.length := by
        have := (List.getElem?_eq_some_iff.mp h).1
        rw [List.length_set] at this
        exact this
      rw [List.getElem?_set_self hl] at h
      cases h
      exact ⟨v, List.getElem?_set_self (by rw [← s.len]; exact hl), r⟩
    · rw [List.getElem?_set_ne (Ne.symm hj)] at h
      rw [List.getElem?_set_ne (Ne.symm hj)]
      exact s.val j e h
  own := fun j e h => by
    by_cases hj : j = i
    · subst hj
      have hl : j < δ.length := by
        have := (List.getElem?_eq_some_iff.mp h).1
        rw [List.length_set] at this
        exact this
      rw [List.getElem?_set_self hl] at h
      cases h
    · rw [List.getElem?_set_ne (Ne.symm hj)] at h
      rw [List.getElem?_set_ne (Ne.symm hj)]
      exact s.own j e h
  sep := fun j k ds es a n h1 h2 => by
    have nj : ∀ {j : Nat} {ds : List PyData}, (δ.set i (.v d))[j]? = some (Sl.own ds) → j ≠ i := fun {j ds} h hj => by
      subst hj
      have hl : j < δ.length := by
        have := (List.getElem?_eq_some_iff.mp h).1
        rw [List.length_set] at this
        exact this
      rw [List.getElem?_set_self hl] at h
      cases h
    have n1 := nj h1
    have n2 := nj h2
    rw [List.getElem?_set_ne (Ne.symm n1)] at h1
    rw [List.getElem?_set_ne (Ne.symm n2)] at h2
    rw [List.getElem?_set_ne (Ne.symm n1), List.getElem?_set_ne (Ne.symm n2)]
    exact s.sep j k ds es a n h1 h2
  psys := s.psys
  pdom := s.pdom
  ldom := s.ldom
  ext := s.ext
  kept := s.kept
theorem ES.wipe1 (s : ES κ c H L δ σ) (i : Nat) (o : Option V) : ES κ c H L (δ.set i .un) (σ.set i o) where
  len := by rw [List.length_set, List.length_set]; exact s.len
  val := fun j e h => by
    by_cases hj : j = i
    · subst hj
      have hl : j < δ.length := by
        have := (List.getElem?_eq_some_iff.mp h).1
        rw [List.length_set] at this
        exact this
      rw [List.getElem?_set_self hl] at h
      cases h
    · rw [List.getElem?_set_ne (Ne.symm hj)] at h
      rw [List.getElem?_set_ne (Ne.symm hj)]
      exact s.val j e h
  own := fun j e h => by
    by_cases hj : j = i
    · subst hj
      have hl : j < δ.length := by
        have := (List.getElem?_eq_some_iff.mp h).1
        rw [List.length_set] at this
        exact this
      rw [List.getElem?_set_self hl] at h
      cases h
    · rw [List.getElem?_set_ne (Ne.symm hj)] at h
      rw [List.getElem?_set_ne (Ne.symm hj)]
      exact s.own j e h
  sep := fun j k ds es a n h1 h2 => by
    have nj : ∀ {j : Nat} {ds : List PyData}, (δ.set i Sl.un)[j]? = some (Sl.own ds) → j ≠ i := fun {j ds} h hj => by
      subst hj
      have hl : j < δ.length := by
        have := (List.getElem?_eq_some_iff.mp h).1
        rw [List.length_set] at this
        exact this
      rw [List.getElem?_set_self hl] at h
      cases h
    have n1 := nj h1
    have n2 := nj h2
    rw [List.getElem?_set_ne (Ne.symm n1)] at h1
    rw [List.getElem?_set_ne (Ne.symm n2)] at h2
    rw [List.getElem?_set_ne (Ne.symm n1), List.getElem?_set_ne (Ne.symm n2)]
    exact s.sep j k ds es a n h1 h2
  psys := s.psys
  pdom := s.pdom
  ldom := s.ldom
  ext := s.ext
  kept := s.kept
end
section
variable {X : Cx} {st : Stmt} {rest : List Stmt} {t u : TDS} {e : Expr} {te : TD} {pos : Pos}
theorem dss_nil : PSs X [] (upS (Cx.ky X) dNext) := PSs.imp pss_nil fun D σ H ⟨δ, E, c, L, es, h, f⟩ => f.nx δ σ H L es h
theorem dss_cons (h1 : PS X st (upS (Cx.ky X) t)) (h2 : PSs X rest (upS (Cx.ky X) u)) : PSs X (st :: rest) (upS (Cx.ky X) (dSeq t u)) :=
  PSs.imp (pss_cons h1 h2) fun D σ H ⟨δ, E, c, L, es, h, f⟩ => ⟨δ, _, c, L, es, h, ⟨fun δ' σ' H' L' es' h' => ⟨δ', E, c, L', es', h', f⟩, f.rt, f.bk, f.ct⟩⟩
theorem dss_one (h1 : PS X st (upS (Cx.ky X) t)) : PSs X [st] (upS (Cx.ky X) t) := pss_one h1
theorem ds_pass : PS X (.Pass pos) (upS (Cx.ky X) dNext) := PS.imp ps_pass fun D σ H ⟨δ, E, c, L, es, h, f⟩ => f.nx δ σ H L es h
theorem ds_break : PS X (.Break pos) (upS (Cx.ky X) dBreak) := PS.imp ps_break fun D σ H ⟨δ, E, c, L, es, h, f⟩ => f.bk δ σ H L es h
theorem ds_continue : PS X (.Continue pos) (upS (Cx.ky X) dCont) := PS.imp ps_continue fun D σ H ⟨δ, E, c, L, es, h, f⟩ => f.ct δ σ H L es h
theorem ds_expr (he : PE X e (up (Cx.ky X) te)) (hs : swapsWith e none pos.line X.env = pure false := by rfl) : PS X (.Expr e pos) (upS (Cx.ky X) (dDrop te)) :=
  PS.imp (ps_expr he hs) fun D σ H ⟨δ, E, c, L, es, h, f⟩ => ⟨δ, _, c, L, es, h, fun v H1 d x1 r1 h1 => f.nx δ σ H1 L (es.on x1) h1⟩
theorem ds_ret (he : PE X e (up (Cx.ky X) te)) : PS X (.Return (some e) pos) (upS (Cx.ky X) (dRet te)) :=
  PS.imp (ps_ret he) fun D σ H ⟨δ, E, c, L, es, h, f⟩ => ⟨δ, _, c, L, es, h, fun v H1 d x1 r1 h1 => f.rt v H1 d (es.ext.trans x1) (out_of r1) h1⟩
theorem ds_retN : PS X (.Return none pos) (upS (Cx.ky X) dRetN) :=
  PS.imp ps_retN fun D σ H ⟨δ, E, c, L, es, h, f⟩ => f.rt .non H (.p .none) es.ext rfl h
theorem ds_if {c : Expr} {a b : List Stmt} {tc : TB} (hc : PT X c (upT (Cx.ky X) tc)) (ha : PSs X a (upS (Cx.ky X) t)) (hb : PSs X b (upS (Cx.ky X) u)) : PS X (.If c a b pos) (upS (Cx.ky X) (dIfS tc t u)) := by
  refine PS.imp (ps_if hc ha hb) fun D σ H ⟨δ, E, c, L, es, h, f⟩ => ⟨δ, _, c, L, es, h, fun b H1 x1 h1 => ?_⟩
  cases b with
  | true => exact ⟨δ, E, c, L, es.on x1, h1, f⟩
  | false => exact ⟨δ, E, c, L, es.on x1, h1, f⟩
theorem ds_set {i : Nat} {x : Str} {pos' : Pos} (hN : X.N.Nodup) (hi : X.N[i]? = some x) (hx : Loc X.env.scope x) (he : PE X e (up (Cx.ky X) te)) (hs : swapsWith e (some (.Name x pos')) pos.line X.env = pure false := by rfl) (hf : X.fn x = true ∨ X.env.scope.names.lookup x = some .local := by first | exact .inl rfl | exact .inr rfl | assumption) :
    PS X (.Assign [.Name x pos'] e pos) (upS (Cx.ky X) (dSet i te)) :=
  PS.imp (ps_set hN hi hx he hs hf) fun D σ H ⟨δ, E, c, L, es, h, f⟩ => ⟨δ, _, c, L, es, h, fun v H1 d x1 r1 h1 => f.nx _ _ H1 L ((es.on x1).set r1) h1⟩
end

/-! ### a def -/
def startD (N : List Str) (ds : List DV) : Dn := ds.map .v ++ List.replicate (N.length - ds.length) .un
theorem RvA.get {κ : Ky} {H : Hp} : ∀ {ds : List DV} {vs : List V} {i : Nat} {d : DV}, RvA κ H ds vs → ds[i]? = some d → ∃ v, vs[i]? = some v ∧ Rv κ H d v
  | [], _, _, _, _, e => by cases e
  | _ :: _, _, 0, _, ⟨v, r, q, h, t⟩, e => by
    cases e
    exact ⟨v, by rw [q]; rfl, h⟩
  | _ :: _, _, i + 1, _, ⟨v, r, q, h, t⟩, e => by
    obtain ⟨u, e1, e2⟩ := RvA.get (i := i) t e
    exact ⟨u, by rw [q]; exact e1, e2⟩
theorem es_start {κ : Ky} {N : List Str} {H : Hp} {P : Addr → Bool} {ds : List DV} {vs : List V} (d : Dom P H) (r : RvA κ (hide P H) ds vs) : ES κ ⟨H, P, [], []⟩ H (fun _ => false) (startD N ds) (L2.start N vs) := by
  have hl := r.len
  have noOwn : ∀ (i : Nat) (es : List PyData), (startD N ds)[i]? ≠ some (Sl.own es) := fun i es h => by
    unfold startD at h
    by_cases hi : i < ds.length
    · rw [List.getElem?_append_left (by rw [List.length_map]; exact hi), List.getElem?_map, List.getElem?_eq_getElem hi] at h
      cases h
    · rw [List.getElem?_append_right (by rw [List.length_map]; omega), List.getElem?_replicate] at h
      split at h <;> cases h
  refine ⟨?_, fun i x h => ?_, fun i es h => absurd h (noOwn i es), fun i _ es _ _ _ h => absurd h (noOwn i es), d.1, d.2, fun _ h => Bool.noConfusion h, Ext.refl H, rfl⟩
  · unfold startD L2.start
    rw [List.length_append, List.length_append, List.length_map, List.length_map, List.length_replicate, List.length_replicate, hl]
  · unfold startD at h
    by_cases hi : i < ds.length
    · rw [List.getElem?_append_left (by rw [List.length_map]; exact hi), List.getElem?_map, List.getElem?_eq_getElem hi] at h
      cases h
      obtain ⟨v, e1, e2⟩ := r.get (List.getElem?_eq_getElem hi)
      refine ⟨v, ?_, ?_⟩
      · unfold L2.start
        rw [List.getElem?_append_left (by rw [List.length_map, ← hl]; exact hi), List.getElem?_map, e1]
        rfl
      · show Rv κ (hide (oor P fun _ => false) H) _ v
        rw [oor_off]
        exact e2
    · rw [List.getElem?_append_right (by rw [List.length_map]; omega), List.getElem?_replicate] at h
      split at h <;> cases h
section
variable {P : Program} {w : World} {K : PySem.W.Frag} {mg : Str → Option Value} {base : Heap}
/-- THE RULE for a def whose arguments and answer are data -/
theorem okD {x qual : Str} {st : Stmt} {f : Addr} {fd : FuncData} {N ps : List Str} {k : Nat} {g : FL} {t : TDS} (F : Fun K x qual st f fd) (S : FnScope N ps (defScope st)) (len : ∀ ds R, g ds R → ds.length = ps.length)
    (hb : ∀ (cdv : Value) (A : Around), A.guards = some [] → ∀ (outer : List PySem.Env) (s : Shared) (H : Hp) (E : XK), Room k (A.deeper (envOfC qual (defScope st) s.heap.objs.size f cdv)) → PSs (cxOf CX0 P w K mg base N qual (defScope st) f cdv A outer s H E).nox (defBody st) (upS ⟨K, P, w⟩ t))
    (hr : ∀ ds R, g ds R → t { nx := fun _ => R (.p .none), rt := R } (startD N ds)) : FnG P w K mg base CX0 (k + 1) f fd ps (spD ⟨K, P, w⟩ g) := by
  refine fnG_of F S (fun vs H Q E ⟨ds, R, P, d, r, h, q⟩ => by rw [← r.len]; exact len ds R h) fun cdv A gd outer s H vs Q E room ⟨ds, R, P', d, r, h, q⟩ => ?_
  refine ⟨_, (hb cdv A gd outer s H E room).nox, startD N ds, _, ⟨H, P', [], []⟩, _, es_start d r, hr ds R h, ⟨fun δ σ H' L es h' => ?_, fun v H' d' x r' h' => ?_, fun _ _ _ _ _ z => z.elim, fun _ _ _ _ _ z => z.elim⟩⟩
  · exact q .non H' (.p .none) es.ext rfl h'
  · exact q v H' d' x r' h'
end
end MR

/-! What is walked, targets, for, comprehensions by data. -/
namespace MR
open PySem PySem.Spec PyProof.Rows L2

/-! ### what is walked -/
abbrev TDI := Dn → (List PyData → Prop) → Prop
/-- J walks the data ds, as long as what us hold reads as bs -/
structure ItK (κ : Ky) (J : It) (ds : List PyData) (bs : List DV) (us : List V) : Prop where
  go : ∀ H P' i, Dom P' H → RvA κ (hide P' H) bs us → i < ds.length → J.go i H
  stop : ∀ H P' i, Dom P' H → RvA κ (hide P' H) bs us → ds.length ≤ i → J.stop i H
  yld : ∀ H P' i x H2, Dom P' H → RvA κ (hide P' H) bs us → i < ds.length → J.yld i H x H2 → ∃ y, ds[i]? = some y ∧ Ext H H2 ∧ Rp κ.K (hide P' H2) y x
def upI (κ : Ky) (t : TDI) : TI := fun σ H R => ∃ δ R' c L, ES κ c H L δ σ ∧ t δ R' ∧ ∀ J H' ds bs us, Ext H H' → RvA κ (hide (oor c.P L) H') bs us → ItK κ J ds bs us → R' ds → R J H'
theorem rp_up {K : PySem.W.Frag} {P : Addr → Bool} {H : Hp} {d : PyData} {v : V} (h : Rp K (hide P H) d v) : Rp K H d v := h.ext (hide_ext P H)
theorem itk_list {κ : Ky} {a : Addr} {ds : List PyData} : ItK κ (Itl κ.K a) ds [.p (.list ds)] [.ref a] where
  go := fun H P' i _ r hi => by
    obtain ⟨v, r', e, ⟨a', xs, ev, hq, ha⟩, _⟩ := r
    cases e
    cases ev
    obtain ⟨x, e1, _⟩ := ha.get (List.getElem?_eq_getElem hi)
    exact ⟨xs, x, SqL.of ((hide_ext P' H).lst hq), e1⟩
  stop := fun H P' i _ r hi => by
    obtain ⟨v, r', e, ⟨a', xs, ev, hq, ha⟩, _⟩ := r
    cases e
    cases ev
    exact ⟨xs, SqL.of ((hide_ext P' H).lst hq), by rw [← ha.len]; exact hi⟩
  yld := fun H P' i x H2 _ r hi hy => by
    obtain ⟨v, r', e, ⟨a', xs, ev, hq, ha⟩, _⟩ := r
    cases e
    cases ev
    obtain ⟨rfl, f⟩ := hy
    obtain ⟨y, e1, e2⟩ := ha.back (f xs (SqL.of ((hide_ext P' H2).lst hq)))
    exact ⟨y, e1, Ext.refl _, e2⟩
theorem itk_tup {κ : Ky} {a : Addr} {ds : List PyData} : ItK κ (Itt κ.K a) ds [.p (.tuple ds)] [.ref a] where
  go := fun H P' i _ r hi => by
    obtain ⟨v, r', e, ⟨a', xs, ev, hq, ha⟩, _⟩ := r
    cases e
    cases ev
    obtain ⟨x, e1, _⟩ := ha.get (List.getElem?_eq_getElem hi)
    exact ⟨xs, x, (hide_ext P' H).seqT hq, e1⟩
  stop := fun H P' i _ r hi => by
    obtain ⟨v, r', e, ⟨a', xs, ev, hq, ha⟩, _⟩ := r
    cases e
    cases ev
    exact ⟨xs, (hide_ext P' H).seqT hq, by rw [← ha.len]; exact hi⟩
  yld := fun H P' i x H2 _ r hi hy => by
    obtain ⟨v, r', e, ⟨a', xs, ev, hq, ha⟩, _⟩ := r
    cases e
    cases ev
    obtain ⟨rfl, f⟩ := hy
    obtain ⟨y, e1, e2⟩ := ha.back (f xs ((hide_ext P' H2).seqT hq))
    exact ⟨y, e1, Ext.refl _, e2⟩
/-- lo, lo + 1, .. -/
def rngD (lo : Int) (n : Nat) : List PyData := (List.range n).map fun (k : Nat) => .int (lo + (k : Int))
theorem itk_rng {κ : Ky} {lo : Int} {n : Nat} : ItK κ (Itr lo n) (rngD lo n) [] [] where
  go := fun H P' i _ r hi => by
    unfold rngD at hi
    rw [List.length_map, List.length_range] at hi
    exact hi
  stop := fun H P' i _ r hi => by
    unfold rngD at hi
    rw [List.length_map, List.length_range] at hi
    exact hi
  yld := fun H P' i x H2 _ r hi hy => by
    obtain ⟨rfl, rfl⟩ := hy
    unfold rngD at hi ⊢
    rw [List.length_map, List.length_range] at hi
    exact ⟨.int (lo + i), by rw [List.getElem?_map, List.getElem?_range hi]; rfl, Ext.refl _, rfl⟩
/-- a text's signs, each a text -/
def signsD (x : Str) : List PyData := x.cps.toList.map fun c => .str ⟨#[c]⟩
theorem itk_str {κ : Ky} {x : Str} : ItK κ (Its x) (signsD x) [] [] where
  go := fun H P' i _ r hi => by
    unfold signsD at hi
    rw [List.length_map, Array.length_toList] at hi
    exact hi
  stop := fun H P' i _ r hi => by
    unfold signsD at hi
    rw [List.length_map, Array.length_toList] at hi
    exact hi
  yld := fun H P' i y H2 _ r hi hy => by
    obtain ⟨rfl, c, hc, rfl⟩ := hy
    unfold signsD
    exact ⟨.str ⟨#[c]⟩, by rw [List.getElem?_map, Array.getElem?_toList, hc]; rfl, Ext.refl _, rfl⟩
def dItL (te : TD) : TDI := fun δ R => te δ fun d => asL d R
def dItU (te : TD) : TDI := fun δ R => te δ fun d => asU d R
def dItS (te : TD) : TDI := fun δ R => te δ fun d => asS d fun x => R (signsD x)
def dItR1 (ta : TL) : TDI := fun δ R => ta δ fun ds => ∃ j : Int, ds = [.p (.int j)] ∧ -(2 ^ 62) ≤ j ∧ j < 2 ^ 62 ∧ R (rngD 0 j.toNat)
def dItR2 (ta : TL) : TDI := fun δ R => ta δ fun ds => ∃ i j : Int, ds = [.p (.int i), .p (.int j)] ∧ (-(2 ^ 62) ≤ i ∧ i < 2 ^ 62 ∧ -(2 ^ 62) ≤ j ∧ j < 2 ^ 62) ∧ R (rngD i (j - i).toNat)
theorem rvA1 {κ : Ky} {H : Hp} {d : PyData} {vs : List V} (h : RvA κ H [.p d] vs) : ∃ v, vs = [v] ∧ Rp κ.K H d v := by
  obtain ⟨v, r, e, q, t⟩ := h
  have t' : r = [] := t
  subst t'
  exact ⟨v, e, q⟩
theorem rvA2 {κ : Ky} {H : Hp} {d e : PyData} {vs : List V} (h : RvA κ H [.p d, .p e] vs) : ∃ v u, vs = [v, u] ∧ Rp κ.K H d v ∧ Rp κ.K H e u := by
  obtain ⟨v, r, e1, q, t⟩ := h
  obtain ⟨u, e2, q2⟩ := rvA1 t
  subst e2
  exact ⟨v, u, e1, q, q2⟩
section
variable {X : Cx} {tg e : Expr} {te : TD}
theorem di_list (he : PE X e (up (Cx.ky X) te)) : PI X tg e (upI (Cx.ky X) (dItL te)) := by
  refine PI.imp (pi_list he) fun σ H R ⟨δ, R', c, L, es, h, k⟩ => ⟨δ, _, c, L, es, h, fun v H1 d x1 r1 h1 => ?_⟩
  obtain ⟨ds, rfl, h2⟩ := asL_of h1
  obtain ⟨a, xs, e, q, ra⟩ := id r1
  subst e
  exact ⟨a, rfl, ⟨xs, SqL.of ((hide_ext _ _).lst q)⟩, k _ H1 ds [.p (.list ds)] [.ref a] x1 ⟨_, [], rfl, r1, rfl⟩ itk_list h2⟩
theorem di_tup (he : PE X e (up (Cx.ky X) te)) : PI X tg e (upI (Cx.ky X) (dItU te)) := by
  refine PI.imp (pi_tup he) fun σ H R ⟨δ, R', c, L, es, h, k⟩ => ⟨δ, _, c, L, es, h, fun v H1 d x1 r1 h1 => ?_⟩
  obtain ⟨ds, rfl, h2⟩ := asU_of h1
  obtain ⟨a, xs, e, q, ra⟩ := id r1
  subst e
  exact ⟨a, rfl, ⟨xs, (hide_ext _ _).seqT q⟩, k _ H1 ds [.p (.tuple ds)] [.ref a] x1 ⟨_, [], rfl, r1, rfl⟩ itk_tup h2⟩
theorem di_str (he : PE X e (up (Cx.ky X) te)) : PI X tg e (upI (Cx.ky X) (dItS te)) := by
  refine PI.imp (pi_str he) fun σ H R ⟨δ, R', c, L, es, h, k⟩ => ⟨δ, _, c, L, es, h, fun v H1 d x1 r1 h1 => ?_⟩
  obtain ⟨x, rfl, h2⟩ := asS_of h1
  exact ⟨x, r1, k _ H1 (signsD x) [] [] x1 rfl itk_str h2⟩
theorem di_rng1 {a : Expr} {ta : TL} {p pos : Pos} (hg : Gl X "range") (hm : X.mg "range" = none) (ha : PA X [a] (upA (Cx.ky X) ta)) (hs : starEach [a] X.env = [(false, eval a X.env)] := by rfl) : PI X tg (.Call (.Name "range" p) [a] [] pos) (upI (Cx.ky X) (dItR1 ta)) := by
  refine PI.imp (pi_range1 hg hm ha hs) fun σ H R ⟨δ, R', c, L, es, h, k⟩ => ⟨δ, _, c, L, es, h, fun vs H1 ds x1 r1 h1 => ?_⟩
  obtain ⟨j, rfl, b1, b2, h2⟩ := h1
  obtain ⟨v, rfl, rv⟩ := rvA1 r1
  exact ⟨j, by rw [show v = .int j from rv], b1, b2, k _ H1 (rngD 0 j.toNat) [] [] x1 rfl itk_rng h2⟩
theorem di_rng2 {a b : Expr} {ta : TL} {p pos : Pos} (hg : Gl X "range") (hm : X.mg "range" = none) (ha : PA X [a, b] (upA (Cx.ky X) ta)) (hs : starEach [a, b] X.env = [(false, eval a X.env), (false, eval b X.env)] := by rfl) (hs2 : starEach [b] X.env = [(false, eval b X.env)] := by rfl) :
    PI X tg (.Call (.Name "range" p) [a, b] [] pos) (upI (Cx.ky X) (dItR2 ta)) := by
  refine PI.imp (pi_range2 hg hm ha hs hs2) fun σ H R ⟨δ, R', c, L, es, h, k⟩ => ⟨δ, _, c, L, es, h, fun vs H1 ds x1 r1 h1 => ?_⟩
  obtain ⟨i, j, rfl, b1, h2⟩ := h1
  obtain ⟨v, u, rfl, rv, ru⟩ := rvA2 r1
  exact ⟨i, j, by rw [show v = .int i from rv, show u = .int j from ru], b1, k _ H1 (rngD i (j - i).toNat) [] [] x1 rfl itk_rng h2⟩
end

/-! ### targets -/
abbrev TDG := DV → Dn → (Dn → Prop) → Prop
abbrev TDGs := List PyData → Dn → (Dn → Prop) → Prop
def upG (κ : Ky) (vs : List Nat) (g : TDG) : TG := fun v σ H Q => ∃ d δ N c L, ES κ c H L δ σ ∧ Rv κ (hide (oor c.P L) H) d v ∧ g d δ N ∧ ∀ δ' σ', ES κ c H L δ' σ' → wipe σ' vs = wipe σ vs → N δ' → Q σ' H
def upGs (κ : Ky) (vs : List Nat) (g : TDGs) : TGs := fun us σ H Q => ∃ ds δ N c L, ES κ c H L δ σ ∧ RpA κ.K (hide (oor c.P L) H) ds us ∧ g ds δ N ∧ ∀ δ' σ', ES κ c H L δ' σ' → wipe σ' vs = wipe σ vs → N δ' → Q σ' H
def gdName (i : Nat) : TDG := fun d δ N => N (δ.set i (.v d))
def gdNil : TDGs := fun ds δ N => ds = [] ∧ N δ
def gdCons (g : TDG) (u : TDGs) : TDGs := fun ds δ N => ∃ d r, ds = d :: r ∧ g (.p d) δ fun δ' => u r δ' N
def gdTup (n : Nat) (u : TDGs) : TDG := fun d δ N => asU d fun ds => ds.length = n ∧ u ds δ N
theorem wipe_in {σ : Sg} {o : Option V} {i : Nat} : ∀ {vs : List Nat}, i ∈ vs → wipe (σ.set i o) vs = wipe σ vs
  | [], h => by cases h
  | v :: vs, h => by
    unfold wipe
    by_cases hi : i ∈ vs
    · rw [wipe_in hi]
    · have e : i = v := (List.mem_cons.mp h).resolve_right hi
      subst e
      apply List.ext_getElem?
      intro j
      by_cases hj : j = i
      · subst hj
        by_cases hl : j < σ.length
        · rw [List.getElem?_set_self (by rw [wipe_length, List.length_set]; exact hl), List.getElem?_set_self (by rw [wipe_length]; exact hl)]
        · rw [List.getElem?_eq_none (by rw [List.length_set, wipe_length, List.length_set]; omega), List.getElem?_eq_none (by rw [List.length_set, wipe_length]; omega)]
      · rw [List.getElem?_set_ne (Ne.symm hj), List.getElem?_set_ne (Ne.symm hj)]
        by_cases hm : j ∈ vs
        · have none_at : ∀ (τ : Sg) (ws : List Nat), j ∈ ws → (wipe τ ws)[j]? = (τ[j]?).map fun _ => Option.none := by
            intro τ ws
            induction ws with
            | nil => intro z; cases z
            | cons w ws ih =>
              intro z
              unfold wipe
              by_cases hw : j = w
              · subst hw
                by_cases hl : j < τ.length
                · rw [List.getElem?_set_self (by rw [wipe_length]; exact hl), List.getElem?_eq_getElem hl]
                  rfl
                · rw [List.getElem?_eq_none (by rw [List.length_set, wipe_length]; omega), List.getElem?_eq_none (by omega)]
                  rfl
              · rw [List.getElem?_set_ne (Ne.symm hw)]
                exact ih ((List.mem_cons.mp z).resolve_left hw)
          rw [none_at _ _ hm, none_at _ _ hm, List.getElem?_set_ne (Ne.symm hj)]
        · rw [wipe_out hm, wipe_out hm, List.getElem?_set_ne (Ne.symm hj)]
section
variable {X : Cx} {pos : Pos} {vs : List Nat}
theorem dg_name {i : Nat} {x : Str} (hv : i ∈ vs) (hN : X.N.Nodup) (hi : X.N[i]? = some x) (hx : Loc X.env.scope x) (hf : X.fn x = true ∨ X.env.scope.names.lookup x = some .local := by first | exact .inl rfl | exact .inr rfl | assumption) : PG X (.Name x pos) (upG (Cx.ky X) vs (gdName i)) :=
  ⟨fun pins s σ H v u Q I r ⟨d, δ, N, c, L, es, rv, h, k⟩ => (pg_name hN hi hx hf).run pins s σ H v u Q I r (k _ _ (es.set rv) (wipe_in hv) h)⟩
theorem dgs_nil : PGs X [] (upGs (Cx.ky X) vs gdNil) :=
  ⟨fun pins s σ H us ws Q I r ⟨ds, δ, N, c, L, es, rv, ⟨e, h⟩, k⟩ => pgs_nil.run pins s σ H us ws Q I r ⟨by subst e; exact rv, k δ σ es rfl h⟩⟩
theorem dgs_cons {e : Expr} {es : List Expr} {g : TDG} {u : TDGs} (h1 : PG X e (upG (Cx.ky X) vs g)) (h2 : PGs X es (upGs (Cx.ky X) vs u))
    (hs : (assignEach (e :: es) X.env).map (·.2) = assign e X.env :: (assignEach es X.env).map (·.2) := by rfl) : PGs X (e :: es) (upGs (Cx.ky X) vs (gdCons g u)) := by
  refine ⟨fun pins s σ H us ws Q I r ⟨ds, δ, N, c, L, es, rv, ⟨d, q, e, h⟩, k⟩ => (pgs_cons h1 h2 hs).run pins s σ H us ws Q I r ?_⟩
  subst e
  obtain ⟨v, vr, e1, rd, rq⟩ := rv
  exact ⟨v, vr, e1, ⟨.p d, δ, _, c, L, es, rd, h, fun δ' σ' es' ew h' => ⟨q, δ', N, c, L, es', rq, h', fun δ2 σ2 es2 ew2 h2 => k δ2 σ2 es2 (ew2.trans ew) h2⟩⟩⟩
theorem dg_tup {es : List Expr} {k : Nat} {u : TDGs} {n : Nat} (hc : X.calm = true) (h : PGs X es (upGs (Cx.ky X) vs u))
    (hn : (assignEach es X.env).length = n := by rfl) (hst : (assignEach es X.env).findIdx? (·.1) = none := by rfl) : PG X (.Tuple es k pos) (upG (Cx.ky X) vs (gdTup n u)) := by
  refine ⟨fun pins s σ H v w Q I r ⟨d, δ, N, c, L, es, rv, h1, k1⟩ => (pg_tup hc h hn hst).run pins s σ H v w Q I r ?_⟩
  obtain ⟨ds, rfl, hl, h2⟩ := asU_of h1
  obtain ⟨a, xs, e, q, ra⟩ := rv
  exact ⟨a, xs, e, (hide_ext _ _).seqT q, by rw [← ra.len]; exact hl, ⟨ds, δ, N, c, L, es, ra, h2, k1⟩⟩
def dAsg (t : TD) (g : TDG) : TDS := fun E δ => t δ fun d => g d δ E.nx
theorem ds_asg {tg e : Expr} {te : TD} {g : TDG} (he : PE X e (up (Cx.ky X) te)) (hg : PG X tg (upG (Cx.ky X) vs g)) (hs : swapsWithSole [tg] e pos.line X.env = pure false := by rfl) (hw : swappedStores [tg] e X.env = pure none := by rfl)
    (h1 : (assignEach [tg] X.env).map (·.2) = [assign tg X.env] := by rfl) : PS X (.Assign [tg] e pos) (upS (Cx.ky X) (dAsg te g)) :=
  PS.imp (ps_asg he hg hs hw h1) fun D σ H ⟨δ, E, c, L, es, h, f⟩ => ⟨δ, _, c, L, es, h, fun v H1 d x1 r1 h1 => ⟨d, δ, _, c, L, es.on x1, r1, h1, fun δ' σ' es' _ h' => f.nx δ' σ' H1 L es' h'⟩⟩
end

/-! ### for -/
def forL (E : DE) (g : TDG) (tb : TDS) : List PyData → Dn → Prop
  | [], δ => E.nx δ
  | d :: r, δ => g (.p d) δ fun δ' => tb { E with nx := forL E g tb r, ct := forL E g tb r, bk := E.nx } δ'
def dFor (ti : TDI) (g : TDG) (tb : TDS) : TDS := fun E δ => ti δ fun ds => forL E g tb ds δ
theorem ES.more {κ : Ky} {c : Sc} {H : Hp} {L : Addr → Bool} {δ : Dn} {σ : Sg} {bs : List DV} {us : List V} (s : ES κ c H L δ σ) (r : RvA κ (hide (oor c.P L) H) bs us) : ES κ { c with bs := bs ++ c.bs, us := us ++ c.us } H L δ σ :=
  ⟨s.len, s.val, s.own, s.sep, s.psys, s.pdom, s.ldom, s.ext, RvA.app r s.kept⟩
theorem ES.less {κ : Ky} {c : Sc} {H : Hp} {L : Addr → Bool} {δ : Dn} {σ : Sg} {bs : List DV} {us : List V} (hl : bs.length = us.length) (s : ES κ { c with bs := bs ++ c.bs, us := us ++ c.us } H L δ σ) : ES κ c H L δ σ ∧ RvA κ (hide (oor c.P L) H) bs us :=
  have q := RvA.split hl s.kept
  ⟨⟨s.len, s.val, s.own, s.sep, s.psys, s.pdom, s.ldom, s.ext, q.2⟩, q.1⟩
section
variable {X : Cx} {pos : Pos} {vs : List Nat}
theorem ds_for {tg iter : Expr} {body : List Stmt} {ti : TDI} {g : TDG} {tb : TDS} (hp : PassesOwn (model X.prog X.w) X.A X.env X.xe) (hc : X.calm = true) (hi : PI X tg iter (upI (Cx.ky X) ti)) (hg : PG X tg (upG (Cx.ky X) vs g)) (hb : PSs X body (upS (Cx.ky X) tb))
    (hs : ∀ x, foldedSetIterable iter X.env x = pure x := by intro _; rfl) : PS X (.For tg iter body [] pos) (upS (Cx.ky X) (dFor ti g tb)) := by
  refine PS.imp (ps_for hp hc hi hg hb hs) fun D σ H ⟨δ, E, c, L, es, h, f⟩ => ⟨δ, _, c, L, es, h, fun J H1 ds bs us x1 kb itk h1 => ?_⟩
  have hl := kb.len
  refine ⟨fun i m σ' H' => i + m = ds.length ∧ ∃ δ' L', ES (Cx.ky X) { c with bs := bs ++ c.bs, us := us ++ c.us } H' L' δ' σ' ∧ forL E g tb (ds.drop i) δ', ⟨ds.length, by omega, δ, L, (es.on x1).more kb, h1⟩, fun i m σ' H' ⟨em, δ', L', es', h'⟩ => ?_⟩
  obtain ⟨es2, kb2⟩ := es'.less hl
  by_cases hi' : i < ds.length
  · rw [List.drop_eq_getElem_cons hi'] at h'
    refine .inr ⟨itk.go H' _ i es2.dom kb2 hi', fun σ2 H2 => ∃ δ2 L2, ES (Cx.ky X) { c with bs := bs ++ c.bs, us := us ++ c.us } H2 L2 δ2 σ2 ∧ forL E g tb (ds.drop (i + 1)) δ2, fun σ2 H2 ⟨δ2, L2, e2, q2⟩ => ⟨m - 1, by omega, by omega, δ2, L2, e2, q2⟩, fun x H2 hy => ?_⟩
    obtain ⟨y, ey, x2, ry⟩ := itk.yld H' _ i x H2 es2.dom kb2 hi' hy
    rw [List.getElem?_eq_getElem hi'] at ey
    cases ey
    refine ⟨.p ds[i], δ', _, _, L', es'.on x2, ry, h', fun δ3 σ3 es3 _ h3 => ⟨δ3, _, _, L', es3, h3, ⟨fun δ4 σ4 H4 L4 e4 q4 => ⟨δ4, L4, e4, q4⟩, fun v H4 d x4 r4 q4 => f.rt v H4 d x4 r4 q4, fun δ4 σ4 H4 L4 e4 q4 => f.nx δ4 σ4 H4 L4 (e4.less hl).1 q4, fun δ4 σ4 H4 L4 e4 q4 => ⟨δ4, L4, e4, q4⟩⟩⟩⟩
  · rw [List.drop_eq_nil_of_le (by omega)] at h'
    exact .inl ⟨itk.stop H' _ i es2.dom kb2 (by omega), f.nx δ' σ' H' L' es2 h'⟩
end

/-! ### comprehensions -/
def wipeD (δ : Dn) : List Nat → Dn
  | [] => δ
  | v :: vs => (wipeD δ vs).set v .un
theorem ES.wipe {κ : Ky} {c : Sc} {H : Hp} {L : Addr → Bool} {δ : Dn} {σ : Sg} (s : ES κ c H L δ σ) : ∀ vs : List Nat, ES κ c H L (wipeD δ vs) (L2.wipe σ vs)
  | [] => s
  | v :: vs => (ES.wipe s vs).wipe1 v none
def dYes : TB := fun _ R => R true
def lcL (g : TDG) (tt : TB) (te : TD) (δ : Dn) (fin : List PyData → Prop) : List PyData → List PyData → Prop
  | [], acc => fin acc
  | d :: r, acc => g (.p d) δ fun δ2 => tt δ2 fun b => if b = true then te δ2 fun y => asP y fun z => lcL g tt te δ fin r (acc ++ [z]) else lcL g tt te δ fin r acc
def dLc (ti : TDI) (g : TDG) (tt : TB) (te : TD) (vs : List Nat) : TD := fun δ R => ti δ fun ds => ds.length ≤ sizeLine ∧ lcL g tt te (wipeD δ vs) (fun acc => R (.p (.list acc))) ds []
def plus (L : Addr → Bool) (D : Addr) : Addr → Bool := fun b => L b || decide (b = D)
theorem plus_of {L : Addr → Bool} {D a : Addr} (h : L a = true) : plus L D a = true := by unfold plus; rw [h]; rfl
theorem plus_at {L : Addr → Bool} {D : Addr} : plus L D D = true := by unfold plus; rw [decide_eq_true rfl, Bool.or_true]
theorem plus_ne {L : Addr → Bool} {D a : Addr} (h : a ≠ D) : plus L D a = L a := by unfold plus; rw [decide_eq_false h, Bool.or_false]
theorem oor_plus {P L : Addr → Bool} {D : Addr} : oor P (plus L D) D = true := by unfold oor; rw [plus_at, Bool.or_true]
theorem oor_ne {P L : Addr → Bool} {D a : Addr} (h : a ≠ D) : oor P (plus L D) a = oor P L a := by unfold oor; rw [plus_ne h]
theorem hide_same {P : Addr → Bool} {H : Hp} {a : Addr} {o : HO} (h : P a = true) : hide P (upd H a o) = hide P H := funext fun b => by
  unfold hide
  by_cases hb : b = a
  · rw [hb, h]
    rfl
  · split
    · rfl
    · rw [upd_ne hb]
theorem up_lc {κ : Ky} {ti : TDI} {g : TDG} {tt : TB} {te : TD} {vs : List Nat} {σ : Sg} {H : Hp} {Q : VK} (h : up κ (dLc ti g tt te vs) σ H Q) : tLc (upI κ ti) (upG κ vs g) (upT κ tt) (up κ te) vs σ H Q := by
  obtain ⟨δ, R, c, L, es, h, k⟩ := h
  refine ⟨δ, _, c, L, es, h, fun J H1 ds bs us x1 kb itk ⟨hz, h1⟩ D nD => ?_⟩
  have hl := kb.len
  have LD : L D = false := by
    cases q : L D with
    | false => rfl
    | true => exact absurd nD ((es.on x1).ldom D q).1
  have HD : H D = none := x1.none nD
  have H0D : c.H0 D = none := es.ext.none HD
  have PD : c.P D = false := by
    cases q : c.P D with
    | false => rfl
    | true => exact absurd H0D (es.pdom D q)
  -- the private lists, the new one besides
  have hsub : ∀ a, oor c.P L a = true → oor c.P (plus L D) a = true := fun a q => by
    unfold oor at q ⊢
    rw [Bool.or_eq_true] at q ⊢
    rcases q with q | q
    · exact .inl q
    · exact .inr (plus_of q)
  have xD : Ext (hide (oor c.P L) H1) (hide (oor c.P (plus L D)) (upd H1 D (.lst []))) := fun a o e => by
    unfold hide at e ⊢
    split at e
    · cases e
    · rename_i n
      have ne : a ≠ D := ne_of_none e nD
      rw [oor_ne ne, if_neg n, upd_ne ne]
      exact .inl e
  have ownD : ∀ (i : Nat) (xs : List PyData) (a : Addr), δ[i]? = some (Sl.own xs) → σ[i]? = some (some (V.ref a)) → a ≠ D := fun i xs a e1 e2 e3 => by
    obtain ⟨b, ys, q1, q2, q3, _⟩ := es.own i xs e1
    rw [e2] at q1
    cases q1
    rw [e3] at q2
    rw [q2] at LD
    cases LD
  have fresh : ∀ {Hc : Hp} {o : HO}, ES κ { c with bs := bs ++ c.bs, us := us ++ c.us } Hc (plus L D) δ σ → ES κ { c with bs := bs ++ c.bs, us := us ++ c.us } (upd Hc D o) (plus L D) δ σ := fun {Hc o} s => by
    have eD : oor c.P (plus L D) D = true := oor_plus
    have eh : hide (oor c.P (plus L D)) (upd Hc D o) = hide (oor c.P (plus L D)) Hc := hide_same eD
    refine ⟨s.len, fun i d e => ?_, fun i xs e => ?_, s.sep, s.psys, s.pdom, fun a e => ⟨?_, (s.ldom a e).2⟩, fun a o' e => ?_, ?_⟩
    · show ∃ v, _ ∧ Rv κ (hide (oor c.P (plus L D)) (upd Hc D o)) d v
      rw [eh]
      exact s.val i d e
    · obtain ⟨a, ys, q1, q2, q3, q4⟩ := s.own i xs e
      refine ⟨a, ys, q1, q2, by rw [upd_ne (ownD i xs a e q1)]; exact q3, ?_⟩
      show RpA κ.K (hide (oor c.P (plus L D)) (upd Hc D o)) xs ys
      rw [eh]
      exact q4
    · by_cases ha : a = D
      · rw [ha, upd_same]
        exact Option.some_ne_none _
      · rw [upd_ne ha]
        exact (s.ldom a e).1
    · rw [upd_ne (ne_of_none e H0D)]
      exact s.ext a o' e
    · show RvA κ (hide (oor c.P (plus L D)) (upd Hc D o)) _ _
      rw [eh]
      exact s.kept
  have s0 : ES κ { c with bs := bs ++ c.bs, us := us ++ c.us } (upd H1 D (.lst [])) (plus L D) δ σ := by
    have s := (es.on x1).more kb
    refine ⟨s.len, fun i d e => ?_, fun i xs e => ?_, s.sep, s.psys, s.pdom, fun a e => ?_, s.ext.trans (Ext.new nD), s.kept.ext xD⟩
    · obtain ⟨v, q1, q2⟩ := s.val i d e
      exact ⟨v, q1, q2.ext xD⟩
    · obtain ⟨a, ys, q1, q2, q3, q4⟩ := s.own i xs e
      exact ⟨a, ys, q1, plus_of q2, by rw [upd_ne (ownD i xs a e q1)]; exact q3, q4.ext xD⟩
    · by_cases ha : a = D
      · rw [ha, upd_same]
        exact ⟨Option.some_ne_none _, H0D⟩
      · rw [plus_ne ha] at e
        rw [upd_ne ha]
        exact s.ldom a e
  refine ⟨fun i m Hc => i + m = ds.length ∧ ∃ accD acc, ES κ { c with bs := bs ++ c.bs, us := us ++ c.us } Hc (plus L D) δ σ ∧ Ext H Hc ∧ Hc D = some (.lst acc) ∧ RpA κ.K (hide (oor c.P (plus L D)) Hc) accD acc ∧ accD.length ≤ i ∧ lcL g tt te (wipeD δ vs) (fun acc => R (.p (.list acc))) (ds.drop i) accD,
    ⟨ds.length, by omega, [], [], s0, x1.trans (Ext.new nD), upd_same, rfl, Nat.le_refl 0, h1⟩, fun i m Hc ⟨em, accD, acc, s, xc, eD, ra, hlen, hh⟩ => ?_⟩
  obtain ⟨s2, kb2⟩ := s.less hl
  by_cases hi : i < ds.length
  · rw [List.drop_eq_getElem_cons hi] at hh
    refine .inr ⟨itk.go Hc _ i s2.dom kb2 hi, fun H' => ∃ accD acc, ES κ { c with bs := bs ++ c.bs, us := us ++ c.us } H' (plus L D) δ σ ∧ Ext H H' ∧ H' D = some (.lst acc) ∧ RpA κ.K (hide (oor c.P (plus L D)) H') accD acc ∧ accD.length ≤ i + 1 ∧ lcL g tt te (wipeD δ vs) (fun acc => R (.p (.list acc))) (ds.drop (i + 1)) accD,
      fun H' ⟨accD, acc, a1, a2, a3, a4, a5, a6⟩ => ⟨m - 1, by omega, by omega, accD, acc, a1, a2, a3, a4, a5, a6⟩, fun x H2 hy => ?_⟩
    obtain ⟨y, ey, x2, ry⟩ := itk.yld Hc _ i x H2 s2.dom kb2 hi hy
    rw [List.getElem?_eq_getElem hi] at ey
    cases ey
    refine ⟨.p ds[i], wipeD δ vs, _, _, _, (s.on x2).wipe vs, ry, hh, fun δ3 σ3 s3 ew h3 => ⟨?_, ⟨δ3, _, _, _, s3, h3, fun b H3 x3 h4 => ?_⟩⟩⟩
    · rw [ew]
      apply List.ext_getElem?
      intro j
      have two : ∀ (ws : List Nat) (τ : Sg), (∀ v ∈ ws, v ∈ vs) → L2.wipe (L2.wipe τ vs) ws = L2.wipe τ vs := by
        intro ws
        induction ws with
        | nil => intro τ _; rfl
        | cons w ws ih =>
          intro τ hw
          show (L2.wipe (L2.wipe τ vs) ws).set w none = L2.wipe τ vs
          rw [ih τ fun v hv => hw v (List.mem_cons_of_mem _ hv)]
          have hwv := hw w List.mem_cons_self
          apply List.ext_getElem?
          intro j
          by_cases hj : j = w
          · subst hj
            by_cases hlt : j < τ.length
            · rw [List.getElem?_set_self (by rw [wipe_length]; exact hlt), List.getElem?_eq_getElem (by rw [wipe_length]; exact hlt)]
              cases e : (L2.wipe τ vs)[j]'(by rw [wipe_length]; exact hlt) with
              | none => rfl
              | some v =>
                have q := wipe_some (σ := τ) (vs := vs) (i := j) (x := v) (by rw [List.getElem?_eq_getElem (by rw [wipe_length]; exact hlt), e])
                exact absurd hwv q.2
            · rw [List.getElem?_eq_none (by rw [List.length_set, wipe_length]; omega), List.getElem?_eq_none (by rw [wipe_length]; omega)]
          · rw [List.getElem?_set_ne (Ne.symm hj)]
      rw [two vs σ fun _ h => h]
    · have done : ∀ {H' : Hp}, Ext H2 H' → lcL g tt te (wipeD δ vs) (fun acc => R (.p (.list acc))) (ds.drop (i + 1)) accD → ∃ accD acc, ES κ { c with bs := bs ++ c.bs, us := us ++ c.us } H' (plus L D) δ σ ∧ Ext H H' ∧ H' D = some (.lst acc) ∧ RpA κ.K (hide (oor c.P (plus L D)) H') accD acc ∧ accD.length ≤ i + 1 ∧ lcL g tt te (wipeD δ vs) (fun acc => R (.p (.list acc))) (ds.drop (i + 1)) accD :=
        fun {H'} x h => ⟨accD, acc, s.on (x2.trans x), xc.trans (x2.trans x), (x2.trans x).lst eD, ra.ext ((x2.trans x).hide _), Nat.le_succ_of_le hlen, h⟩
      cases b with
      | false => exact done x3 h4
      | true =>
        show up κ te σ3 H3 _
        refine ⟨δ3, _, _, _, s3.on x3, h4, fun v H4 d x4 r4 h5 => ?_⟩
        obtain ⟨z, rfl, h6⟩ := asP_of h5
        have xx := x2.trans (x3.trans x4)
        refine ⟨acc, xx.lst eD, by rw [← ra.len]; omega, accD ++ [z], acc ++ [v], fresh (s.on xx), fun a o e => ?_, upd_same, ?_, by rw [List.length_append, List.length_singleton]; omega, h6⟩
        · have ne : a ≠ D := ne_of_none e HD
          rw [upd_ne ne]
          exact (xc.trans xx) a o e
        · rw [hide_same oor_plus]
          exact RpA.app (ra.ext (xx.hide _)) ⟨v, [], rfl, r4, rfl⟩
  · rw [List.drop_eq_nil_of_le (by omega)] at hh
    refine .inl ⟨itk.stop Hc _ i s2.dom kb2 (by omega), k (.ref D) Hc (.p (.list accD)) xc ⟨D, acc, rfl, ?_, ra.ext (hide_less Hc hsub)⟩ hh⟩
    rw [hide_at (by unfold oor; rw [PD, LD]; rfl)]
    exact eD
section
variable {X : Cx} {elt tg iter : Expr} {ifs : List Expr} {scope : Scope} {own : List (Str × Nat)} {pos : Pos} {ti : TDI} {g : TDG} {tt : TB} {te : TD}
theorem dts_nil : PTs X [] (upT (Cx.ky X) dYes) := ⟨fun pins s σ H Q I ⟨δ, R, c, L, es, h, k⟩ => pts_nil.run pins s σ H Q I (k true H (Ext.refl H) h)⟩
theorem dts_one {c : Expr} {t : TB} (h : PT X c (upT (Cx.ky X) t)) : PTs X [c] (upT (Cx.ky X) t) := pts_one h
theorem de_lc (hc : X.calm = true) (hN : X.N.Nodup) (hi : PI X tg iter (upI (Cx.ky X) ti)) (ok : BlkOk X.N X.env.scope scope own)
    (hg : ∀ (s : Shared) (H : Hp) (C : Addr) (cl : List (Str × Addr)) (fp : List Addr), PG (X.blk s H scope (compEnvC scope cl C X.env) fp) tg (upG (Cx.ky X) (own.map (·.2)) g)) (ht : ∀ (s : Shared) (H : Hp) (C : Addr) (cl : List (Str × Addr)) (fp : List Addr), PTs (X.blk s H scope (compEnvC scope cl C X.env) fp) ifs (upT (Cx.ky X) tt))
    (he : ∀ (s : Shared) (H : Hp) (C : Addr) (cl : List (Str × Addr)) (fp : List Addr), PE (X.blk s H scope (compEnvC scope cl C X.env) fp) elt (up (Cx.ky X) te)) (hs : ∀ x, foldedSetIterable iter X.env x = pure x := by intro _; rfl) :
    PE X (.ListComp elt [⟨tg, iter, ifs, 0⟩] scope pos) (up (Cx.ky X) (dLc ti g tt te (own.map (·.2)))) := PE.imp (pe_lc hc hN hi ok hg ht he hs) fun _ _ _ h => up_lc h
theorem ds_setLc {i : Nat} {y : Str} {py spos : Pos} (hc : X.calm = true) (hN : X.N.Nodup) (hy : X.N[i]? = some y) (hyl : X.env.scope.names.lookup y = some .local)
    (hsw : swapsWith (.ListComp elt [⟨tg, iter, ifs, 0⟩] scope pos) (some (.Name y py)) spos.line X.env = pure true) (hi : PI X tg iter (upI (Cx.ky X) ti)) (ok : BlkOk X.N X.env.scope scope own)
    (hg : ∀ (s : Shared) (H : Hp) (C : Addr) (cl : List (Str × Addr)) (fp : List Addr), PG (X.blk s H scope (compEnvC scope cl C X.env) fp) tg (upG (Cx.ky X) (own.map (·.2)) g)) (ht : ∀ (s : Shared) (H : Hp) (C : Addr) (cl : List (Str × Addr)) (fp : List Addr), PTs (X.blk s H scope (compEnvC scope cl C X.env) fp) ifs (upT (Cx.ky X) tt))
    (he : ∀ (s : Shared) (H : Hp) (C : Addr) (cl : List (Str × Addr)) (fp : List Addr), PE (X.blk s H scope (compEnvC scope cl C X.env) fp) elt (up (Cx.ky X) te)) (hs : ∀ x, foldedSetIterable iter X.env x = pure x := by intro _; rfl) :
    PS X (.Assign [.Name y py] (.ListComp elt [⟨tg, iter, ifs, 0⟩] scope pos) spos) (upS (Cx.ky X) (dSet i (dLc ti g tt te (own.map (·.2))))) := by
  refine PS.imp (ps_setLc hc hN hy hyl hsw hi ok hg ht he hs) fun D σ H ⟨δ, E, c, L, es, h, f⟩ => ?_
  exact up_lc ⟨δ, _, c, L, es, h, fun v H1 d x1 r1 h1 => f.nx _ _ H1 L ((es.on x1).set r1) h1⟩
end
end MR

/-! Operations, built-ins, subscripts, displays by data. -/
namespace MR
open PySem PySem.Spec PyProof.Rows L2

/-- a new object -/
theorem fresh_at {P : Addr → Bool} {H : Hp} {p : Addr} {o : HO} (d : Dom P H) (h : H p = none) : hide P (upd H p o) p = some o := hide_new d h
theorem new_lst {κ : Ky} {P : Addr → Bool} {H : Hp} {p : Addr} {ds : List PyData} {xs : List V} (d : Dom P H) (h : H p = none) (r : RpA κ.K (hide P H) ds xs) : Rv κ (hide P (upd H p (.lst xs))) (.p (.list ds)) (.ref p) :=
  ⟨p, xs, rfl, fresh_at d h, r.ext ((Ext.new h).hide P)⟩
theorem new_tup {κ : Ky} {P : Addr → Bool} {H : Hp} {p : Addr} {ds : List PyData} {xs : List V} (d : Dom P H) (h : H p = none) (r : RpA κ.K (hide P H) ds xs) : Rv κ (hide P (upd H p (.tup xs))) (.p (.tuple ds)) (.ref p) :=
  ⟨p, xs, rfl, SqT.of (fresh_at d h), r.ext ((Ext.new h).hide P)⟩

/-! ### + -/
def fAdd : F2 := fun d e R => match d, e with
  | .p (.int i), .p (.int j) => R (.p (.int (i + j)))
  | .p (.str x), .p (.str y) => x.length + y.length ≤ sizeLine ∧ R (.p (.str (x ++ y)))
  | .p (.list xs), .p (.list ys) => xs.length + ys.length ≤ sizeLine ∧ R (.p (.list (xs ++ ys)))
  | .p (.tuple xs), .p (.tuple ys) => xs.length + ys.length ≤ sizeLine ∧ R (.p (.tuple (xs ++ ys)))
  | _, _ => False
inductive AddK (R : DV → Prop) : DV → DV → Prop
  | int (i j : Int) (h : R (.p (.int (i + j)))) : AddK R (.p (.int i)) (.p (.int j))
  | str (x y : Str) (z : x.length + y.length ≤ sizeLine) (h : R (.p (.str (x ++ y)))) : AddK R (.p (.str x)) (.p (.str y))
  | lst (x y : List PyData) (z : x.length + y.length ≤ sizeLine) (h : R (.p (.list (x ++ y)))) : AddK R (.p (.list x)) (.p (.list y))
  | tup (x y : List PyData) (z : x.length + y.length ≤ sizeLine) (h : R (.p (.tuple (x ++ y)))) : AddK R (.p (.tuple x)) (.p (.tuple y))
theorem addK {d e : DV} {R : DV → Prop} (h : fAdd d e R) : AddK R d e := by
  cases d with
  | p x => cases e with
    | p y => cases x <;> cases y <;> first
        | exact h.elim
        | exact .int _ _ h
        | exact .str _ _ h.1 h.2
        | exact .lst _ _ h.1 h.2
        | exact .tup _ _ h.1 h.2
    | _ => cases x <;> exact h.elim
  | _ => exact h.elim
section
variable {X : Cx}
theorem od_add : OpR X (binaryOp .Add) (upO (Cx.ky X) fAdd) := by
  intro pins s σ H x y v u Q I rx ry ⟨d, e, R, P, dm, r1, r2, h, k⟩
  cases addK h with
  | int i j hh => exact op_add pins s σ H x y v u Q I rx ry ⟨i, j, r1, r2, k _ H (.p (.int (i + j))) (Ext.refl H) rfl hh⟩
  | str a b z hh => exact op_add_str pins s σ H x y v u Q I rx ry ⟨a, b, r1, r2, z, k _ H (.p (.str (a ++ b))) (Ext.refl H) rfl hh⟩
  | lst a b z hh =>
    obtain ⟨p, xs, rfl, e1, q1⟩ := r1
    obtain ⟨q, ys, rfl, e2, q2⟩ := r2
    exact op_cat pins s σ H _ _ v u Q I rx ry ⟨p, q, xs, ys, rfl, rfl, (hide_ext P H).lst e1, (hide_ext P H).lst e2, by rw [← q1.len, ← q2.len]; exact z, fun n hn => k _ _ (.p (.list (a ++ b))) (Ext.new hn) (new_lst dm hn (q1.app q2)) hh⟩
  | tup a b z hh =>
    obtain ⟨p, xs, rfl, e1, q1⟩ := id r1
    obtain ⟨q, ys, rfl, e2, q2⟩ := id r2
    refine op_catA pins s σ H _ _ v u Q I rx ry ⟨p, q, xs, ys, rfl, rfl, (hide_ext P H).seqT e1, (hide_ext P H).seqT e2, by rw [← q1.len, ← q2.len]; exact z, fun e => ?_, fun _ e => ?_, fun _ _ n hn => k _ _ (.p (.tuple (a ++ b))) (Ext.new hn) (new_tup dm hn (q1.app q2)) hh⟩
    · have ea : a = [] := List.eq_nil_of_length_eq_zero (by rw [q1.len, e]; rfl)
      subst ea
      exact k _ H (.p (.tuple ([] ++ b))) (Ext.refl H) r2 hh
    · have eb : b = [] := List.eq_nil_of_length_eq_zero (by rw [q2.len, e]; rfl)
      subst eb
      exact k _ H (.p (.tuple (a ++ []))) (Ext.refl H) (by rw [List.append_nil]; exact r1) hh
end

/-! ### arithmetic of ints -/
def fI (c : Int → Int → Prop) (g : Int → Int → Int) : F2 := fun d e R => asI d fun i => asI e fun j => c i j ∧ R (.p (.int (g i j)))
section
variable {X : Cx} {κ : Ky}
theorem up_I {c : Int → Int → Prop} {g : Int → Int → Int} {x y : V} {H : Hp} {Q : VK} (h : upO κ (fI c g) x y H Q) : rI c (fun i j => .int (g i j)) x y H Q := by
  obtain ⟨d, e, R, P, dm, r1, r2, h, k⟩ := h
  obtain ⟨i, rfl, h0⟩ := asI_of h
  obtain ⟨j, rfl, h1, h2⟩ := asI_of h0
  exact ⟨i, j, r1, r2, h1, k _ H (.p (.int (g i j))) (Ext.refl H) rfl h2⟩
theorem OpR.imp {f : Value → Value → Sem Value} {r r' : R2} (h : OpR X f r') (q : ∀ x y H Q, r x y H Q → r' x y H Q) : OpR X f r := fun pins s σ H x y v u Q I rx ry z => h pins s σ H x y v u Q I rx ry (q x y H Q z)
theorem od_sub : OpR X (binaryOp .Sub) (upO (Cx.ky X) (fI (fun _ _ => True) fun i j => i - j)) := OpR.imp op_sub fun x y H Q h => by
  obtain ⟨i, j, e1, e2, _, q⟩ := up_I h
  exact ⟨i, j, e1, e2, q⟩
theorem od_mod : OpR X (binaryOp .Mod) (upO (Cx.ky X) (fI (fun _ j => 0 < j) fun i j => i % j)) := OpR.imp op_mod fun x y H Q h => up_I h
theorem od_fdiv : OpR X (binaryOp .FloorDiv) (upO (Cx.ky X) (fI CDivN fun i j => i.fdiv j)) := OpR.imp op_fdivN fun x y H Q h => up_I h
end

/-! ### order -/
def fCmp (p : Int → Int → Bool) (q : Str → Str → Bool) : F2 := fun d e R => match d, e with
  | .p (.int i), .p (.int j) => R (.p (.bool (p i j)))
  | .p (.str x), .p (.str y) => R (.p (.bool (q x y)))
  | _, _ => False
inductive CmpK (p : Int → Int → Bool) (q : Str → Str → Bool) (R : DV → Prop) : DV → DV → Prop
  | int (i j : Int) (h : R (.p (.bool (p i j)))) : CmpK p q R (.p (.int i)) (.p (.int j))
  | str (x y : Str) (h : R (.p (.bool (q x y)))) : CmpK p q R (.p (.str x)) (.p (.str y))
theorem cmpK {p : Int → Int → Bool} {q : Str → Str → Bool} {d e : DV} {R : DV → Prop} (h : fCmp p q d e R) : CmpK p q R d e := by
  cases d with
  | p x => cases e with
    | p y => cases x <;> cases y <;> first
        | exact h.elim
        | exact .int _ _ h
        | exact .str _ _ h
    | _ => cases x <;> exact h.elim
  | _ => exact h.elim
def ltS (x y : Str) : Bool := decide (x.cps.toList < y.cps.toList)
def leS (x y : Str) : Bool := !decide (y.cps.toList < x.cps.toList)
abbrev fLt : F2 := fCmp (fun i j => decide (i < j)) ltS
abbrev fLe : F2 := fCmp (fun i j => decide (i ≤ j)) leS
abbrev fGt : F2 := fCmp (fun i j => decide (j < i)) (fun x y => ltS y x)
abbrev fGe : F2 := fCmp (fun i j => decide (j ≤ i)) (fun x y => leS y x)
section
variable {X : Cx}
theorem od_lt : OpR X (compareOp .Lt) (upO (Cx.ky X) fLt) := by
  intro pins s σ H x y v u Q I rx ry ⟨d, e, R, P, dm, r1, r2, h, k⟩
  cases cmpK h with
  | int i j hh => exact op_lt pins s σ H x y v u Q I rx ry ⟨i, j, r1, r2, k _ H (.p (.bool (decide (i < j)))) (Ext.refl H) rfl hh⟩
  | str i j hh => exact op_lt_str pins s σ H x y v u Q I rx ry ⟨i, j, r1, r2, k _ H (.p (.bool (ltS i j))) (Ext.refl H) rfl hh⟩
theorem od_le : OpR X (compareOp .LtE) (upO (Cx.ky X) fLe) := by
  intro pins s σ H x y v u Q I rx ry ⟨d, e, R, P, dm, r1, r2, h, k⟩
  cases cmpK h with
  | int i j hh => exact op_le pins s σ H x y v u Q I rx ry ⟨i, j, r1, r2, k _ H (.p (.bool (decide (i ≤ j)))) (Ext.refl H) rfl hh⟩
  | str i j hh => exact op_le_str pins s σ H x y v u Q I rx ry ⟨i, j, r1, r2, k _ H (.p (.bool (leS i j))) (Ext.refl H) rfl hh⟩
theorem od_gt : OpR X (compareOp .Gt) (upO (Cx.ky X) fGt) := by
  intro pins s σ H x y v u Q I rx ry ⟨d, e, R, P, dm, r1, r2, h, k⟩
  cases cmpK h with
  | int i j hh => exact op_gt pins s σ H x y v u Q I rx ry ⟨i, j, r1, r2, k _ H (.p (.bool (decide (j < i)))) (Ext.refl H) rfl hh⟩
  | str i j hh => exact op_gt_str pins s σ H x y v u Q I rx ry ⟨i, j, r1, r2, k _ H (.p (.bool (ltS j i))) (Ext.refl H) rfl hh⟩
theorem od_ge : OpR X (compareOp .GtE) (upO (Cx.ky X) fGe) := by
  intro pins s σ H x y v u Q I rx ry ⟨d, e, R, P, dm, r1, r2, h, k⟩
  cases cmpK h with
  | int i j hh => exact op_ge pins s σ H x y v u Q I rx ry ⟨i, j, r1, r2, k _ H (.p (.bool (decide (j ≤ i)))) (Ext.refl H) rfl hh⟩
  | str i j hh => exact op_ge_str pins s σ H x y v u Q I rx ry ⟨i, j, r1, r2, k _ H (.p (.bool (leS j i))) (Ext.refl H) rfl hh⟩
end

/-! ### == -/
mutual
theorem dp_of {K : PySem.W.Frag} {H : Hp} : ∀ {d : PyData} {v : V}, Rp K H d v → d.hasDict = false → Dp K H v d
  | .none, v, h, _ => by rw [show v = .non from h]; exact .non
  | .bool b, v, h, _ => by rw [show v = .bl b from h]; exact .bl b
  | .int i, v, h, _ => by rw [show v = .int i from h]; exact .int i
  | .str x, v, h, _ => by rw [show v = .str x from h]; exact .str x
  | .list ds, _, ⟨a, xs, e, q, r⟩, n => by rw [e]; exact .lst (SqL.of q) (dpA_of r n)
  | .tuple ds, _, ⟨a, xs, e, q, r⟩, n => by rw [e]; exact .tup q (dpA_of r n)
  | .dict _, _, _, n => by cases n
theorem dpA_of {K : PySem.W.Frag} {H : Hp} : ∀ {ds : List PyData} {vs : List V}, RpA K H ds vs → PyData.hasDictAll ds = false → DpAll K H vs ds
  | [], vs, h, _ => by rw [show vs = [] from h]; exact .nil
  | d :: ds, _, ⟨v, r, e, h, t⟩, n => by
    have n' : (PyData.hasDict d || PyData.hasDictAll ds) = false := n
    rw [Bool.or_eq_false_iff] at n'
    rw [e]
    exact .cons (dp_of h n'.1) (dpA_of t n'.2)
end
/-- data that == reads as it is -/
def plain (d : PyData) : Prop := d.hasDict = false ∧ SeqAt.shaped d = true
def fEq : F2 := fun d e R => asP d fun x => asP e fun y => plain x ∧ plain y ∧ R (.p (.bool (PyData.eqv x y)))
def fNe : F2 := fun d e R => asP d fun x => asP e fun y => plain x ∧ plain y ∧ R (.p (.bool (!PyData.eqv x y)))
section
variable {X : Cx}
theorem od_eq (hu : X.A.units + 64 < cLine) : OpR X (compareOp .Eq) (upO (Cx.ky X) fEq) := by
  intro pins s σ H x y v u Q I rx ry ⟨d, e, R, P, dm, r1, r2, h, k⟩
  obtain ⟨a, rfl, h0⟩ := asP_of h
  obtain ⟨b, rfl, h1, h2, h3⟩ := asP_of h0
  exact op_eqD hu pins s σ H x y v u Q I rx ry ⟨a, b, dp_of (rp_up r1) h1.1, dp_of (rp_up r2) h2.1, h1.2, h2.2, k _ H (.p (.bool (PyData.eqv a b))) (Ext.refl H) rfl h3⟩
theorem od_ne (hu : X.A.units + 64 < cLine) : OpR X (compareOp .NotEq) (upO (Cx.ky X) fNe) := by
  intro pins s σ H x y v u Q I rx ry ⟨d, e, R, P, dm, r1, r2, h, k⟩
  obtain ⟨a, rfl, h0⟩ := asP_of h
  obtain ⟨b, rfl, h1, h2, h3⟩ := asP_of h0
  exact op_neD hu pins s σ H x y v u Q I rx ry ⟨a, b, dp_of (rp_up r1) h1.1, dp_of (rp_up r2) h2.1, h1.2, h2.2, k _ H (.p (.bool (!PyData.eqv a b))) (Ext.refl H) rfl h3⟩
end

/-! ### built-ins -/
theorem CallR.imp {X : Cx} {f : Value} {r r' : List V → Hp → VK → Prop} (h : CallR X f r') (q : ∀ xs H Q, r xs H Q → r' xs H Q) : CallR X f r := fun pins s σ H xs us Q I rx z => h pins s σ H xs us Q I rx (q xs H Q z)
def tyD : PyData → String
  | .none => "NoneType" | .bool _ => "bool" | .int _ => "int" | .str _ => "str" | .list _ => "list" | .tuple _ => "tuple" | .dict _ => "dict"
theorem tyx_of {K : PySem.W.Frag} {H : Hp} {d : PyData} {v : V} (h : Rp K H d v) : TyX K H v (.type (tyD d)) := by
  cases d with
  | none => rw [show v = .non from h]; exact .base .non
  | bool b => rw [show v = .bl b from h]; exact .base (.bl b)
  | int i => rw [show v = .int i from h]; exact .base (.int i)
  | str x => rw [show v = .str x from h]; exact .base (.str x)
  | list ds =>
    obtain ⟨a, xs, e, q, _⟩ := h
    rw [e]
    exact .base (.lst q)
  | tuple ds =>
    obtain ⟨a, xs, e, q, _⟩ := h
    rw [e]
    rcases q with (q | ⟨o, q⟩) | ⟨o, its, n, q, c, _⟩
    · exact .base (.tup q)
    · exact .fTuple q
    · exact .kTuple q c
  | dict kvs =>
    obtain ⟨a, es, e, q, _⟩ := h
    rw [e]
    exact .base (.dK q)
def fIsi : FL := fun ds R => ∃ d T b, ds = [.p d, .raw (.ty T)] ∧ kitB (tyD d) T = some b ∧ R (.p (.bool b))
def lenD : PyData → Option Nat
  | .str x => some x.length
  | .list xs => some xs.length
  | .tuple xs => some xs.length
  | _ => none
def fLen : FL := fun ds R => ∃ d n, ds = [.p d] ∧ lenD d = some n ∧ n ≤ sizeLine ∧ R (.p (.int n))
def fAll : FL := fun ds R => ∃ bs : List Bool, ds = [.p (.list (bs.map .bool))] ∧ R (.p (.bool (bs.all id)))
def fAny : FL := fun ds R => ∃ bs : List Bool, ds = [.p (.list (bs.map .bool))] ∧ R (.p (.bool (bs.any id)))
def fOrd : FL := fun ds R => ∃ c : Nat, ds = [.p (.str ⟨#[c]⟩)] ∧ R (.p (.int c))
def fInt : FL := fun ds R => ∃ i : Int, ds = [.p (.int i)] ∧ R (.p (.int i))
def fList : FL := fun ds R => ∃ xs, (ds = [.p (.list xs)] ∨ ds = [.p (.tuple xs)]) ∧ R (.p (.list xs))
def fTuple : FL := fun ds R => ∃ xs, (ds = [.p (.list xs)] ∨ ds = [.p (.tuple xs)]) ∧ R (.p (.tuple xs))
def fMax : FL := fun ds R => ∃ i j : Int, ds = [.p (.int i), .p (.int j)] ∧ R (.p (.int (if j > i then j else i)))
def fMin : FL := fun ds R => ∃ i j : Int, ds = [.p (.int i), .p (.int j)] ∧ R (.p (.int (if j < i then j else i)))
theorem rpA_bools {K : PySem.W.Frag} {H : Hp} : ∀ {bs : List Bool} {vs : List V}, RpA K H (bs.map .bool) vs → vs = bs.map V.bl
  | [], _, h => h
  | b :: bs, _, ⟨v, r, e, h, t⟩ => by rw [e, show v = .bl b from h, rpA_bools t]; rfl
section
variable {X : Cx}
theorem cd_isi : CallR X (.builtin "isinstance") (upC (Cx.ky X) fIsi) := CallR.imp call_isi fun xs H Q ⟨ds, R, P, dm, r, ⟨d, T, b, e, hb, h⟩, k⟩ => by
  subst e
  obtain ⟨v, q, e1, r1, u, q2, e2, r2, r3⟩ := r
  have e3 : q2 = [] := r3
  subst e1 e2 e3
  exact ⟨v, u, _, _, b, rfl, by rw [show u = .ty T from r2]; exact .ty T, tyx_of (rp_up r1), kit_ty hb, k _ H (.p (.bool b)) (Ext.refl H) rfl h⟩
theorem cd_len : CallR X (.builtin "len") (upC (Cx.ky X) fLen) := CallR.imp call_len fun xs H Q ⟨ds, R, P, dm, r, ⟨d, n, e, hn, hz, h⟩, k⟩ => by
  subst e
  obtain ⟨v, rfl, r1⟩ := rvA1 r
  refine ⟨v, n, rfl, ?_, k _ H (.p (.int n)) (Ext.refl H) rfl h⟩
  cases d with
  | str x =>
    cases hn
    rw [show v = .str x from r1]
    exact ⟨hz, rfl⟩
  | list ds =>
    cases hn
    obtain ⟨a, xs, e, q, ra⟩ := r1
    subst e
    exact .inl ⟨xs, SqL.of ((hide_ext P H).lst q), ra.len⟩
  | tuple ds =>
    cases hn
    obtain ⟨a, xs, e, q, ra⟩ := r1
    subst e
    exact .inr ⟨xs, (hide_ext P H).seqT q, ra.len⟩
  | _ => cases hn
theorem cd_all (hc : X.calm = true) : CallR X (.builtin "all") (upC (Cx.ky X) fAll) := CallR.imp (cr_all hc) fun xs H Q ⟨ds, R, P, dm, r, ⟨bs, e, h⟩, k⟩ => by
  subst e
  obtain ⟨v, rfl, a, xs, e, q, ra⟩ := rvA1 r
  subst e
  have e2 := rpA_bools ra
  subst e2
  exact ⟨a, bs, rfl, SqL.of ((hide_ext P H).lst q), k _ H (.p (.bool (bs.all id))) (Ext.refl H) rfl h⟩
theorem cd_any (hc : X.calm = true) : CallR X (.builtin "any") (upC (Cx.ky X) fAny) := CallR.imp (cr_any hc) fun xs H Q ⟨ds, R, P, dm, r, ⟨bs, e, h⟩, k⟩ => by
  subst e
  obtain ⟨v, rfl, a, xs, e, q, ra⟩ := rvA1 r
  subst e
  have e2 := rpA_bools ra
  subst e2
  exact ⟨a, bs, rfl, SqL.of ((hide_ext P H).lst q), k _ H (.p (.bool (bs.any id))) (Ext.refl H) rfl h⟩
theorem cd_ord : CallR X (.builtin "ord") (upC (Cx.ky X) fOrd) := CallR.imp call_ord fun xs H Q ⟨ds, R, P, dm, r, ⟨c, e, h⟩, k⟩ => by
  subst e
  obtain ⟨v, rfl, r1⟩ := rvA1 r
  exact ⟨⟨#[c]⟩, by rw [show v = .str ⟨#[c]⟩ from r1], rfl, k _ H (.p (.int c)) (Ext.refl H) rfl h⟩
theorem cd_int : CallR X (.type "int") (upC (Cx.ky X) fInt) := CallR.imp call_int1 fun xs H Q ⟨ds, R, P, dm, r, ⟨i, e, h⟩, k⟩ => by
  subst e
  obtain ⟨v, rfl, r1⟩ := rvA1 r
  exact .inl ⟨i, by rw [show v = .int i from r1], k _ H (.p (.int i)) (Ext.refl H) rfl h⟩
theorem cd_list : CallR X (.type "list") (upC (Cx.ky X) fList) := CallR.imp call_list_of fun xs H Q ⟨ds, R, P, dm, r, ⟨zs, e, h⟩, k⟩ => by
  rcases e with e | e
  · subst e
    obtain ⟨v, rfl, a, xs, e, q, ra⟩ := rvA1 r
    subst e
    exact ⟨a, xs, rfl, .inl (SqL.of ((hide_ext P H).lst q)), fun l hl => k _ _ (.p (.list zs)) (Ext.new hl) (new_lst dm hl ra) h⟩
  · subst e
    obtain ⟨v, rfl, a, xs, e, q, ra⟩ := rvA1 r
    subst e
    exact ⟨a, xs, rfl, .inr ((hide_ext P H).seqT q), fun l hl => k _ _ (.p (.list zs)) (Ext.new hl) (new_lst dm hl ra) h⟩
theorem cd_tuple : CallR X (.type "tuple") (upC (Cx.ky X) fTuple) := CallR.imp call_tuple_of fun xs H Q ⟨ds, R, P, dm, r, ⟨zs, e, h⟩, k⟩ => by
  rcases e with e | e
  · subst e
    obtain ⟨v, rfl, a, xs, e, q, ra⟩ := rvA1 r
    subst e
    exact ⟨a, xs, rfl, .inl ⟨SqL.of ((hide_ext P H).lst q), fun l hl => k _ _ (.p (.tuple zs)) (Ext.new hl) (new_tup dm hl ra) h⟩⟩
  · subst e
    obtain ⟨v, rfl, r1⟩ := rvA1 r
    obtain ⟨a, xs, e, q, ra⟩ := id r1
    subst e
    exact ⟨a, xs, rfl, .inr ⟨(hide_ext P H).seqT q, k _ H (.p (.tuple zs)) (Ext.refl H) r1 h⟩⟩
theorem cd_max (hc : X.calm = true) : CallR X (.builtin "max") (upC (Cx.ky X) fMax) := CallR.imp (call_max2 hc) fun xs H Q ⟨ds, R, P, dm, r, ⟨i, j, e, h⟩, k⟩ => by
  subst e
  obtain ⟨v, u, rfl, r1, r2⟩ := rvA2 r
  exact ⟨i, j, by rw [show v = .int i from r1, show u = .int j from r2], k _ H (.p (.int (if j > i then j else i))) (Ext.refl H) rfl h⟩
theorem cd_min (hc : X.calm = true) : CallR X (.builtin "min") (upC (Cx.ky X) fMin) := CallR.imp (call_min2 hc) fun xs H Q ⟨ds, R, P, dm, r, ⟨i, j, e, h⟩, k⟩ => by
  subst e
  obtain ⟨v, u, rfl, r1, r2⟩ := rvA2 r
  exact ⟨i, j, by rw [show v = .int i from r1, show u = .int j from r2], k _ H (.p (.int (if j < i then j else i))) (Ext.refl H) rfl h⟩
end

/-! ### subscripts -/
def fIx : F2 := fun d e R => asI e fun i => match d with
  | .p (.list xs) => ∃ y, atI xs i = some y ∧ R (.p y)
  | .p (.tuple xs) => ∃ y, atI xs i = some y ∧ R (.p y)
  | .p (.str x) => x.length ≤ sizeLine ∧ ∃ c, atI x.cps.toList i = some c ∧ R (.p (.str ⟨#[c]⟩))
  | _ => False
theorem atI_get {K : PySem.W.Frag} {H : Hp} {ds : List PyData} {xs : List V} {i : Int} {y : PyData} (r : RpA K H ds xs) (h : atI ds i = some y) : ∃ v, atI xs i = some v ∧ Rp K H y v := by
  unfold atI at h ⊢
  rw [← r.len]
  cases e : ixN ds.length i with
  | none => rw [e] at h; cases h
  | some j =>
    rw [e] at h
    obtain ⟨v, e1, e2⟩ := r.get (show ds[j]? = some y from h)
    exact ⟨v, e1, e2⟩
section
variable {X : Cx}
theorem IxR.imp {r r' : R2} (h : IxR X r') (q : ∀ x y H Q, r x y H Q → r' x y H Q) : IxR X r := fun value slice pins s σ H x y v u Q I rx ry z hs => h value slice pins s σ H x y v u Q I rx ry (q x y H Q z) hs
theorem xd_ix : IxR X (upO (Cx.ky X) fIx) := by
  intro value slice pins s σ H x y v u Q I rx ry ⟨d, e, R, P, dm, r1, r2, h, k⟩ hs
  obtain ⟨i, rfl, h0⟩ := asI_of h
  cases d with
  | p d => cases d with
    | list ds =>
      obtain ⟨z, hz, h1⟩ := h0
      obtain ⟨a, xs, e, q, ra⟩ := r1
      obtain ⟨w, e1, e2⟩ := atI_get ra hz
      exact ix_list value slice pins s σ H x y v u Q I rx ry ⟨a, xs, i, w, e, r2, SqL.of ((hide_ext P H).lst q), e1, k w H (.p z) (Ext.refl H) e2 h1⟩ hs
    | tuple ds =>
      obtain ⟨z, hz, h1⟩ := h0
      obtain ⟨a, xs, e, q, ra⟩ := r1
      obtain ⟨w, e1, e2⟩ := atI_get ra hz
      exact ix_tup value slice pins s σ H x y v u Q I rx ry ⟨a, xs, i, w, e, r2, (hide_ext P H).seqT q, e1, k w H (.p z) (Ext.refl H) e2 h1⟩ hs
    | str z =>
      obtain ⟨hz, c, e1, h1⟩ := h0
      exact ix_str value slice pins s σ H x y v u Q I rx ry ⟨z, i, c, r1, r2, hz, e1, k _ H (.p (.str ⟨#[c]⟩)) (Ext.refl H) rfl h1⟩ hs
    | _ => exact h0.elim
  | _ => exact h0.elim
theorem de_ix {a b : Expr} {ta tb : TD} {pos : Pos} (ha : PE X a (up (Cx.ky X) ta)) (hb : PE X b (up (Cx.ky X) tb)) (hs : PlainIx b := by exact fun _ _ => rfl) : PE X (.Subscript a b pos) (up (Cx.ky X) (dOp fIx ta tb)) :=
  PE.imp (pe_ix xd_ix ha hb hs) fun _ _ _ h => up_op h
end
/-- a part of a slice -/
abbrev TDO := Dn → (Option Int → Prop) → Prop
def upP (κ : Ky) (t : TDO) : TO := fun σ H Q => ∃ δ R c L, ES κ c H L δ σ ∧ t δ R ∧ ∀ o H', Ext H H' → R o → Q o H'
def dNo : TDO := fun _ R => R none
def dPart (t : TD) : TDO := fun δ R => t δ fun d => asI d fun i => R (some i)
def cutD (xs : List PyData) (lo hi : Option Int) : List PyData := (xs.drop (HT.sIx xs.length 0 lo)).take (HT.sIx xs.length xs.length hi - HT.sIx xs.length 0 lo)
def sliceD (d : DV) (lo hi : Option Int) (R : DV → Prop) : Prop := match d with
  | .p (.list xs) => R (.p (.list (cutD xs lo hi)))
  | .p (.tuple xs) => R (.p (.tuple (cutD xs lo hi)))
  | .p (.str x) => x.length ≤ sizeLine ∧ R (.p (.str (cutS x lo hi)))
  | _ => False
def dSl (te : TD) (tl th : TDO) : TD := fun δ R => te δ fun d => tl δ fun lo => th δ fun hi => sliceD d lo hi R
theorem RpA.cut {K : PySem.W.Frag} {H : Hp} {ds : List PyData} {xs : List V} (r : RpA K H ds xs) (lo hi : Option Int) : RpA K H (cutD ds lo hi) (cutV xs lo hi) := by
  unfold cutD cutV
  rw [r.len]
  exact (r.drop _).take _
section
variable {X : Cx}
def upSl (κ : Ky) : V → Option Int → Option Int → Hp → VK → Prop := fun x lo hi H Q => ∃ d R P, Dom P H ∧ Rv κ (hide P H) d x ∧ sliceD d lo hi R ∧ ∀ v H' r, Ext H H' → Rv κ (hide P H') r v → R r → Q v H'
theorem xd_sl : SlR X (upSl (Cx.ky X)) := by
  intro pins s σ H x v vl vu lo hi sl Q I rx hs pl pu ⟨d, R, P, dm, r1, h, k⟩
  cases d with
  | p d => cases d with
    | list ds =>
      obtain ⟨a, xs, e, q, ra⟩ := r1
      exact sl_list pins s σ H x v vl vu lo hi sl Q I rx hs pl pu ⟨a, xs, e, SqL.of ((hide_ext P H).lst q), fun p hp => k _ _ (.p (.list (cutD ds lo hi))) (Ext.new hp) (new_lst dm hp (ra.cut lo hi)) h⟩
    | tuple ds =>
      obtain ⟨a, xs, e, q, ra⟩ := id r1
      refine sl_tupA pins s σ H x v vl vu lo hi sl Q I rx hs pl pu ⟨a, xs, e, (hide_ext P H).seqT q, fun ⟨e1, e2⟩ => ?_, fun _ p hp => k _ _ (.p (.tuple (cutD ds lo hi))) (Ext.new hp) (new_tup dm hp (ra.cut lo hi)) h⟩
      have ec : cutD ds lo hi = ds := by
        unfold cutD
        rw [ra.len, e1, e2, List.drop_zero, Nat.sub_zero, ← ra.len, List.take_length]
      exact k _ H (.p (.tuple (cutD ds lo hi))) (Ext.refl H) (by rw [ec, ← e]; exact r1) h
    | str z => exact sl_str pins s σ H x v vl vu lo hi sl Q I rx hs pl pu ⟨z, r1, h.1, k _ H (.p (.str (cutS z lo hi))) (Ext.refl H) rfl h.2⟩
    | _ => exact h.elim
  | _ => exact h.elim
theorem do_none : PO X none (upP (Cx.ky X) dNo) := ⟨fun pins s σ H Q I ⟨δ, R, c, L, es, h, k⟩ => po_none.run pins s σ H Q I (k none H (Ext.refl H) h)⟩
theorem do_some {e : Expr} {t : TD} (h : PE X e (up (Cx.ky X) t)) : PO X (some e) (upP (Cx.ky X) (dPart t)) := ⟨fun pins s σ H Q I ⟨δ, R, c, L, es, hh, k⟩ => (po_some h).run pins s σ H Q I ⟨δ, _, c, L, es, hh, fun v H1 d x1 r1 h1 => by
  obtain ⟨i, rfl, h2⟩ := asI_of h1
  exact ⟨i, r1, k (some i) H1 x1 h2⟩⟩⟩
theorem de_slice {e : Expr} {lo hi : Option Expr} {te : TD} {tl th : TDO} {p2 pos : Pos} (he : PE X e (up (Cx.ky X) te)) (hl : PO X lo (upP (Cx.ky X) tl)) (hh : PO X hi (upP (Cx.ky X) th)) : PE X (.Subscript e (.Slice lo hi none p2) pos) (up (Cx.ky X) (dSl te tl th)) := by
  refine PE.imp (pe_slice xd_sl he hl hh) fun σ H Q ⟨δ, R, c, L, es, h, k⟩ => ?_
  refine ⟨δ, _, c, L, es, h, fun v H1 d x1 r1 h1 => ⟨δ, _, c, L, es.on x1, h1, fun lo H2 x2 h2 => ⟨δ, _, c, L, es.on (x1.trans x2), h2, fun hi H3 x3 h3 => ?_⟩⟩⟩
  exact ⟨d, R, _, (es.on (x1.trans (x2.trans x3))).dom, r1.ext ((x2.trans x3).hide _), h3, fun u H4 r x4 r4 h4 => k u H4 r (x1.trans (x2.trans (x3.trans x4))) r4 h4⟩
end

/-! ### displays -/
def pyAll : List DV → (List PyData → Prop) → Prop
  | [], K => K []
  | d :: ds, K => asP d fun x => pyAll ds fun xs => K (x :: xs)
theorem pyAll_of : ∀ {ds : List DV} {K : List PyData → Prop}, pyAll ds K → ∃ xs, ds = xs.map .p ∧ K xs
  | [], _, h => ⟨[], rfl, h⟩
  | d :: ds, _, h => by
    obtain ⟨x, rfl, h1⟩ := asP_of h
    obtain ⟨xs, rfl, h2⟩ := pyAll_of h1
    exact ⟨x :: xs, rfl, h2⟩
theorem rvA_p {κ : Ky} {H : Hp} : ∀ {xs : List PyData} {vs : List V}, RvA κ H (xs.map .p) vs → RpA κ.K H xs vs
  | [], _, h => h
  | _ :: _, _, ⟨v, r, e, h, t⟩ => ⟨v, r, e, h, rvA_p t⟩
def dTup (t : TL) : TD := fun δ R => t δ fun ds => pyAll ds fun xs => xs.length ≤ sizeLine ∧ R (.p (.tuple xs))
def dLst (t : TL) : TD := fun δ R => t δ fun ds => pyAll ds fun xs => xs.length ≤ sizeLine ∧ R (.p (.list xs))
section
variable {X : Cx} {es : List Expr} {t : TL} {pos : Pos}
theorem de_tup {x1} (h : PA X es (upA (Cx.ky X) t)) : PE X (.Tuple es x1 pos) (up (Cx.ky X) (dTup t)) := by
  refine PE.imp (pe_tup h) fun σ H Q ⟨δ, R, c, L, es, h, k⟩ => ⟨δ, _, c, L, es, h, fun vs H1 ds x1 r1 h1 => ?_⟩
  obtain ⟨xs, rfl, hz, h2⟩ := pyAll_of h1
  have rp := rvA_p r1
  exact ⟨by rw [← rp.len]; exact hz, fun p hp => k _ _ (.p (.tuple xs)) (x1.trans (Ext.new hp)) (new_tup (es.on x1).dom hp rp) h2⟩
theorem de_lst (h : PA X es (upA (Cx.ky X) t)) : PE X (.List es pos) (up (Cx.ky X) (dLst t)) := by
  refine PE.imp (pe_lst h) fun σ H Q ⟨δ, R, c, L, es, h, k⟩ => ⟨δ, _, c, L, es, h, fun vs H1 ds x1 r1 h1 => ?_⟩
  obtain ⟨xs, rfl, hz, h2⟩ := pyAll_of h1
  have rp := rvA_p r1
  exact ⟨by rw [← rp.len]; exact hz, fun p hp => k _ _ (.p (.list xs)) (x1.trans (Ext.new hp)) (new_lst (es.on x1).dom hp rp) h2⟩
theorem not_well_nil : ¬ Well (.dK []) := fun ⟨_, _, e, _⟩ => by
  injection e with e
  cases e
/-- {} -/
theorem de_dict0 : PE X (.Dict [] [] pos) (up (Cx.ky X) (dC (.p (.dict [])))) := by
  refine PE.imp pe_dnewK fun σ H Q ⟨δ, R, c, L, es, h, k⟩ d hd => ?_
  exact k _ _ (.p (.dict [])) (Ext.new hd) ⟨d, [], rfl, fresh_at es.dom hd, not_well_nil, rfl⟩ h
end

/-! ### zip of two lists or two tuples, for a target a, b -/
def pairsD (xs ys : List PyData) : List PyData := List.zipWith (fun x y => .tuple [x, y]) xs ys
def dItZip (t : TL) : TDI := fun δ R => t δ fun ds => ∃ xs ys, (ds = [.p (.list xs), .p (.list ys)] ∨ ds = [.p (.tuple xs), .p (.tuple ys)]) ∧ R (pairsD xs ys)
theorem itk_zipL {κ : Ky} {a b : Addr} {xs ys : List PyData} : ItK κ (Itz κ.K a b) (pairsD xs ys) [.p (.list xs), .p (.list ys)] [.ref a, .ref b] where
  go := fun H P' i _ r hi => by
    obtain ⟨v, u, e, ⟨a', us, e1, q1, r1⟩, ⟨b', ws, e2, q2, r2⟩⟩ := rvA2 r
    cases e; cases e1; cases e2
    unfold pairsD at hi
    rw [List.length_zipWith] at hi
    obtain ⟨x, f1, _⟩ := r1.get (List.getElem?_eq_getElem (show i < xs.length by omega))
    obtain ⟨y, f2, _⟩ := r2.get (List.getElem?_eq_getElem (show i < ys.length by omega))
    exact ⟨us, ws, x, y, SqL.of ((hide_ext P' H).lst q1), SqL.of ((hide_ext P' H).lst q2), f1, f2⟩
  stop := fun H P' i _ r hi => by
    obtain ⟨v, u, e, ⟨a', us, e1, q1, r1⟩, ⟨b', ws, e2, q2, r2⟩⟩ := rvA2 r
    cases e; cases e1; cases e2
    unfold pairsD at hi
    rw [List.length_zipWith] at hi
    exact ⟨us, ws, SqL.of ((hide_ext P' H).lst q1), SqL.of ((hide_ext P' H).lst q2), by rw [← r1.len, ← r2.len]; omega⟩
  yld := fun H P' i x H2 dm r hi hy => by
    obtain ⟨v, u, e, ⟨a', us, e1, q1, r1⟩, ⟨b', ws, e2, q2, r2⟩⟩ := rvA2 r
    cases e; cases e1; cases e2
    obtain ⟨T, y1, y2, rfl, hT, rfl, f1, f2⟩ := hy
    obtain ⟨d1, g1, g2⟩ := r1.back (f1 us (SqL.of ((hide_ext P' H).lst q1)))
    obtain ⟨d2, g3, g4⟩ := r2.back (f2 ws (SqL.of ((hide_ext P' H).lst q2)))
    refine ⟨.tuple [d1, d2], ?_, Ext.new hT, ⟨T, [y1, y2], rfl, SqT.of (fresh_at dm hT), ?_⟩⟩
    · unfold pairsD
      rw [List.getElem?_zipWith, g1, g3]
    · exact ⟨y1, [y2], rfl, g2.ext ((Ext.new hT).hide P'), y2, [], rfl, g4.ext ((Ext.new hT).hide P'), rfl⟩
theorem itk_zipT {κ : Ky} {a b : Addr} {xs ys : List PyData} : ItK κ (RZ.ItzT κ.K a b) (pairsD xs ys) [.p (.tuple xs), .p (.tuple ys)] [.ref a, .ref b] where
  go := fun H P' i _ r hi => by
    obtain ⟨v, u, e, ⟨a', us, e1, q1, r1⟩, ⟨b', ws, e2, q2, r2⟩⟩ := rvA2 r
    cases e; cases e1; cases e2
    unfold pairsD at hi
    rw [List.length_zipWith] at hi
    obtain ⟨x, f1, _⟩ := r1.get (List.getElem?_eq_getElem (show i < xs.length by omega))
    obtain ⟨y, f2, _⟩ := r2.get (List.getElem?_eq_getElem (show i < ys.length by omega))
    exact ⟨us, ws, x, y, (hide_ext P' H).seqT q1, (hide_ext P' H).seqT q2, f1, f2⟩
  stop := fun H P' i _ r hi => by
    obtain ⟨v, u, e, ⟨a', us, e1, q1, r1⟩, ⟨b', ws, e2, q2, r2⟩⟩ := rvA2 r
    cases e; cases e1; cases e2
    unfold pairsD at hi
    rw [List.length_zipWith] at hi
    exact ⟨us, ws, (hide_ext P' H).seqT q1, (hide_ext P' H).seqT q2, by rw [← r1.len, ← r2.len]; omega⟩
  yld := fun H P' i x H2 dm r hi hy => by
    obtain ⟨v, u, e, ⟨a', us, e1, q1, r1⟩, ⟨b', ws, e2, q2, r2⟩⟩ := rvA2 r
    cases e; cases e1; cases e2
    obtain ⟨T, y1, y2, rfl, hT, rfl, f1, f2⟩ := hy
    obtain ⟨d1, g1, g2⟩ := r1.back (f1 us ((hide_ext P' H).seqT q1))
    obtain ⟨d2, g3, g4⟩ := r2.back (f2 ws ((hide_ext P' H).seqT q2))
    refine ⟨.tuple [d1, d2], ?_, Ext.new hT, ⟨T, [y1, y2], rfl, SqT.of (fresh_at dm hT), ?_⟩⟩
    · unfold pairsD
      rw [List.getElem?_zipWith, g1, g3]
    · exact ⟨y1, [y2], rfl, g2.ext ((Ext.new hT).hide P'), y2, [], rfl, g4.ext ((Ext.new hT).hide P'), rfl⟩
theorem di_zip {X : Cx} {e e2 : Expr} {t : TL} {p pos tpos : Pos} {elts : List Expr} {kk : Nat} (hg : Gl X "zip") (hm : X.mg "zip" = none) (ha : PA X [e, e2] (upA (Cx.ky X) t))
    (hs : starEach [e, e2] X.env = (false, eval e X.env) :: starEach [e2] X.env := by rfl) (hpl : (backTo pos (starEach [e2] X.env)).any (·.1) = false := by rfl) :
    PI X (.Tuple elts kk tpos) (.Call (.Name "zip" p) [e, e2] [] pos) (upI (Cx.ky X) (dItZip t)) := by
  refine PI.imp (RZ.pi_zipA hg hm ha hs hpl) fun σ H R ⟨δ, R', c, L, es, h, k⟩ => ⟨δ, _, c, L, es, h, fun vs H1 ds x1 r1 h1 => ?_⟩
  obtain ⟨xs, ys, e | e, h2⟩ := h1
  · subst e
    obtain ⟨v, u, e, ⟨a, us, e1, q1, ra⟩, ⟨b, ws, e2, q2, rb⟩⟩ := rvA2 r1
    subst e e1 e2
    exact ⟨a, b, us, ws, rfl, .inl ⟨SqL.of ((hide_ext _ _).lst q1), SqL.of ((hide_ext _ _).lst q2), k _ H1 (pairsD xs ys) [.p (.list xs), .p (.list ys)] [.ref a, .ref b] x1 r1 itk_zipL h2⟩⟩
  · subst e
    obtain ⟨v, u, e, ⟨a, us, e1, q1, ra⟩, ⟨b, ws, e2, q2, rb⟩⟩ := rvA2 r1
    subst e e1 e2
    exact ⟨a, b, us, ws, rfl, .inr ⟨(hide_ext _ _).seqT q1, (hide_ext _ _).seqT q2, k _ H1 (pairsD xs ys) [.p (.tuple xs), .p (.tuple ys)] [.ref a, .ref b] x1 r1 itk_zipT h2⟩⟩
end MR

/-! repr, methods of texts, membership, repetition by data. -/
namespace MR
open PySem PySem.Spec PyProof.Rows L2

/-! ### what stands in the heap, for repr -/
section
variable {X : Cx} {pins : List (Addr × Obj)} {σ : Sg} {H : Hp} {s : Shared} {P : Addr → Bool}
theorem ne_sys {a : Addr} {o : HO} (hp : P sysModules = true) (h : hide P H a = some o) : a ≠ sysModules := fun e => by
  subst e
  unfold hide at h
  rw [if_pos hp] at h
  cases h
theorem keys_read {K : Type} [DecidableEq K] {knd : PySem.KeyKind X.prog X.w K} {h : Heap} (f : K → PyData) (hf : ∀ k v, knd.is k v = true → Reads h v (f k) []) : ∀ {es : List DictEntry} {kvs : List (K × Value)}, PySem.Pairs knd es kvs → ReadsAll h (es.map (·.key)) (kvs.map fun p => f p.1) [] ∧ es.map (·.val) = kvs.map (·.2)
  | _, _, .nil => ⟨.nil, rfl⟩
  | _, _, .cons h1 h2 t => by
    obtain ⟨q1, q2⟩ := keys_read f hf t
    refine ⟨.cons (as := []) (bs := []) (hf _ _ h1) q1, ?_⟩
    rw [List.map_cons, List.map_cons, q2, h2]
theorem key_reads {h : Heap} : ∀ (k : Key) (v : Value), (mixKind X.prog X.w).is k v = true → Reads h v (keyD k) []
  | .inl i, v, q => by
    obtain ⟨t, rfl⟩ := Value.isInt_shape (k := i) (v := v) q
    exact .int i t
  | .inr x, v, q => by
    obtain ⟨t, rfl⟩ := Value.isStrOf_shape (x := x) (v := v) q
    exact .str x t
mutual
theorem rp_reads (hp : P sysModules = true) (I : Inv X pins σ H s) : ∀ {d : PyData} {v : V} {u : Value}, Rp X.K (hide P H) d v → RelV v u → ∃ as, Reads s.heap u d as ∧ sysModules ∉ as
  | .none, v, u, h, r => by
    rw [show v = .non from h] at r
    rw [show u = Value.none from r]
    exact ⟨_, .none, List.not_mem_nil⟩
  | .bool b, v, u, h, r => by
    rw [show v = .bl b from h] at r
    rw [show u = Value.bool b from r]
    exact ⟨_, .bool b, List.not_mem_nil⟩
  | .int i, v, u, h, r => by
    rw [show v = .int i from h] at r
    obtain ⟨t, rfl⟩ := r
    exact ⟨_, .int i t, List.not_mem_nil⟩
  | .str x, v, u, h, r => by
    rw [show v = .str x from h] at r
    obtain ⟨t, rfl⟩ := r
    exact ⟨_, .str x t, List.not_mem_nil⟩
  | .list ds, v, u, ⟨a, xs, e, q, ra⟩, r => by
    subst e
    rw [show u = Value.ref a from r]
    obtain ⟨its, rv, ⟨o, n, ho, hc, _, hd⟩, _⟩ := I.list (SqL.of ((hide_ext P H).lst q))
    obtain ⟨as, hr, hn⟩ := rpA_reads hp I ra rv
    exact ⟨_, .list ho hc hd hr, fun z => (List.mem_cons.mp z).elim (fun e => ne_sys hp q e.symm) hn⟩
  | .tuple ds, v, u, ⟨a, xs, e, q, ra⟩, r => by
    subst e
    rw [show u = Value.ref a from r]
    obtain ⟨its, rv, ⟨o, ho, hc, n, hd⟩, _⟩ := I.tuple ((hide_ext P H).seqT q)
    obtain ⟨as, hr, hn⟩ := rpA_reads hp I ra rv
    exact ⟨_, .tuple ho hc hd hr, hn⟩
  | .dict kvs, v, u, ⟨a, es, e, q, _, rk⟩, r => by
    subst e
    rw [show u = Value.ref a from r]
    have q' : H a = some (.dK es) := by
      unfold hide at q
      split at q
      · cases q
      · exact q
    obtain ⟨_, _, vs, kv, o, ds, ep, h1, h2, h3, _, h5, _⟩ := I.hok a _ q'
    obtain ⟨w1, w2⟩ := keys_read (h := s.heap) keyD key_reads h5
    obtain ⟨bs, hr, hn⟩ := rpK_reads hp I rk kv
    have ek : kvs.map (·.1) = vs.map fun p => keyD p.1 := rpK_keys rk kv
    refine ⟨a :: [] ++ bs, .dict h1 h2.1 h3 (by rw [ek]; exact w1) (by rw [w2]; exact hr), ?_⟩
    exact fun z => (List.mem_cons.mp z).elim (fun e => ne_sys hp q e.symm) hn
theorem rpA_reads (hp : P sysModules = true) (I : Inv X pins σ H s) : ∀ {ds : List PyData} {vs : List V} {us : List Value}, RpA X.K (hide P H) ds vs → Vals vs us → ∃ as, ReadsAll s.heap us ds as ∧ sysModules ∉ as
  | [], vs, us, h, r => by
    rw [show vs = [] from h] at r
    cases r
    exact ⟨_, .nil, List.not_mem_nil⟩
  | d :: ds, vs, us, ⟨v, q, e, h, t⟩, r => by
    rw [e] at r
    cases r with
    | cons r1 r2 =>
      obtain ⟨as, q1, n1⟩ := rp_reads hp I h r1
      obtain ⟨bs, q2, n2⟩ := rpA_reads hp I t r2
      exact ⟨_, .cons q1 q2, fun z => (List.mem_append.mp z).elim n1 n2⟩
theorem rpK_reads (hp : P sysModules = true) (I : Inv X pins σ H s) : ∀ {kvs : List (PyData × PyData)} {es : List (Key × V)} {vs : List (Key × Value)}, RpK X.K (hide P H) kvs es → KV es vs → ∃ as, ReadsAll s.heap (vs.map (·.2)) (kvs.map (·.2)) as ∧ sysModules ∉ as
  | [], es, vs, h, r => by
    rw [show es = [] from h] at r
    cases r
    exact ⟨_, .nil, List.not_mem_nil⟩
  | (k, d) :: kvs, es, vs, ⟨k', v, q, e, ek, h, t⟩, r => by
    rw [e] at r
    cases r with
    | cons r1 r2 =>
      obtain ⟨as, q1, n1⟩ := rp_reads hp I h r1.2
      obtain ⟨bs, q2, n2⟩ := rpK_reads hp I t r2
      exact ⟨_, .cons q1 q2, fun z => (List.mem_append.mp z).elim n1 n2⟩
theorem rpK_keys : ∀ {kvs : List (PyData × PyData)} {es : List (Key × V)} {vs : List (Key × Value)}, RpK X.K (hide P H) kvs es → KV es vs → kvs.map (·.1) = vs.map fun p => keyD p.1
  | [], es, vs, h, r => by
    rw [show es = [] from h] at r
    cases r
    rfl
  | (k, d) :: kvs, es, vs, ⟨k', v, q, e, ek, h, t⟩, r => by
    rw [e] at r
    cases r with
    | cons r1 r2 =>
      have e1 : k' = _ := r1.1
      rw [List.map_cons, List.map_cons, rpK_keys t r2, ek, e1]
end
end
/-- data whose text repr gives -/
structure Shows (d : PyData) : Prop where
  ok : d.showable = true
  len : d.shown.length ≤ sizeLine
  dep : d.depth ≤ 100
def fRepr : FL := fun ds R => ∃ d, ds = [.p d] ∧ Shows d ∧ R (.p (.str d.shown))
section
variable {X : Cx}
theorem cd_repr {k : Nat} (gd : X.A.guards = some []) (hr : Room k X.A) : CallR X (.builtin "repr") (upC (Cx.ky X) fRepr) := by
  intro pins s σ H xs us Q I rx ⟨ds, R, P, dm, r, ⟨d, e, sh, h⟩, k⟩
  subst e
  obtain ⟨v, rfl, r1⟩ := rvA1 r
  obtain ⟨u, rfl, ru⟩ := Vals.one rx
  have hz := sh.len
  cases d with
  | none =>
    rw [show v = .non from r1] at ru
    rw [show u = Value.none from ru]
    exact PySem.P.repr_of_none ⟨.str "None", H, I.tok _, ⟨_, rfl⟩, k _ H (.p (.str "None")) (Ext.refl H) rfl h⟩
  | bool b =>
    rw [show v = .bl b from r1] at ru
    rw [show u = Value.bool b from ru]
    exact PySem.P.repr_of_bool ⟨.str _, H, I.tok _, ⟨_, rfl⟩, k _ H (.p (.str _)) (Ext.refl H) rfl h⟩
  | int i =>
    rw [show v = .int i from r1] at ru
    obtain ⟨t, rfl⟩ := ru
    exact PySem.P.repr_of_int (of_decide_eq_true sh.ok) ⟨.str _, H, I.tok _, ⟨_, rfl⟩, k _ H (.p (.str _)) (Ext.refl H) rfl h⟩
  | str x =>
    rw [show v = .str x from r1] at ru
    obtain ⟨t, rfl⟩ := ru
    exact PySem.P.repr_of_str ⟨.str _, H, I.tok _, ⟨_, rfl⟩, k _ H (.p (.str _)) (Ext.refl H) rfl h⟩ hz
  | list xs =>
    obtain ⟨a, ys, e, q, ra⟩ := id r1
    subst e
    obtain rfl : u = Value.ref a := ru
    obtain ⟨as, hr2, hn⟩ := rp_reads dm.1 I r1 rfl
    exact repr_of_reads' hr2 sh.ok (fun _ => hn) gd (by have := hr.un; have := sh.dep; omega) (fun _ _ z => z) (fun h' t tk kp => ⟨.str _, H, I.kept kp, ⟨t, rfl⟩, k _ H (.p (.str _)) (Ext.refl H) rfl h⟩) hz
  | tuple xs =>
    obtain ⟨a, ys, e, q, ra⟩ := id r1
    subst e
    obtain rfl : u = Value.ref a := ru
    obtain ⟨as, hr2, hn⟩ := rp_reads dm.1 I r1 rfl
    exact repr_of_reads' hr2 sh.ok (fun _ => hn) gd (by have := hr.un; have := sh.dep; omega) (fun _ _ z => z) (fun h' t tk kp => ⟨.str _, H, I.kept kp, ⟨t, rfl⟩, k _ H (.p (.str _)) (Ext.refl H) rfl h⟩) hz
  | dict xs =>
    obtain ⟨a, ys, e, q, ra⟩ := id r1
    subst e
    obtain rfl : u = Value.ref a := ru
    obtain ⟨as, hr2, hn⟩ := rp_reads dm.1 I r1 rfl
    exact repr_of_reads' hr2 sh.ok (fun _ => hn) gd (by have := hr.un; have := sh.dep; omega) (fun _ _ z => z) (fun h' t tk kp => ⟨.str _, H, I.kept kp, ⟨t, rfl⟩, k _ H (.p (.str _)) (Ext.refl H) rfl h⟩) hz
end

/-! ### methods of texts -/
abbrev F1S := Str → DV → (DV → Prop) → Prop
def dM1 (f : F1S) (to te : TD) : TD := fun δ R => to δ fun d => asS d fun a => te δ fun e => f a e R
def dM0 (f : Str → (DV → Prop) → Prop) (to : TD) : TD := fun δ R => to δ fun d => asS d fun a => f a R
section
variable {X : Cx} {o e : Expr} {to te : TD}
theorem de_m1 {id : String} {name : Str} {apos pos : Pos} {r : V → List V → Hp → VK → Prop} {f : F1S} (slot : Slot "str" name id) (ty : typeOf (.builtin id) = pure (.type "method_descriptor")) (rule : MtR X id r)
    (hf : ∀ a y H Q, upO (Cx.ky X) (fun d e R => asS d fun a => f a e R) (.str a) y H Q → r (.str a) [y] H Q) (ho : PE X o (up (Cx.ky X) to)) (he : PE X e (up (Cx.ky X) te))
    (hs : starEach [e] X.env = [(false, eval e X.env)] := by rfl) (hbase : attributeBase o name X.env (eval o X.env) = eval o X.env := by rfl) (hline : (apos.endLine == pos.line) = true := by rfl) :
    PE X (.Call (.Attribute o name apos) [e] [] pos) (up (Cx.ky X) (dM1 f to te)) := by
  refine PE.imp (pe_m1 slot ty rule ho he hs hbase hline) fun σ H Q ⟨δ, R, c, L, es, h, k⟩ => ⟨δ, _, c, L, es, h, fun v H1 d x1 r1 h1 => ?_⟩
  obtain ⟨a, rfl, h2⟩ := asS_of h1
  have ev : v = .str a := r1
  subst ev
  refine ⟨⟨a, rfl⟩, ⟨δ, _, c, L, es.on x1, h2, fun u H2 e x2 r2 h3 => hf a u H2 Q ?_⟩⟩
  exact ⟨.p (.str a), e, R, _, (es.on (x1.trans x2)).dom, rfl, r2, h3, fun z H3 w x3 q1 q2 => k z H3 w (x1.trans (x2.trans x3)) q1 q2⟩
theorem de_m0 {id : String} {name : Str} {apos pos : Pos} {r : V → List V → Hp → VK → Prop} {f : Str → (DV → Prop) → Prop} (slot : Slot "str" name id) (ty : typeOf (.builtin id) = pure (.type "method_descriptor")) (rule : MtR X id r)
    (hf : ∀ a H Q, upU (Cx.ky X) (fun d R => asS d fun a => f a R) (.str a) H Q → r (.str a) [] H Q) (ho : PE X o (up (Cx.ky X) to))
    (hbase : attributeBase o name X.env (eval o X.env) = eval o X.env := by rfl) (hline : (apos.endLine == pos.line) = true := by rfl) :
    PE X (.Call (.Attribute o name apos) [] [] pos) (up (Cx.ky X) (dM0 f to)) := by
  refine PE.imp (pe_m0 slot ty rule ho hbase hline) fun σ H Q ⟨δ, R, c, L, es, h, k⟩ => ⟨δ, _, c, L, es, h, fun v H1 d x1 r1 h1 => ?_⟩
  obtain ⟨a, rfl, h2⟩ := asS_of h1
  have ev : v = .str a := r1
  subst ev
  exact ⟨⟨a, rfl⟩, hf a H1 Q ⟨.p (.str a), R, _, (es.on x1).dom, rfl, h2, fun z H3 w x3 q1 q2 => k z H3 w (x1.trans x3) q1 q2⟩⟩
/-- what a method of two texts asks, its answer by g -/
def fSS (g : Str → Str → PyData) : F1S := fun a e R => asS e fun b => R (.p (g a b))
theorem ss_of {κ : Ky} {g : Str → Str → PyData} {a : Str} {y : V} {H : Hp} {Q : VK} (h : upO κ (fun d e R => asS d fun a => fSS g a e R) (.str a) y H Q) : ∃ b, y = .str b ∧ ∀ v, Rv κ H (.p (g a b)) v → (∀ P, Rv κ (hide P H) (.p (g a b)) v) → Q v H := by
  obtain ⟨d, e, R, P, dm, r1, r2, h1, k⟩ := h
  obtain ⟨a', rfl, h2⟩ := asS_of h1
  obtain ⟨b, rfl, h3⟩ := asS_of h2
  have ea : V.str a = .str a' := r1
  cases ea
  exact ⟨b, r2, fun v _ q => k v H (.p (g a b)) (Ext.refl H) (q P) h3⟩
theorem de_startswith {apos pos : Pos} (ho : PE X o (up (Cx.ky X) to)) (he : PE X e (up (Cx.ky X) te)) (hs : starEach [e] X.env = [(false, eval e X.env)] := by rfl) (hbase : attributeBase o "startswith" X.env (eval o X.env) = eval o X.env := by rfl) (hline : (apos.endLine == pos.line) = true := by rfl) :
    PE X (.Call (.Attribute o "startswith" apos) [e] [] pos) (up (Cx.ky X) (dM1 (fSS fun a b => .bool (Txt.startswith a b)) to te)) :=
  de_m1 PySem.F.slot_str_startswith PySem.F.type_str_startswith mt_startswith (fun a y H Q h => by
    obtain ⟨b, e, k⟩ := ss_of h
    exact ⟨a, b, rfl, by rw [e], k _ rfl fun _ => rfl⟩) ho he hs hbase hline
theorem de_endswith {apos pos : Pos} (ho : PE X o (up (Cx.ky X) to)) (he : PE X e (up (Cx.ky X) te)) (hs : starEach [e] X.env = [(false, eval e X.env)] := by rfl) (hbase : attributeBase o "endswith" X.env (eval o X.env) = eval o X.env := by rfl) (hline : (apos.endLine == pos.line) = true := by rfl) :
    PE X (.Call (.Attribute o "endswith" apos) [e] [] pos) (up (Cx.ky X) (dM1 (fSS fun a b => .bool (Txt.endswith a b)) to te)) :=
  de_m1 PySem.F.slot_str_endswith PySem.F.type_str_endswith mt_endswith (fun a y H Q h => by
    obtain ⟨b, e, k⟩ := ss_of h
    exact ⟨a, b, rfl, by rw [e], k _ rfl fun _ => rfl⟩) ho he hs hbase hline
def fJoin : F1S := fun a e R => ∃ ys : List Str, (e = .p (.list (ys.map .str)) ∨ e = .p (.tuple (ys.map .str))) ∧ (ys.map (·.length)).sum + ys.length * a.length ≤ 16777216 ∧ R (.p (.str (Txt.join a ys)))
theorem rpA_strs {K : PySem.W.Frag} {H : Hp} : ∀ {ys : List Str} {vs : List V}, RpA K H (ys.map .str) vs → vs = ys.map V.str
  | [], _, h => h
  | b :: bs, _, ⟨v, r, e, h, t⟩ => by rw [e, show v = .str b from h, rpA_strs t]; rfl
theorem de_join {apos pos : Pos} (ho : PE X o (up (Cx.ky X) to)) (he : PE X e (up (Cx.ky X) te)) (hs : starEach [e] X.env = [(false, eval e X.env)] := by rfl) (hbase : attributeBase o "join" X.env (eval o X.env) = eval o X.env := by rfl) (hline : (apos.endLine == pos.line) = true := by rfl) :
    PE X (.Call (.Attribute o "join" apos) [e] [] pos) (up (Cx.ky X) (dM1 fJoin to te)) :=
  de_m1 PySem.F.slot_str_join PySem.F.type_str_join mt_join (fun a y H Q ⟨d, e, R, P, dm, r1, r2, h1, k⟩ => by
    obtain ⟨a', rfl, ys, he, hz, h3⟩ := asS_of h1
    have ea : V.str a = .str a' := r1
    cases ea
    rcases he with he | he
    · subst he
      obtain ⟨p, xs, e, q, ra⟩ := r2
      exact ⟨a, p, ys, rfl, by rw [e], .inl (SqL.of (by rw [← rpA_strs ra]; exact (hide_ext P H).lst q)), hz, k _ H (.p (.str (Txt.join a ys))) (Ext.refl H) rfl h3⟩
    · subst he
      obtain ⟨p, xs, e, q, ra⟩ := r2
      exact ⟨a, p, ys, rfl, by rw [e], .inr (by rw [← rpA_strs ra]; exact (hide_ext P H).seqT q), hz, k _ H (.p (.str (Txt.join a ys))) (Ext.refl H) rfl h3⟩) ho he hs hbase hline
end

/-! ### in -/
def flatD : PyData → Bool
  | .none => true | .bool _ => true | .int _ => true | .str _ => true
  | _ => false
/-- == of flat data -/
def eqF : PyData → PyData → Bool := PyData.eqv
def hasD (x : PyData) (ys : List PyData) : Bool := ys.any fun y => eqF y x
def fIn (neg : Bool) : F2 := fun d e R => asP d fun x => ∃ ys, (e = .p (.list ys) ∨ e = .p (.tuple ys)) ∧ flatD x = true ∧ ys.all flatD = true ∧ R (.p (.bool (if neg then !hasD x ys else hasD x ys)))
def vF : PyData → V
  | .none => .non | .bool b => .bl b | .int i => .int i | .str x => .str x
  | _ => .non
theorem rp_flat {K : PySem.W.Frag} {H : Hp} : ∀ {d : PyData} {v : V}, Rp K H d v → flatD d = true → v = vF d ∧ flatV v = true
  | .none, v, h, _ => by rw [show v = .non from h]; exact ⟨rfl, rfl⟩
  | .bool b, v, h, _ => by rw [show v = .bl b from h]; exact ⟨rfl, rfl⟩
  | .int i, v, h, _ => by rw [show v = .int i from h]; exact ⟨rfl, rfl⟩
  | .str x, v, h, _ => by rw [show v = .str x from h]; exact ⟨rfl, rfl⟩
  | .list _, _, _, f => Bool.noConfusion f
  | .tuple _, _, _, f => Bool.noConfusion f
  | .dict _, _, _, f => Bool.noConfusion f
theorem eqV_flat {x y : PyData} (fx : flatD x = true) (fy : flatD y = true) : eqV (vF x) (vF y) = eqF x y := by
  cases x <;> first
    | exact Bool.noConfusion fx
    | (cases y <;> first
        | exact Bool.noConfusion fy
        | rfl
        | simp [eqV, eqF, PyData.eqv, vF])
theorem rpA_flat {K : PySem.W.Frag} {H : Hp} : ∀ {ds : List PyData} {vs : List V}, RpA K H ds vs → ds.all flatD = true → vs = ds.map vF ∧ vs.all flatV = true
  | [], vs, h, _ => by rw [show vs = [] from h]; exact ⟨rfl, rfl⟩
  | d :: ds, _, ⟨v, r, e, h, t⟩, f => by
    rw [List.all_cons, Bool.and_eq_true] at f
    obtain ⟨a1, a2⟩ := rp_flat h f.1
    obtain ⟨b1, b2⟩ := rpA_flat t f.2
    rw [e, a1, b1, List.map_cons, List.all_cons, ← a1, ← b1, a2, b2]
    exact ⟨rfl, rfl⟩
theorem inV_flat {x : PyData} (fx : flatD x = true) : ∀ {ds : List PyData}, ds.all flatD = true → inV (vF x) (ds.map vF) = hasD x ds
  | [], _ => rfl
  | d :: ds, f => by
    rw [List.all_cons, Bool.and_eq_true] at f
    have q := inV_flat fx f.2
    unfold inV hasD at q ⊢
    rw [List.map_cons, List.any_cons, List.any_cons, q, eqV_flat f.1 fx]
section
variable {X : Cx}
theorem up_in {κ : Ky} {neg : Bool} {x y : V} {H : Hp} {Q : VK} (h : upO κ (fIn neg) x y H Q) : rIn κ.K neg x y H Q := by
  obtain ⟨d, e, R, P, dm, r1, r2, h1, k⟩ := h
  obtain ⟨a, rfl, ys, he, fx, fs, h2⟩ := asP_of h1
  obtain ⟨a1, a2⟩ := rp_flat r1 fx
  have fin : ∀ (p : Addr) (xs : List V), RpA κ.K (hide P H) ys xs → xs.all flatV = true ∧ Q (.bl (if neg then !inV x xs else inV x xs)) H := fun p xs ra => by
    obtain ⟨b1, b2⟩ := rpA_flat ra fs
    refine ⟨b2, ?_⟩
    rw [a1, b1, inV_flat fx fs]
    exact k _ H (.p (.bool (if neg then !hasD a ys else hasD a ys))) (Ext.refl H) rfl h2
  rcases he with he | he
  · subst he
    obtain ⟨p, xs, e, q, ra⟩ := r2
    exact ⟨p, xs, e, .inl (SqL.of ((hide_ext P H).lst q)), a2, fin p xs ra⟩
  · subst he
    obtain ⟨p, xs, e, q, ra⟩ := r2
    exact ⟨p, xs, e, .inr ((hide_ext P H).seqT q), a2, fin p xs ra⟩
theorem od_in : OpR X (compareOp .In) (upO (Cx.ky X) (fIn false)) := OpR.imp op_in_seq fun x y H Q h => up_in h
theorem od_notin : OpR X (compareOp .NotIn) (upO (Cx.ky X) (fIn true)) := OpR.imp op_notIn_seq fun x y H Q h => up_in h
/-- a text in a text -/
def inS (x y : Str) : Bool := !(Builtin.Str.occurrences y x 0 y.length 1).isEmpty
def fInS : F2 := fun d e R => asS d fun x => asS e fun y => R (.p (.bool (inS x y)))
theorem od_inS : OpR X (compareOp .In) (upO (Cx.ky X) fInS) := OpR.imp op_in_str fun x y H Q ⟨d, e, R, P, dm, r1, r2, h1, k⟩ => by
  obtain ⟨a, rfl, h2⟩ := asS_of h1
  obtain ⟨b, rfl, h3⟩ := asS_of h2
  exact ⟨a, b, r1, r2, k _ H (.p (.bool (inS a b))) (Ext.refl H) rfl h3⟩

/-! ### repetition of a text, of a tuple -/
def fRepS : F2 := fun d e R => asS d fun x => asI e fun i => x.length ≤ 16 ∧ -(2 ^ 63) ≤ i ∧ i ≤ 1048576 ∧ R (.p (.str (Txt.mul x i)))
theorem od_repS : OpR X (binaryOp .Mult) (upO (Cx.ky X) fRepS) := by
  intro pins s σ H x y v u Q I rx ry ⟨d, e, R, P, dm, r1, r2, h1, k⟩
  obtain ⟨a, rfl, h2⟩ := asS_of h1
  obtain ⟨i, rfl, z1, z2, z3, h3⟩ := asI_of h2
  rw [show x = .str a from r1] at rx
  rw [show y = .int i from r2] at ry
  obtain ⟨t, rfl⟩ := rx
  obtain ⟨t', rfl⟩ := ry
  exact PySem.W.KXi.mul rfl z1 z2 (by simpa using z3) fun u k' _ _ => ⟨.str (Txt.mul a i), H, I.tok _, ⟨u, rfl⟩, k _ H (.p (.str (Txt.mul a i))) (Ext.refl H) rfl h3⟩
end
end MR

/-! Sets of keys by data. -/
namespace MR
open PySem PySem.Spec PyProof.Rows L2

theorem setG_held {P : Program} {w : World} {H : Hp} {h : Heap} {a : Addr} {S : Key → Bool} {n : Nat} (R : SetG w h a S n) : ObjOk P w H h a (SetGO w a S n) := by
  obtain ⟨ob, el, ep, tb, ho, r⟩ := id R
  exact ⟨R, ⟨ob, ho⟩, fun h1 h2 p k => SetG.keeps p k⟩
theorem setG_get {X : Cx} {pins : List (Addr × Obj)} {σ : Sg} {H : Hp} {s : Shared} {a : Addr} {S : Key → Bool} {n : Nat} (I : Inv X pins σ H s) (h : H a = some (SetGO X.w a S n)) : SetG X.w s.heap a S n := (I.hok a _ h).1
/-- the keys of what a set is made from -/
def keysOf (d : PyData) (ks : List Key) : Prop := match d with
  | .str x => ks = x.cps.toList.map fun c => Sum.inr ⟨#[c]⟩
  | .list ds => ds = ks.map keyD
  | .tuple ds => ds = ks.map keyD
  | _ => False
def fSetOf : FL := fun ds R => ∃ d ks, ds = [.p d] ∧ keysOf d ks ∧ ks.length + 1 < scanBound ∧ R (.set ks)
theorem rp_key {K : PySem.W.Frag} {H : Hp} {k : Key} {v : V} (h : Rp K H (keyD k) v) : v = kV k := by
  cases k with
  | inl i => exact h
  | inr x => exact h
theorem rel_key {k : Key} {u : Value} (r : RelV (kV k) u) : kOf u = some k := by
  cases k with
  | inl i =>
    obtain ⟨t, rfl⟩ := r
    rfl
  | inr x =>
    obtain ⟨t, rfl⟩ := r
    rfl
theorem vals_keys {K : PySem.W.Frag} {H : Hp} : ∀ {ks : List Key} {vs : List V} {us : List Value}, RpA K H (ks.map keyD) vs → Vals vs us → ∀ (i : Nat) (u : Value), us[i]? = some u → ∃ k, ks[i]? = some k ∧ kOf u = some k
  | [], vs, us, h, r, i, u, e => by
    rw [show vs = [] from h] at r
    cases r
    cases e
  | k :: ks, vs, us, ⟨v, q, ev, h, t⟩, r, i, u, e => by
    rw [ev] at r
    cases r with
    | cons r1 r2 => cases i with
      | zero =>
        cases e
        rw [rp_key h] at r1
        exact ⟨k, rfl, rel_key r1⟩
      | succ i => exact vals_keys t r2 i u e
theorem vals_len {K : PySem.W.Frag} {H : Hp} {ks : List Key} {vs : List V} {us : List Value} (h : RpA K H (ks.map keyD) vs) (r : Vals vs us) : us.length = ks.length := by
  rw [← r.length, ← h.len, List.length_map]
section
variable {X : Cx}
theorem laid_set {pins : List (Addr × Obj)} {σ : Sg} {H : Hp} {s : Shared} {h' : Heap} {tk n : Nat} {S : Key → Bool} (I : Inv X pins σ H s) (R : SetG X.w h' s.heap.objs.size S n) (k : ∀ b o, s.heap.get? b = some o → h'.get? b = some o) :
    Inv X pins σ (upd H s.heap.objs.size (SetGO X.w s.heap.objs.size S n)) { s with heap := h', toks := tk } := I.laid k (Nat.le_refl _) (setG_held R)
theorem cd_set (hc : X.calm = true) : CallR X (.type "set") (upC (Cx.ky X) fSetOf) := by
  intro pins s σ H xs us Q I rx ⟨ds, R, P, dm, r, ⟨d, ks, e, hk, hb, h⟩, k⟩
  subst e
  obtain ⟨v, rfl, r1⟩ := rvA1 r
  obtain ⟨u, rfl, ru⟩ := Vals.one rx
  have hN : H s.heap.objs.size = none := I.hok.fresh (Nat.le_refl _)
  have fin : ∀ (h' : Heap) (tk c : Nat), SetG X.w h' s.heap.objs.size (fun j => hasK ks j) c → c ≤ ks.length → (∀ b o, s.heap.get? b = some o → h'.get? b = some o) → EP X pins σ Q (.ref s.heap.objs.size) { s with heap := h', toks := tk } := fun h' tk c g _ kp =>
    ⟨.ref s.heap.objs.size, _, laid_set I g kp, rfl, k _ _ (.set ks) (Ext.new hN) ⟨_, c, rfl, fresh_at dm hN⟩ h⟩
  cases d with
  | str x =>
    rw [show v = .str x from r1] at ru
    obtain ⟨t, rfl⟩ := ru
    cases ha : x.cps.all (· < 128) with
    | true => exact call_set_ascii ks (I.ok.hd hc) ha hk hb fin
    | false => exact call_set_wide ks (I.ok.hd hc) ha hk hb fin
  | list ds =>
    obtain ⟨a, ys, e, q, ra⟩ := r1
    subst e
    obtain rfl : u = Value.ref a := ru
    obtain ⟨its, rv, pl, _⟩ := I.list (SqL.of ((hide_ext P H).lst q))
    have hk' : ds = ks.map keyD := hk
    subst hk'
    exact call_set_list (items := its.toArray) ks (I.ok.hd hc) pl.isList (by rw [List.size_toArray]; exact vals_len ra rv) (fun i u e => vals_keys ra rv i u (by simpa using e)) hb fin
  | tuple ds =>
    obtain ⟨a, ys, e, q, ra⟩ := r1
    subst e
    obtain rfl : u = Value.ref a := ru
    obtain ⟨its, rv, pl, _⟩ := I.tuple ((hide_ext P H).seqT q)
    have hk' : ds = ks.map keyD := hk
    subst hk'
    exact call_set_tuple (items := its.toArray) ks (I.ok.hd hc) pl (by rw [List.size_toArray]; exact vals_len ra rv) (fun i u e => vals_keys ra rv i u (by simpa using e)) hb fin
  | _ => exact hk.elim
/-- k in a set -/
def fInK (neg : Bool) : F2 := fun d e R => ∃ k ks, d = .p (keyD k) ∧ e = .set ks ∧ R (.p (.bool (if neg then !hasK ks k else hasK ks k)))
theorem od_inK : OpR X (compareOp .In) (upO (Cx.ky X) (fInK false)) := by
  intro pins s σ H x y v u Q I rx ry ⟨d, e, R, P, dm, r1, r2, ⟨k, ks, e1, e2, h⟩, kk⟩
  subst e1 e2
  obtain ⟨a, n, rfl, ha⟩ := r2
  rw [rp_key r1] at rx
  obtain rfl : u = Value.ref a := ry
  have g := setG_get I (show H a = some (SetGO X.w a (hasK ks) n) from by
    unfold hide at ha
    split at ha
    · cases ha
    · exact ha)
  exact wpAny_inSet_of (knd := mixKind X.prog X.w) (kOf_is.mpr (rel_key rx)) (kOf_scan (rel_key rx)) g.toOf ⟨.bl (hasK ks k), H, I.tok _, rfl, kk _ H (.p (.bool (hasK ks k))) (Ext.refl H) rfl h⟩
theorem od_notinK : OpR X (compareOp .NotIn) (upO (Cx.ky X) (fInK true)) := by
  intro pins s σ H x y v u Q I rx ry ⟨d, e, R, P, dm, r1, r2, ⟨k, ks, e1, e2, h⟩, kk⟩
  subst e1 e2
  obtain ⟨a, n, rfl, ha⟩ := r2
  rw [rp_key r1] at rx
  obtain rfl : u = Value.ref a := ry
  have g := setG_get I (show H a = some (SetGO X.w a (hasK ks) n) from by
    unfold hide at ha
    split at ha
    · cases ha
    · exact ha)
  exact wpAny_notInSet_of (knd := mixKind X.prog X.w) (kOf_is.mpr (rel_key rx)) (kOf_scan (rel_key rx)) g.toOf ⟨.bl (!hasK ks k), H, I.tok _, rfl, kk _ H (.p (.bool (!hasK ks k))) (Ext.refl H) rfl h⟩
end

/-! ### sorted of a set of texts -/
/-- in order, each once -/
def RisS (xs : List Str) : Prop := xs.Pairwise fun a b => a.cps.toList < b.cps.toList
def fSortK : FL := fun ds R => ∃ ks : List Str, ds = [.set (ks.map Sum.inr)] ∧ ∀ zs, RisS zs → (∀ x, x ∈ zs ↔ x ∈ ks) → zs.length ≤ sizeLine → R (.p (.list (zs.map .str)))
theorem risS_of {ys : List Str} (nd : ys.Nodup) : RisS (ys.mergeSort (PySem.W.dataLe false PyData.str)) := by
  have e : (PySem.W.dataLe false PyData.str : Str → Str → Bool) = fun a b => decide (a.cps.toList ≤ b.cps.toList) := PySem.W.dataLe_str (β := Str) (fun b => b)
  rw [e]
  have s1 := List.pairwise_mergeSort (le := fun (a b : Str) => decide (a.cps.toList ≤ b.cps.toList)) (fun a b c h1 h2 => by
    have h1 := of_decide_eq_true h1
    have h2 := of_decide_eq_true h2
    exact decide_eq_true (Std.le_trans h1 h2)) (fun a b => by
    rcases Std.le_total (a := a.cps.toList) (b := b.cps.toList) with h | h
    · rw [decide_eq_true h]; rfl
    · rw [decide_eq_true h, Bool.or_true]) ys
  have nd2 : (ys.mergeSort fun (a b : Str) => decide (a.cps.toList ≤ b.cps.toList)).Nodup := (List.mergeSort_perm ys _).nodup_iff.mpr nd
  unfold RisS
  refine List.Pairwise.imp₂ (fun a b h1 h2 => ?_) s1 nd2
  have h1 := of_decide_eq_true h1
  exact Std.lt_of_le_of_ne h1 fun z => h2 (by
    cases a with | mk a => cases b with | mk b =>
    have z' : a.toList = b.toList := z
    rw [show a = b from Array.toList_inj.mp z'])
theorem each_vals : ∀ {us : List Value} {xs : List Str}, PySem.W.EachIs (fun v x => ∃ t, v = Value.str x t) us xs → Vals (xs.map V.str) us
  | _, _, .nil => .nil
  | _, _, .cons ⟨t, e⟩ r => .cons ⟨t, e⟩ (each_vals r)
theorem rpA_txt {K : PySem.W.Frag} {H : Hp} : ∀ xs : List Str, RpA K H (xs.map .str) (xs.map V.str)
  | [] => rfl
  | x :: xs => ⟨.str x, xs.map V.str, rfl, rfl, rpA_txt xs⟩
section
variable {X : Cx}
theorem cd_sortK {k : Nat} (hc : X.calm = true) (hr : Room k X.A) : CallR X (.builtin "sorted") (upC (Cx.ky X) fSortK) := by
  intro pins s σ H xs us Q I rx ⟨ds, R, P, dm, r, ⟨ks, e, h⟩, kk⟩
  subst e
  obtain ⟨v, q, e1, ⟨a, n, ev, ha⟩, e2⟩ := r
  have e3 : q = [] := e2
  subst e1 e3 ev
  obtain ⟨u, rfl, ru⟩ := Vals.one rx
  obtain rfl : u = Value.ref a := ru
  have g := setG_get I (show H a = some (SetGO X.w a (hasK (ks.map Sum.inr)) n) from by
    unfold hide at ha
    split at ha
    · cases ha
    · exact ha)
  refine sorted_setG g (I.ok.hd hc) (by have := hr.un; omega) (fun k hk => ?_) fun s' p out c zs kp hg ho hp hl each hz => ?_
  · obtain ⟨x, _, e⟩ := List.mem_map.mp (hasK_iff.mp hk)
    exact ⟨x, e.symm⟩
  · obtain ⟨ys, rfl, hyz, nd, mem⟩ := hz
    have hN : H p = none := I.hok.fresh hp
    have lenz : out.toList.length = (ys.mergeSort (PySem.W.dataLe false PyData.str)).length := each.length
    have hbd : (ys.mergeSort (PySem.W.dataLe false PyData.str)).length ≤ sizeLine := by
      rw [List.length_mergeSort]
      exact hyz
    have I2 : Inv X pins σ (upd H p (.lst ((ys.mergeSort (PySem.W.dataLe false PyData.str)).map V.str))) s' := by
      obtain ⟨h2, g2, d2, t2, o2⟩ := s'
      have eg : g2 = s.gens := hg
      have eo : o2 = s.os := ho
      subst eg eo
      have J := (I.laid (t' := t2) (o := .lst ((ys.mergeSort (PySem.W.dataLe false PyData.str)).map V.str)) kp hp ⟨by rw [List.length_map]; exact hbd, out.toList, c, each_vals each, by rw [Array.toArray_toList]; exact hl⟩)
      exact ⟨J.ok, J.os, J.bare, J.base, J.loc, J.cell, J.free, J.freeC, J.pin, J.hok, J.len⟩
    refine ⟨.ref p, _, I2, rfl, kk _ _ (.p (.list ((ys.mergeSort (PySem.W.dataLe false PyData.str)).map .str))) (Ext.new hN) (new_lst dm hN (rpA_txt _)) (h _ (risS_of nd) (fun x => ?_) hbd)⟩
    rw [(List.mergeSort_perm ys _).mem_iff, mem x, hasK_iff, List.mem_map]
    exact ⟨fun ⟨y, hy, e⟩ => Sum.inr.inj e ▸ hy, fun hx => ⟨x, hx, rfl⟩⟩
end
/-- such a list is the only one -/
theorem risS_one : ∀ {xs ys : List Str}, RisS xs → RisS ys → (∀ x, x ∈ xs ↔ x ∈ ys) → xs = ys := by
  intro xs
  induction xs with
  | nil =>
    intro ys _ _ h
    cases ys with
    | nil => rfl
    | cons y ys => exact absurd ((h y).mpr List.mem_cons_self) List.not_mem_nil
  | cons x xs ih =>
    intro ys hx hy h
    cases ys with
    | nil => exact absurd ((h x).mp List.mem_cons_self) List.not_mem_nil
    | cons y ys =>
      obtain ⟨x1, x2⟩ := List.pairwise_cons.mp hx
      obtain ⟨y1, y2⟩ := List.pairwise_cons.mp hy
      have irr : ∀ a : Str, ¬ a.cps.toList < a.cps.toList := fun a z => Std.lt_irrefl z
      have e : x = y := by
        rcases List.mem_cons.mp ((h x).mp List.mem_cons_self) with z | z
        · exact z
        · rcases List.mem_cons.mp ((h y).mpr List.mem_cons_self) with w | w
          · exact w.symm
          · exact absurd (Std.lt_trans (y1 x z) (x1 y w)) (irr y)
      subst e
      have t := ih x2 y2 fun z => by
        constructor
        · intro hz
          rcases List.mem_cons.mp ((h z).mp (List.mem_cons_of_mem _ hz)) with w | w
          · subst w
            exact absurd (x1 z hz) (irr z)
          · exact w
        · intro hz
          rcases List.mem_cons.mp ((h z).mpr (List.mem_cons_of_mem _ hz)) with w | w
          · subst w
            exact absurd (y1 z hz) (irr z)
          · exact w
      rw [t]
end MR

/-! Great ints, the script, the well of drawn numbers. -/
namespace MR
open PySem PySem.Spec PyProof.Rows L2

/-! ### bits -/
theorem Bd.mono {n m : Nat} {i : Int} (h : Bd n i) (l : n ≤ m) : Bd m i := let ⟨b, h0, h1, h2⟩ := h; ⟨b, h0, Nat.le_trans h1 l, h2⟩
theorem Bd.top {n : Nat} {i : Int} (h : Bd n i) : i.natAbs < 2 ^ n := let ⟨_, _, h1, h2⟩ := h; Nat.lt_of_lt_of_le h2 (Nat.pow_le_pow_right (by decide) h1)
theorem Bd.of {n : Nat} {i : Int} (h0 : 0 < n) (h : i.natAbs < 2 ^ n) : Bd n i := ⟨n, h0, Nat.le_refl _, h⟩
theorem Bd.mul {n m : Nat} {i j : Int} (h : Bd n i) (h' : Bd m j) : Bd (n + m) (i * j) := by
  obtain ⟨b, b0, b1, b2⟩ := h
  obtain ⟨c, c0, c1, c2⟩ := h'
  refine ⟨b + c, by omega, by omega, ?_⟩
  rw [Int.natAbs_mul, Nat.pow_add]
  exact Nat.mul_lt_mul'' b2 c2
theorem Bd.add {n : Nat} {i j : Int} (h : Bd n i) (h' : Bd n j) : Bd (n + 1) (i + j) := by
  obtain ⟨b, b0, b1, b2⟩ := h
  obtain ⟨c, c0, c1, c2⟩ := h'
  refine ⟨max b c + 1, by omega, by omega, ?_⟩
  have e1 : 2 ^ b ≤ 2 ^ max b c := Nat.pow_le_pow_right (by decide) (by omega)
  have e2 : 2 ^ c ≤ 2 ^ max b c := Nat.pow_le_pow_right (by decide) (by omega)
  have e3 := Int.natAbs_add_le i j
  rw [Nat.pow_succ]
  omega
theorem Bd.less {n : Nat} {i j : Int} (h : Bd n i) (l : j.natAbs ≤ i.natAbs) : Bd n j := let ⟨b, b0, b1, b2⟩ := h; ⟨b, b0, b1, Nat.lt_of_le_of_lt l b2⟩
theorem Bd.bits {n : Nat} {i : Int} (h : Bd n i) : Builtin.Int.intBits i ≤ n := let ⟨b, _, b1, b2⟩ := h; Nat.le_trans (intBits_le b2) b1
theorem Bd.ofBits {n : Nat} {i : Int} (h0 : 0 < n) (h : Builtin.Int.intBits i ≤ n) : Bd n i := by
  unfold Builtin.Int.intBits at h
  split at h
  · rename_i z
    have z' : i = 0 := by simpa using z
    exact ⟨1, by decide, h0, by rw [z']; decide⟩
  · exact ⟨i.natAbs.log2 + 1, by omega, by omega, Nat.lt_log2_self⟩
theorem Bd.mulOk {i j : Int} (h : Bd 30000000 i) (h' : Bd 30000000 j) : IntMulOk i j := by
  have a := h.bits
  have b := h'.bits
  unfold IntMulOk
  intro z
  rw [Bool.and_eq_true] at z
  have z2 := of_decide_eq_true (show decide (((Builtin.Int.intBits i + Builtin.Int.intBits j : Nat) : Int) > (bitsLine : Int)) = true from z.2)
  have e : bitsLine = 134217728 := by decide
  rw [e] at z2
  omega

/-! ### operations of great ints -/
abbrev CB (i j : Int) : Prop := Bd 30000000 i ∧ Bd 30000000 j
section
variable {X : Cx}
theorem od_mulB : OpR X (binaryOp .Mult) (upO (Cx.ky X) (fI CB fun i j => i * j)) := OpR.imp (opI (C := fun i j => CB i j) (g := fun i j => i * j) fun i j t u s Q E hc q => mul_int q (Bd.mulOk hc.1 hc.2)) fun x y H Q h => up_I h
abbrev CPw (i j : Int) : Prop := (j = 2 ∨ j = 3) ∧ Bd 40000000 i
theorem od_pow : OpR X (binaryOp .Pow) (upO (Cx.ky X) (fI CPw fun i j => i ^ j.toNat)) := OpR.imp (opI (C := fun i j => CPw i j) (g := fun i j => i ^ j.toNat) fun i j t u s Q E hc q => pow_int (by omega) (by
    have b := hc.2.bits
    rcases hc.1 with e | e <;> subst e <;> omega) q) fun x y H Q h => up_I h
end

/-! ### the script -/
def dScLen (t : TD) : TD := fun δ R => t δ fun d => ∃ ns, d = .scr ns ∧ R (.p (.int ns.length))
def fScIx : F2 := fun d e R => ∃ ns i y, d = .scr ns ∧ e = .p (.int i) ∧ atI ns i = some y ∧ R (.p (.int y))
def dItSc (t : TD) : TDI := fun δ R => t δ fun d => ∃ ns, d = .scr ns ∧ R (ns.map .int)
def fLenS : FL := fun ds R => ∃ ns, ds = [.scr ns] ∧ R (.p (.int ns.length))
theorem atI_map {α β : Type} {f : α → β} {xs : List α} {i : Int} {y : α} (h : atI xs i = some y) : atI (xs.map f) i = some (f y) := by
  unfold atI at h ⊢
  rw [List.length_map]
  cases e : ixN xs.length i with
  | none => rw [e] at h; cases h
  | some j =>
    rw [e] at h
    have h' : xs[j]? = some y := h
    show (xs.map f)[j]? = some (f y)
    rw [List.getElem?_map, h']
    rfl
section
variable {X : Cx} {tg e a b : Expr} {ta tb : TD} {pos : Pos}
theorem cd_lenS : CallR X (.builtin "len") (upC (Cx.ky X) fLenS) := CallR.imp call_len_seq fun xs H Q ⟨ds, R, P, dm, r, ⟨ns, e, h⟩, k⟩ => by
  subst e
  obtain ⟨v, q, e1, ⟨a, ev, hs⟩, e2⟩ := r
  have e3 : q = [] := e2
  subst e1 e3 ev
  exact ⟨a, ns.map V.int, rfl, .inl ((hide_ext P H).seqL hs), by rw [List.length_map]; exact k _ H (.p (.int ns.length)) (Ext.refl H) rfl h⟩
theorem de_ixS (ha : PE X a (up (Cx.ky X) ta)) (hb : PE X b (up (Cx.ky X) tb)) (hs : PlainIx b := by exact fun _ _ => rfl) : PE X (.Subscript a b pos) (up (Cx.ky X) (dOp fScIx ta tb)) :=
  PE.imp (pe_ix (IxR.imp (r := upO (Cx.ky X) fScIx) ix_list fun x y H Q ⟨d, e, R, P, dm, r1, r2, ⟨ns, i, z, e1, e2, hz, h⟩, k⟩ => by
    subst e1 e2
    obtain ⟨p, ev, hs⟩ := r1
    exact ⟨p, ns.map V.int, i, .int z, ev, r2, (hide_ext P H).seqL hs, atI_map hz, k _ H (.p (.int z)) (Ext.refl H) rfl h⟩) ha hb hs) fun _ _ _ h => up_op h
theorem itk_scr {κ : Ky} {a : Addr} {ns : List Int} : ItK κ (Itl κ.K a) (ns.map .int) [.scr ns] [.ref a] where
  go := fun H P' i _ r hi => by
    obtain ⟨v, r', e, ⟨a', ev, hq⟩, _⟩ := r
    cases e
    cases ev
    rw [List.length_map] at hi
    exact ⟨ns.map V.int, .int ns[i], (hide_ext P' H).seqL hq, by rw [List.getElem?_map, List.getElem?_eq_getElem hi]; rfl⟩
  stop := fun H P' i _ r hi => by
    obtain ⟨v, r', e, ⟨a', ev, hq⟩, _⟩ := r
    cases e
    cases ev
    exact ⟨ns.map V.int, (hide_ext P' H).seqL hq, by rw [List.length_map] at hi ⊢; exact hi⟩
  yld := fun H P' i x H2 _ r hi hy => by
    obtain ⟨v, r', e, ⟨a', ev, hq⟩, _⟩ := r
    cases e
    cases ev
    obtain ⟨rfl, f⟩ := hy
    have g := f _ ((hide_ext P' H2).seqL hq)
    rw [List.length_map] at hi
    rw [List.getElem?_map, List.getElem?_eq_getElem hi] at g
    cases g
    exact ⟨.int ns[i], by rw [List.getElem?_map, List.getElem?_eq_getElem hi]; rfl, Ext.refl _, rfl⟩
theorem di_scr (he : PE X e (up (Cx.ky X) ta)) : PI X tg e (upI (Cx.ky X) (dItSc ta)) := by
  refine PI.imp (pi_list he) fun σ H R ⟨δ, R', c, L, es, h, k⟩ => ⟨δ, _, c, L, es, h, fun v H1 d x1 r1 ⟨ns, e1, h2⟩ => ?_⟩
  subst e1
  obtain ⟨a, e, q⟩ := id r1
  subst e
  exact ⟨a, rfl, ⟨_, (hide_ext _ _).seqL q⟩, k _ H1 (ns.map .int) [.scr ns] [.ref a] x1 ⟨_, [], rfl, r1, rfl⟩ itk_scr h2⟩
end

/-! ### the well -/
def wellO (i j : Int) : HO := .dK [(.inr "digits", .int i), (.inr "mixed", .int j)]
abbrev WI (i : Int) : Prop := 0 ≤ i ∧ Bd 2000000 i
abbrev WJ (j : Int) : Prop := 0 ≤ j ∧ j < 4294967296
def dWell (t u : TD) : TD := fun δ R => t δ fun d => asI d fun i => u δ fun e => asI e fun j => WI i ∧ WJ j ∧ R .well
/-- what stands in the well: nothing more is told of it than that it is in bounds -/
def dDig (t : TD) : TD := fun δ R => t δ fun d => d = .well ∧ ∀ i, WI i → R (.p (.int i))
def dMix (t : TD) : TD := fun δ R => t δ fun d => d = .well ∧ ∀ j, WJ j → R (.p (.int j))
def dPutD (t u : TD) : TDS := fun E δ => u δ fun e => asI e fun i => t δ fun d => d = .well ∧ WI i ∧ E.nx δ
def dPutM (t u : TD) : TDS := fun E δ => u δ fun e => asI e fun j => t δ fun d => d = .well ∧ WJ j ∧ E.nx δ
theorem dig_mix : ¬ (("digits" : Str) = "mixed") := by decide +kernel
theorem mix_dig : ¬ (("mixed" : Str) = "digits") := by decide +kernel
theorem well_dig {i j : Int} : valV [((.inr "digits" : Key), V.int i), (.inr "mixed", .int j)] (.inr "digits") = some (.int i) := by
  unfold valV
  rw [List.find?_cons_of_pos (by exact decide_eq_true rfl)]
  rfl
theorem well_mix {i j : Int} : valV [((.inr "digits" : Key), V.int i), (.inr "mixed", .int j)] (.inr "mixed") = some (.int j) := by
  unfold valV
  rw [List.find?_cons_of_neg (by exact fun z => dig_mix (Sum.inr.inj (of_decide_eq_true z))), List.find?_cons_of_pos (by exact decide_eq_true rfl)]
  rfl
theorem well_putD {i j k : Int} : putK [((.inr "digits" : Key), V.int i), (.inr "mixed", .int j)] (.inr "digits") (.int k) = [((.inr "digits" : Key), V.int k), (.inr "mixed", .int j)] := by
  unfold putK
  rw [if_pos (by rw [List.any_cons, decide_eq_true rfl]; rfl), List.map_cons, List.map_cons, if_pos rfl, if_neg (fun z => mix_dig (Sum.inr.inj z))]
  rfl
theorem well_putM {i j k : Int} : putK [((.inr "digits" : Key), V.int i), (.inr "mixed", .int j)] (.inr "mixed") (.int k) = [((.inr "digits" : Key), V.int i), (.inr "mixed", .int k)] := by
  unfold putK
  rw [if_pos (by rw [List.any_cons, List.any_cons, decide_eq_true rfl, Bool.true_or, Bool.or_true]), List.map_cons, List.map_cons, if_neg (fun z => dig_mix (Sum.inr.inj z)), if_pos rfl]
  rfl
theorem well_in {κ : Ky} {P : Addr → Bool} {H : Hp} {v : V} (h : Rv κ (hide P H) .well v) : ∃ a i j, v = .ref a ∧ P a = false ∧ H a = some (wellO i j) ∧ WI i ∧ WJ j := by
  obtain ⟨a, o, e, h1, i, j, rfl, w⟩ := h
  unfold hide at h1
  split at h1
  · cases h1
  · rename_i n
    exact ⟨a, i, j, e, Bool.eq_false_iff.mpr n, h1, ⟨w.1, w.2.1⟩, w.2.2⟩
theorem well_mk {i j : Int} (h : WI i) (h' : WJ j) : Well (wellO i j) := ⟨i, j, rfl, h.1, h.2, h'.1, h'.2⟩
theorem ext_well {H : Hp} {a : Addr} {i j i' j' : Int} (h : H a = some (wellO i j)) (w : WI i) (w' : WJ j) (u : WI i') (u' : WJ j') : Ext H (upd H a (wellO i' j')) := fun b o e => by
  by_cases hb : b = a
  · subst hb
    rw [h] at e
    cases e
    exact .inr ⟨well_mk w w', _, upd_same, well_mk u u'⟩
  · exact .inl (by rw [upd_ne hb]; exact e)
section
variable {X : Cx} {e kd km : Expr} {t u : TD} {pos p1 p2 : Pos} {j1 j2 : _}
theorem de_dig (hu : X.A.units + 1 < cLine) (he : PE X e (up (Cx.ky X) t)) (hs : NoSl (.Constant (.str "digits") j1 p1) := by exact fun _ _ => rfl) : PE X (.Subscript e (.Constant (.str "digits") j1 p1) pos) (up (Cx.ky X) (dDig t)) := by
  refine PE.imp (pe_dget hu he pe_str hs) fun σ H Q ⟨δ, R, c, L, es, h, k⟩ => ⟨δ, _, c, L, es, h, fun v H1 d x1 r1 ⟨e1, h1⟩ => ?_⟩
  subst e1
  obtain ⟨a, i, j, ev, pa, ha, w, w'⟩ := well_in r1
  have g := DGet.k (k := .inr "digits") ha
  rw [well_dig] at g
  exact ⟨a, .int i, ev, g, k _ H1 (.p (.int i)) x1 rfl (h1 i w)⟩
theorem de_mix (hu : X.A.units + 1 < cLine) (he : PE X e (up (Cx.ky X) t)) (hs : NoSl (.Constant (.str "mixed") j1 p1) := by exact fun _ _ => rfl) : PE X (.Subscript e (.Constant (.str "mixed") j1 p1) pos) (up (Cx.ky X) (dMix t)) := by
  refine PE.imp (pe_dget hu he pe_str hs) fun σ H Q ⟨δ, R, c, L, es, h, k⟩ => ⟨δ, _, c, L, es, h, fun v H1 d x1 r1 ⟨e1, h1⟩ => ?_⟩
  subst e1
  obtain ⟨a, i, j, ev, pa, ha, w, w'⟩ := well_in r1
  have g := DGet.k (k := .inr "mixed") ha
  rw [well_mix] at g
  exact ⟨a, .int j, ev, g, k _ H1 (.p (.int j)) x1 rfl (h1 j w')⟩
theorem ds_putD {value : Expr} {pos' : Pos} (hu : X.A.units + 1 < cLine) (he : PE X e (up (Cx.ky X) t)) (hv : PE X value (up (Cx.ky X) u)) (hs : swapsWith value (some (.Subscript e (.Constant (.str "digits") j1 p1) pos')) pos.line X.env = pure false := by rfl) :
    PS X (.Assign [.Subscript e (.Constant (.str "digits") j1 p1) pos'] value pos) (upS (Cx.ky X) (dPutD t u)) := by
  refine PS.imp (ps_dput hu he pe_str hv hs) fun D σ H ⟨δ, E, c, L, es, h, f⟩ => ⟨δ, _, c, L, es, h, fun v H1 d x1 r1 h1 => ?_⟩
  obtain ⟨z, rfl, h2⟩ := asI_of h1
  refine ⟨δ, _, c, L, es.on x1, h2, fun w H2 d2 x2 r2 ⟨e2, wz, h3⟩ => ?_⟩
  subst e2
  obtain ⟨a, i, j, ev, pa, ha, wi, wj⟩ := well_in r2
  have ev2 : v = .int z := r1
  subst ev2
  have g := DPut.k (k := .inr "digits") (v := .int z) ha (by show 2 < sizeLine; decide)
  rw [well_putD] at g
  exact ⟨a, _, ev, g, f.nx δ σ _ L ((es.on (x1.trans x2)).on (ext_well ha wi wj wz wj)) h3⟩
theorem ds_putM {value : Expr} {pos' : Pos} (hu : X.A.units + 1 < cLine) (he : PE X e (up (Cx.ky X) t)) (hv : PE X value (up (Cx.ky X) u)) (hs : swapsWith value (some (.Subscript e (.Constant (.str "mixed") j1 p1) pos')) pos.line X.env = pure false := by rfl) :
    PS X (.Assign [.Subscript e (.Constant (.str "mixed") j1 p1) pos'] value pos) (upS (Cx.ky X) (dPutM t u)) := by
  refine PS.imp (ps_dput hu he pe_str hv hs) fun D σ H ⟨δ, E, c, L, es, h, f⟩ => ⟨δ, _, c, L, es, h, fun v H1 d x1 r1 h1 => ?_⟩
  obtain ⟨z, rfl, h2⟩ := asI_of h1
  refine ⟨δ, _, c, L, es.on x1, h2, fun w H2 d2 x2 r2 ⟨e2, wz, h3⟩ => ?_⟩
  subst e2
  obtain ⟨a, i, j, ev, pa, ha, wi, wj⟩ := well_in r2
  have ev2 : v = .int z := r1
  subst ev2
  have g := DPut.k (k := .inr "mixed") (v := .int z) ha (by show 2 < sizeLine; decide)
  rw [well_putM] at g
  exact ⟨a, _, ev, g, f.nx δ σ _ L ((es.on (x1.trans x2)).on (ext_well ha wi wj wi wz)) h3⟩
/-- {'digits': e, 'mixed': e2} -/
theorem de_well {e2 : Expr} (h1 : PE X e (up (Cx.ky X) t)) (h2 : PE X e2 (up (Cx.ky X) u)) : PE X (.Dict [some (.Constant (.str "digits") j1 p1), some (.Constant (.str "mixed") j2 p2)] [e, e2] pos) (up (Cx.ky X) (dWell t u)) := by
  refine PE.imp (pe_disp (pps_cons pe_str h1 (pps_cons pe_str h2 pps_nil)) (by rfl) (by rfl) (fun z => by cases z) (by show 2 ≤ 15; decide)) fun σ H Q ⟨δ, R, c, L, es, h, k⟩ p hp => ?_
  have x0 : Ext H (upd H p (.dK [])) := Ext.new hp
  show up (Cx.ky X) t σ (upd H p (.dK [])) _
  -- the new dict is kept for itself while the values are reckoned
  have pv0 : c.P p = false := by
    cases q : c.P p with
    | false => rfl
    | true => exact absurd hp (es.ext.some (es.pdom p q))
  refine ⟨δ, _, { c with bs := .p (.dict []) :: c.bs, us := .ref p :: c.us }, L, ?_, h, fun v Ha d xa ra ha => ?_⟩
  · have s := es.on x0
    exact ⟨s.len, s.val, s.own, s.sep, s.psys, s.pdom, s.ldom, s.ext, ⟨_, _, rfl, ⟨p, [], rfl, fresh_at es.dom hp, not_well_nil, rfl⟩, s.kept⟩⟩
  obtain ⟨i, rfl, ha2⟩ := asI_of ha
  have ea : Ha p = some (.dK []) := by
    rcases xa p _ upd_same with z | ⟨z, _⟩
    · exact z
    · exact absurd z not_well_nil
  show up (Cx.ky X) u σ Ha _
  refine ⟨δ, _, c, L, es.on (x0.trans xa), ha2, fun w Hb d2 xb rb hb => ?_⟩
  obtain ⟨j, rfl, wi, wj, hb2⟩ := asI_of hb
  have eb : Hb p = some (.dK []) := by
    rcases xb p _ ea with z | ⟨z, _⟩
    · exact z
    · exact absurd z not_well_nil
  have ev : v = .int i := ra
  have ew : w = .int j := rb
  subst ev ew
  refine ⟨eb, [(.inr "digits", .int i), (.inr "mixed", .int j)], rfl, by show 2 ≤ 15; decide, ?_⟩
  have em : mergeK [] [((.inr "digits" : Key), V.int i), (.inr "mixed", .int j)] = [((.inr "digits" : Key), V.int i), (.inr "mixed", .int j)] := by
    unfold mergeK
    rw [List.foldl_cons, List.foldl_cons, List.foldl_nil]
    have e1 : putK ([] : List (Key × V)) (.inr "digits") (.int i) = [(.inr "digits", .int i)] := rfl
    rw [e1]
    unfold putK
    rw [if_neg (by rw [List.any_cons, List.any_nil, Bool.or_false]; exact fun z => dig_mix (Sum.inr.inj (of_decide_eq_true z)))]
    rfl
  rw [em]
  have hP : oor c.P L p = false := by
    cases q : oor c.P L p with
    | false => rfl
    | true => exact absurd hp (es.dom.2 p q)
  refine k _ _ .well (fun b o e => ?_) ⟨p, wellO i j, rfl, ?_, well_mk wi wj⟩ hb2
  · have ne : b ≠ p := ne_of_none e hp
    rw [upd_ne ne]
    exact (x0.trans (xa.trans xb)) b o e
  · rw [hide_at hP]
    exact upd_same
end
end MR

/-! A law's end for promises by data. -/
namespace MR
open PySem PySem.Spec PyProof.Rows L2
/-- what law(script) promises -/
def fLaw : FL := fun ds R => ∃ ns, ds = [.scr ns] ∧ ns.length ≤ 63 ∧ (∀ n ∈ ns, Bd 1048576 n) ∧ R (.p (.bool true))
theorem law_goes {P : Program} {w : World} {K : PySem.W.Frag} {mg mb : Str → Option Value} {k : Nat} {fa a : Addr} {fd : FuncData} {s₁ : Shared} {vs : List Value} {ns : List Int}
    (inK : K.In s₁.heap) (main : s₁.heap.Ns mainGlobals mg) (blt : s₁.heap.Ns builtinsNs mb) (boot : ∀ x : Str, x ≠ "__name__" → mb x = bootBuiltins x) (limit : s₁.heap.NoLimit) (nogen : s₁.gens = #[])
    (sys : ∃ mm, s₁.heap.Ns sysModules mm) (offK : K.lookup sysModules = none)
    (there : s₁.heap.get? a = some { cls := .type "list", data := .seq vs.toArray }) (areI : IntsAre vs ns) (short : ns.length ≤ 63) (bits : ∀ z ∈ ns, Builtin.Int.intBits z ≤ 1048576) (room : Room k callerA)
    (F : ∀ base : Heap, K.In base → base.Ns mainGlobals mg → FnG P w K mg base CX0 k fa fd ["script"] (spD ⟨K, P, w⟩ fLaw)) (bind : ∀ (s : Shared) (u : Value), BindsTo s fd ⟨[u], []⟩ [("script", u)]) :
    codeAny (model P w) callerA (.call (.ref fa) ⟨[.ref a], []⟩) (fun r s' => r = .ok (.ret (.bool true)) ∧ OldK s₁.heap s'.heap ∧ s'.os = s₁.os ∧ AllBare s'.gens) s₁ := by
  obtain ⟨mm, osys, ess, eps, sysAt, sysD, _⟩ := sys
  have rel := vals_ints areI
  have lenV := areI.length
  have aS : a ≠ sysModules := fun e => by
    subst e
    rw [there] at sysAt
    cases sysAt
    cases sysD
  -- what is tracked: the table of modules, and the script where it is none of the module's own objects
  let scr : HO := .frz { cls := .type "list", data := .seq vs.toArray } (.lst (ns.map V.int))
  let H : Hp := fun b => if b = sysModules then some (.frz osys (.own 0)) else if b = a ∧ K.lookup a = none then some scr else none
  have hS : H sysModules = some (.frz osys (.own 0)) := if_pos rfl
  have cases_ : ∀ {b : Addr} {u : HO}, H b = some u → (b = sysModules ∧ u = .frz osys (.own 0)) ∨ (b = a ∧ K.lookup a = none ∧ u = scr) := fun {b u} e => by
    by_cases h1 : b = sysModules
    · have z := (if_pos h1).symm.trans e
      exact .inl ⟨h1, (Option.some.inj z).symm⟩
    · have z := (if_neg h1).symm.trans e
      by_cases h2 : b = a ∧ K.lookup a = none
      · have z2 := (if_pos h2).symm.trans z
        exact .inr ⟨h2.1, h2.2, (Option.some.inj z2).symm⟩
      · have z2 := (if_neg h2).symm.trans z
        cases z2
  have held : HOk P w H s₁.heap := fun b u e => by
    rcases cases_ e with ⟨rfl, rfl⟩ | ⟨rfl, _, rfl⟩
    · exact ⟨sysAt, osys, sysAt⟩
    · exact ⟨there, by rw [List.length_map]; exact Nat.le_trans short (by decide), vs, _, rel, there⟩
  have offD : ∀ {b : Addr} {o : Obj} {es : Array DictEntry} {ep : Nat}, b ≠ sysModules → s₁.heap.get? b = some o → o.data = .dict es ep → H b = none := fun {b o es ep} nb e d => by
    cases q : H b with
    | none => rfl
    | some u =>
      rcases cases_ q with ⟨z, _⟩ | ⟨z, _, _⟩
      · exact absurd z nb
      · subst z
        rw [there] at e
        cases e
        cases d
  have keepNs : ∀ {b : Addr} {m : Str → Option Value}, b ≠ sysModules → s₁.heap.Ns b m → (hidT s₁.heap H).Ns b m := fun {b m} nb ⟨o, es, ep, e, d, r⟩ => ⟨o, es, ep, hidT_get e (offD nb e d), d, r⟩
  have inB : K.In (hidT s₁.heap H) := fun b o e => hidT_get (inK b o e) (by
    cases q : H b with
    | none => rfl
    | some u =>
      rcases cases_ q with ⟨z, _⟩ | ⟨z, z2, _⟩
      · subst z
        rw [offK] at e
        cases e
      · subst z
        rw [z2] at e
        cases e)
  have modB : Mod K mg (hidT s₁.heap H) := ⟨inB, keepNs (by decide) main, ⟨mb, keepNs (by decide) blt, boot⟩, let ⟨mc, h1, h2⟩ := limit; ⟨mc, keepNs (by decide) h1, h2⟩⟩
  have env0 : Env0 P w K mg (hidT s₁.heap H) callerA [] s₁ H := ⟨rfl, modB, fun b o e => of_hidT e, Nat.le_of_eq (hidT_size _ _), trivial, fun b hb => absurd hb (by show b ∉ ([] : List Addr); exact List.not_mem_nil), held, .of_eq nogen⟩
  let Pv : Addr → Bool := fun b => decide (b = sysModules)
  have dm : Dom Pv H := ⟨decide_eq_true rfl, fun b e => by
    have e' : b = sysModules := of_decide_eq_true e
    rw [e', hS]
    exact Option.some_ne_none _⟩
  have hidA : hide Pv H a = H a := hide_at (decide_eq_false aS)
  have reads : SqL K (hide Pv H) a (ns.map V.int) := by
    cases hk : K.lookup a with
    | some o =>
      have e := inK a o hk
      rw [there] at e
      cases e
      exact .inr ⟨_, vs.toArray, _, hk, rfl, rfl, rfl, by rw [List.size_toArray, lenV]; exact Nat.le_trans short (by decide), by simpa using rel⟩
    | none =>
      refine .inl (.inr ⟨{ cls := .type "list", data := .seq vs.toArray }, ?_⟩)
      rw [hidA]
      show (if a = sysModules then _ else if a = a ∧ K.lookup a = none then some scr else none) = some scr
      rw [if_neg aS, if_pos ⟨rfl, hk⟩]
  have prom : spD ⟨K, P, w⟩ fLaw [.ref a] H (fun v _ => v = .bl true) (fun _ _ _ => False) :=
    ⟨[.scr ns], fun d => d = .p (.bool true), Pv, dm, ⟨.ref a, [], rfl, ⟨a, rfl, reads⟩, rfl⟩, ⟨ns, rfl, short, fun z hz => Bd.ofBits (by decide) (bits z hz), rfl⟩, fun v H' r _ q e => by
      subst e
      exact q⟩
  refine codeAny_mono ((F _ inB (keepNs (by decide) main)).go callerA rfl [] s₁ H ⟨[.ref a], []⟩ [.ref a] [.ref a] _ _ room env0 (bind s₁ (.ref a)) (.cons rfl .nil) prom) fun r s' h => ?_
  cases r with
  | error e => exact h.elim
  | ok fl =>
    cases fl with
    | next => exact h.elim
    | brk => exact h.elim
    | cont => exact h.elim
    | ret u =>
      obtain ⟨v, H', os, bare, un, held', r', q⟩ := h
      have q' : v = .bl true := q
      subst q'
      obtain rfl : u = Value.bool true := r'
      refine ⟨rfl, OldK.of_keep fun b o e => ?_, os, bare⟩
      cases q : H b with
      | none => exact un.keep b o e q (by show b ∉ ([] : List Addr); exact List.not_mem_nil) List.not_mem_nil
      | some x =>
        have fz : ∃ ob y, x = .frz ob y := by
          rcases cases_ q with ⟨_, z⟩ | ⟨_, _, z⟩
          · exact ⟨_, _, z⟩
          · exact ⟨_, _, z⟩
        obtain ⟨ob, y, rfl⟩ := fz
        have e1 := (held b _ q).1
        have e2 := (held' b _ (un.frzs b ob y q)).1
        rw [e] at e1
        cases e1
        exact e2
theorem walk_G {l : PySem.W.OpenLaw} {k : Nat} {q : Program} {loose : List Str} {XP : (Str → Option Value) → Heap → Prop} {YP : World → Heap → Prop} {d : DefRec} {K : Params → PySem.W.Frag}
    (hn : l.most = some 63) (hdf : d.params.defaults = []) (hq : importsNone q = true) (hr : Room k callerA) (hY : ∀ (w : World) (h : Heap), YP w h → (K w.params).In h)
    (F : ∀ (w : World) (mg : Str → Option Value) (fa : Addr) (h : Heap), (K w.params).In h → h.Ns mainGlobals mg → mg d.name = some (.ref fa) → (K w.params).lookup sysModules = none ∧
      ∃ fd : FuncData, (∀ (s : Shared) (u : Value), BindsTo s fd ⟨[u], []⟩ [("script", u)]) ∧
        ∀ base : Heap, (K w.params).In base → base.Ns mainGlobals mg → FnG l.prog w (K w.params) mg base CX0 k fa fd ["script"] (spD ⟨K w.params, l.prog, w⟩ fLaw)) :
    PySem.W.WalkO q loose XP YP l.row.toRowW d [] (fun f vs => PySem.call f vs) := by
  refine Att.attach_callB hn hdf fun w s₀ s₁ mg mb fa o pm cd doc a vs ns G Y ho hd hcd hmg hobj hints hlen hbits hg => ?_
  have KX := hY w _ Y
  obtain ⟨offK, fd, hb, hF⟩ := F w mg fa _ KX G.T.g hmg
  have sys := (G.T.seer hq).mods
  exact law_goes KX G.T.g G.T.b G.T.builtins G.T.nolimit hg (let ⟨mm, h1, _⟩ := sys; ⟨mm, h1⟩) offK hobj hints hlen hbits hr hF hb
end MR

/-! More statements; the rule for a def, the reading told behind the body. -/
namespace MR
open PySem PySem.Spec PyProof.Rows L2
section
variable {P : Program} {w : World} {K : PySem.W.Frag} {mg : Str → Option Value} {base : Heap}
theorem okB {x qual : Str} {st : Stmt} {f : Addr} {fd : FuncData} {N ps : List Str} {k : Nat} {g : FL} (F : Fun K x qual st f fd) (S : FnScope N ps (defScope st)) (len : ∀ ds R, g ds R → ds.length = ps.length)
    (hb : ∀ (cdv : Value) (A : Around), A.guards = some [] → ∀ (outer : List PySem.Env) (s : Shared) (H : Hp) (E : XK), Room k (A.deeper (envOfC qual (defScope st) s.heap.objs.size f cdv)) →
      ∃ t, PSs (cxOf CX0 P w K mg base N qual (defScope st) f cdv A outer s H E).nox (defBody st) (upS ⟨K, P, w⟩ t) ∧ ∀ ds R, g ds R → t { nx := fun _ => R (.p .none), rt := R } (startD N ds)) : FnG P w K mg base CX0 (k + 1) f fd ps (spD ⟨K, P, w⟩ g) := by
  refine fnG_of F S (fun vs H Q E ⟨ds, R, P, d, r, h, q⟩ => by rw [← r.len]; exact len ds R h) fun cdv A gd outer s H vs Q E room ⟨ds, R, P', d, r, h, q⟩ => ?_
  obtain ⟨t, ht, hr⟩ := hb cdv A gd outer s H E room
  refine ⟨_, ht.nox, startD N ds, _, ⟨H, P', [], []⟩, _, es_start d r, hr ds R h, ⟨fun δ σ H' L es h' => ?_, fun v H' d' x r' h' => ?_, fun _ _ _ _ _ z => z.elim, fun _ _ _ _ _ z => z.elim⟩⟩
  · exact q .non H' (.p .none) es.ext rfl h'
  · exact q v H' d' x r' h'
/-- a def's promise from a weaker one -/
theorem FnG.impD {k : Nat} {f : Addr} {fd : FuncData} {ps : List Str} {κ : Ky} {g g' : FL} (F : FnG P w K mg base CX0 k f fd ps (spD κ g)) (h : ∀ ds R, g' ds R → g ds R) : FnG P w K mg base CX0 k f fd ps (spD κ g') :=
  F.imp fun vs H Q E ⟨ds, R, Pv, dm, r, q, kk⟩ => ⟨ds, R, Pv, dm, r, h ds R q, kk⟩
end
section
variable {X : Cx} {a b e : Expr} {ta tb : TD} {pos : Pos}
theorem ud_neg : UnR X (unaryOp .USub) (upU (Cx.ky X) fun d R => asI d fun i => R (.p (.int (-i)))) := by
  intro pins s σ H x v Q I rx ⟨d, R, P, dm, r1, h, k⟩
  obtain ⟨i, rfl, h2⟩ := asI_of h
  exact un_neg pins s σ H x v Q I rx ⟨i, r1, k _ H (.p (.int (-i))) (Ext.refl H) rfl h2⟩
/-- a, b = x, y -/
def dPar (i j : Nat) (t : TL) : TDS := fun E δ => t δ fun ds => ∃ d e, ds = [d, e] ∧ E.nx ((δ.set i (.v d)).set j (.v e))
theorem ds_par {i j : Nat} {x y : Str} {t : TL} {px py pt : Pos} {kt k2 pt2} (hc : X.calm = true) (hN : X.N.Nodup) (hi : X.N[i]? = some x) (hj : X.N[j]? = some y) (hij : i ≠ j) (hx : X.env.scope.names.lookup x = some .local) (hy : X.env.scope.names.lookup y = some .local)
    (ha : PA X [a, b] (upA (Cx.ky X) t)) (h : ∀ {ta : TA}, PA X [a, b] ta → PS X (.Assign [.Tuple [.Name x px, .Name y py] kt pt] (.Tuple [a, b] k2 pt2) pos) (tPar i j ta)) : PS X (.Assign [.Tuple [.Name x px, .Name y py] kt pt] (.Tuple [a, b] k2 pt2) pos) (upS (Cx.ky X) (dPar i j t)) := by
  refine PS.imp (h ha) fun D σ H ⟨δ, E, c, L, es, hh, f⟩ => ⟨δ, _, c, L, es, hh, fun vs H1 ds x1 r1 ⟨d, e, e1, h2⟩ => ?_⟩
  subst e1
  obtain ⟨v, q, e1, r2, u, q2, e2, r3, e3⟩ := r1
  have e4 : q2 = [] := e3
  subst e4 e2 e1
  exact ⟨v, u, rfl, f.nx _ _ H1 L (((es.on x1).set r2).set r3) h2⟩
end
end MR

/-! More operations: == of what holds no dict, == with an empty list, small powers. -/
namespace MR
open PySem PySem.Spec PyProof.Rows L2
/-- d == e where no dict lies within -/
def fEqQ (neg : Bool) : F2 := fun d e R => asP d fun x => asP e fun y => x.plain = true ∧ y.plain = true ∧ min x.depth y.depth ≤ 60 ∧ R (.p (.bool (if neg then !PyData.eqv x y else PyData.eqv x y)))
/-- xs == [] -/
def fEqE (neg : Bool) : F2 := fun d e R => asL d fun xs => e = .p (.list []) ∧ R (.p (.bool (if neg then !xs.isEmpty else xs.isEmpty)))
abbrev CPwS (i j : Int) : Prop := 0 ≤ j ∧ j ≤ 100 ∧ i.natAbs ≤ 16
section
variable {X : Cx}
theorem od_eqQ (hu : X.A.units + 64 < cLine) : OpR X (compareOp .Eq) (upO (Cx.ky X) (fEqQ false)) := by
  intro pins s σ H x y v u Q I rx ry ⟨d, e, R, P, dm, r1, r2, h, k⟩
  obtain ⟨a, rfl, h0⟩ := asP_of h
  obtain ⟨b, rfl, h1, h2, h3, h4⟩ := asP_of h0
  obtain ⟨as, ra, _⟩ := rp_reads dm.1 I r1 rx
  obtain ⟨bs, rb, _⟩ := rp_reads dm.1 I r2 ry
  exact SeqAt.eq_plain ra rb h1 h2 (by omega) ⟨.bl _, H, I, rfl, k _ H (.p (.bool (PyData.eqv a b))) (Ext.refl H) rfl h4⟩
theorem od_neQ (hu : X.A.units + 64 < cLine) : OpR X (compareOp .NotEq) (upO (Cx.ky X) (fEqQ true)) := by
  intro pins s σ H x y v u Q I rx ry ⟨d, e, R, P, dm, r1, r2, h, k⟩
  obtain ⟨a, rfl, h0⟩ := asP_of h
  obtain ⟨b, rfl, h1, h2, h3, h4⟩ := asP_of h0
  obtain ⟨as, ra, _⟩ := rp_reads dm.1 I r1 rx
  obtain ⟨bs, rb, _⟩ := rp_reads dm.1 I r2 ry
  exact SeqAt.ne_plain ra rb h1 h2 (by omega) ⟨.bl _, H, I, rfl, k _ H (.p (.bool (!PyData.eqv a b))) (Ext.refl H) rfl h4⟩
theorem od_eqE (hu : X.A.units < cLine) : OpR X (compareOp .Eq) (upO (Cx.ky X) (fEqE false)) := by
  intro pins s σ H x y v u Q I rx ry ⟨d, e, R, P, dm, r1, r2, h, k⟩
  obtain ⟨xs, rfl, rfl, h1⟩ := asL_of h
  obtain ⟨as, ra, _⟩ := rp_reads dm.1 I r1 rx
  obtain ⟨bs, rb, _⟩ := rp_reads dm.1 I r2 ry
  have hq : EP X pins σ Q (.bool xs.isEmpty) s := ⟨.bl _, H, I, rfl, k _ H (.p (.bool xs.isEmpty)) (Ext.refl H) rfl h1⟩
  cases ra with
  | list a1 a2 a3 a4 => cases rb with
    | list b1 b2 b3 b4 =>
      have n1 := SeqAt.ReadsAll.length _ _ _ a4
      have n2 := SeqAt.ReadsAll.length _ _ _ b4
      rw [Array.length_toList] at n1 n2
      rw [List.length_nil] at n2
      cases xs with
      | nil =>
        rw [List.length_nil] at n1
        exact SeqAt.RcAt.lists (e := fun _ => true) ⟨_, a1, a2, _, a3⟩ ⟨_, b1, b2, _, b3⟩ (by omega) hu (fun j h1 h2 => absurd h1 (by omega)) _ _ _ _ (by rw [List.all_eq_true.mpr fun _ _ => rfl]; exact hq)
      | cons z zs =>
        rw [List.length_cons] at n1
        exact SeqAt.RcAt.lists_lengths ⟨_, a1, a2, _, a3⟩ ⟨_, b1, b2, _, b3⟩ (by simp; omega) hu _ _ _ _ hq
theorem od_neE (hu : X.A.units < cLine) : OpR X (compareOp .NotEq) (upO (Cx.ky X) (fEqE true)) := by
  intro pins s σ H x y v u Q I rx ry ⟨d, e, R, P, dm, r1, r2, h, k⟩
  obtain ⟨xs, rfl, rfl, h1⟩ := asL_of h
  obtain ⟨as, ra, _⟩ := rp_reads dm.1 I r1 rx
  obtain ⟨bs, rb, _⟩ := rp_reads dm.1 I r2 ry
  have hq : EP X pins σ Q (.bool (!xs.isEmpty)) s := ⟨.bl _, H, I, rfl, k _ H (.p (.bool (!xs.isEmpty))) (Ext.refl H) rfl h1⟩
  cases ra with
  | list a1 a2 a3 a4 => cases rb with
    | list b1 b2 b3 b4 =>
      have n1 := SeqAt.ReadsAll.length _ _ _ a4
      have n2 := SeqAt.ReadsAll.length _ _ _ b4
      rw [Array.length_toList] at n1 n2
      rw [List.length_nil] at n2
      cases xs with
      | nil =>
        rw [List.length_nil] at n1
        exact SeqAt.RcNeAt.lists (e := fun _ => true) ⟨_, a1, a2, _, a3⟩ ⟨_, b1, b2, _, b3⟩ (by omega) hu (fun j h1 h2 => absurd h1 (by omega)) _ _ _ _ (by rw [List.all_eq_true.mpr fun _ _ => rfl]; exact hq)
      | cons z zs =>
        rw [List.length_cons] at n1
        exact SeqAt.RcNeAt.lists_lengths ⟨_, a1, a2, _, a3⟩ ⟨_, b1, b2, _, b3⟩ (by simp; omega) hu _ _ _ _ hq
theorem od_powC : OpR X (binaryOp .Pow) (upO (Cx.ky X) (fI CPwS fun i j => i ^ j.toNat)) := OpR.imp (opI (C := fun i j => CPwS i j) (g := fun i j => i ^ j.toNat) fun i j t u s Q E hc q => pow_int hc.1 (by
    have b : Builtin.Int.intBits i ≤ 5 := Bd.bits (Bd.of (by decide) (Nat.lt_of_le_of_lt hc.2.2 (by decide)))
    have h1 := hc.1
    have h2 := hc.2.1
    have : (Builtin.Int.intBits i : Int) * j ≤ 5 * 100 := Int.mul_le_mul (by omega) h2 h1 (by decide)
    omega) q) fun x y H Q h => up_I h
end
section
variable {X : Cx} {a b c : Expr} {ta tb tc : TD} {pos : Pos}
theorem up_chain {κ : Ky} {f f' : F2} {σ : Sg} {H : Hp} {Q : VK} (h : up κ (dChain f f' ta tb tc) σ H Q) : tChain (upO κ f) (upO κ f') (up κ ta) (up κ tb) (up κ tc) σ H Q := by
  obtain ⟨δ, R, c, L, es, h, k⟩ := h
  refine ⟨δ, _, c, L, es, h, fun v H1 d x1 r1 h1 => ⟨δ, _, c, L, es.on x1, h1, fun u H2 e x2 r2 h2 => ?_⟩⟩
  refine ⟨d, e, _, _, (es.on (x1.trans x2)).dom, r1.ext (x2.hide _), r2, h2, fun z H3 r x3 q1 q2 => ?_⟩
  obtain ⟨b, rfl, q3⟩ := asB_of q2
  cases b with
  | true =>
    refine ⟨true, q1, ⟨δ, _, c, L, es.on (x1.trans (x2.trans x3)), q3, fun y H4 g x4 r4 h4 => ?_⟩⟩
    exact ⟨e, g, R, _, (es.on (x1.trans (x2.trans (x3.trans x4)))).dom, r2.ext ((x3.trans x4).hide _), r4, h4, fun z' H5 r' x5 q5 q6 => k z' H5 r' (x1.trans (x2.trans (x3.trans (x4.trans x5)))) q5 q6⟩
  | false => exact ⟨false, q1, k (.bl false) H3 (.p (.bool false)) (x1.trans (x2.trans x3)) rfl q3⟩
theorem dt_chain {op op' : CmpOp} {f f' : F2} (ho : OpR X (compareOp op) (upO (Cx.ky X) f)) (ho' : OpR X (compareOp op') (upO (Cx.ky X) f')) (ha : PE X a (up (Cx.ky X) ta)) (hb : PE X b (up (Cx.ky X) tb)) (hc : PE X c (up (Cx.ky X) tc)) (hm : lastMarks [op, op'] [b, c] = false := by with_unfolding_all rfl) :
    PT X (.Compare a [op, op'] [b, c] pos) (upT (Cx.ky X) (dB (dChain f f' ta tb tc))) := by
  refine PT.imp (pt_chain ho ho' ha hb hc hm) fun σ H Q ⟨δ, R, c, L, es, h, k⟩ => ?_
  refine up_chain ⟨δ, _, c, L, es, h, fun v H' d x r hd => ?_⟩
  obtain ⟨b, rfl, q⟩ := asB_of hd
  exact ⟨b, r, k b H' x q⟩
end
end MR

/-! Reading: the formulas of data, unfolded; walks with invariants; bounds of data. -/
namespace MR
open PySem PySem.Spec PyProof.Rows L2
theorem u1 {k : Nat} {A : Around} (hr : Room k A) : A.units + 1 < cLine := by
  have := hr.un
  omega
/-! ### isinstance, len -/
def isT (d : PyData) : Bool := match d with | .tuple _ => true | _ => false
def isS (d : PyData) : Bool := match d with | .str _ => true | _ => false
theorem isi_tuple {d : PyData} {R : DV → Prop} (h : R (.p (.bool (isT d)))) : fIsi [.p d, .raw (.ty "tuple")] R := ⟨d, "tuple", isT d, rfl, by cases d <;> rfl, h⟩
theorem isi_str {d : PyData} {R : DV → Prop} (h : R (.p (.bool (isS d)))) : fIsi [.p d, .raw (.ty "str")] R := ⟨d, "str", isS d, rfl, by cases d <;> rfl, h⟩
theorem len_str {x : Str} {R : DV → Prop} (hz : x.length ≤ sizeLine) (h : R (.p (.int x.length))) : fLen [.p (.str x)] R := ⟨_, _, rfl, rfl, hz, h⟩
theorem len_lst {x : List PyData} {R : DV → Prop} (hz : x.length ≤ sizeLine) (h : R (.p (.int x.length))) : fLen [.p (.list x)] R := ⟨_, _, rfl, rfl, hz, h⟩
theorem len_tup {x : List PyData} {R : DV → Prop} (hz : x.length ≤ sizeLine) (h : R (.p (.int x.length))) : fLen [.p (.tuple x)] R := ⟨_, _, rfl, rfl, hz, h⟩
theorem all_of {bs : List Bool} {R : DV → Prop} (h : R (.p (.bool (bs.all id)))) : fAll [.p (.list (bs.map .bool))] R := ⟨bs, rfl, h⟩
/-! ### walks -/
/-- a comprehension whose part is a function of the element -/
theorem lc_fm {g : TDG} {tt : TB} {te : TD} {δ : Dn} {fin : List PyData → Prop} (f : PyData → Option PyData) : ∀ (ds acc : List PyData),
    (∀ d ∈ ds, ∀ (K1 : PyData → Prop) (K2 : Prop), (match f d with | some z => K1 z | none => K2) → g (.p d) δ fun δ2 => tt δ2 fun b => if b = true then te δ2 fun y => asP y K1 else K2) →
    fin (acc ++ ds.filterMap f) → lcL g tt te δ fin ds acc
  | [], acc, _, h => by rw [List.filterMap_nil, List.append_nil] at h; exact h
  | d :: ds, acc, hd, h => by
    refine hd d List.mem_cons_self _ _ ?_
    cases e : f d with
    | some z => exact lc_fm f ds (acc ++ [z]) (fun d' m => hd d' (List.mem_cons_of_mem _ m)) (by rw [List.filterMap_cons_some e] at h; rw [List.append_assoc]; exact h)
    | none => exact lc_fm f ds acc (fun d' m => hd d' (List.mem_cons_of_mem _ m)) (by rw [List.filterMap_cons_none e] at h; exact h)
theorem lc_map {g : TDG} {te : TD} {δ : Dn} {fin : List PyData → Prop} (f : PyData → PyData) {ds : List PyData}
    (hd : ∀ d ∈ ds, ∀ (K1 : PyData → Prop), K1 (f d) → g (.p d) δ fun δ2 => te δ2 fun y => asP y K1) (h : fin (ds.map f)) : lcL g dYes te δ fin ds [] := by
  refine lc_fm (fun d => some (f d)) ds [] (fun d m K1 K2 hk => hd d m K1 hk) ?_
  rw [List.nil_append, List.filterMap_eq_map']
  exact h
/-- one whose part is any of some -/
theorem lc_rel {g : TDG} {te : TD} {δ : Dn} {fin : List PyData → Prop} (p : PyData → Prop) : ∀ (ds acc : List PyData),
    (∀ d ∈ ds, ∀ (K1 : PyData → Prop), (∀ z, p z → K1 z) → g (.p d) δ fun δ2 => te δ2 fun y => asP y K1) →
    (∀ zs : List PyData, zs.length = ds.length → (∀ z ∈ zs, p z) → fin (acc ++ zs)) → lcL g dYes te δ fin ds acc
  | [], acc, _, h => by have := h [] rfl (by simp); rw [List.append_nil] at this; exact this
  | d :: ds, acc, hd, h => by
    refine hd d List.mem_cons_self _ fun z hz => ?_
    exact lc_rel p ds (acc ++ [z]) (fun d' m => hd d' (List.mem_cons_of_mem _ m)) fun zs e hp => by
      rw [List.append_assoc]
      exact h (z :: zs) (by simp [e]) fun y hy => by
        rcases List.mem_cons.mp hy with e | m
        · rw [e]; exact hz
        · exact hp y m
/-- for, what stays -/
theorem for_inv {E : DE} {g : TDG} {tb : TDS} (I : Dn → Prop) : ∀ (ds : List PyData) (δ : Dn), I δ → (∀ d ∈ ds, ∀ δ', I δ' → ∀ (E' : DE), E'.rt = E.rt → (∀ δ2, I δ2 → E'.nx δ2) → (∀ δ2, I δ2 → E'.ct δ2) → (∀ δ2, E.nx δ2 → E'.bk δ2) → g (.p d) δ' fun δ2 => tb E' δ2) → (∀ δ', I δ' → E.nx δ') → forL E g tb ds δ
  | [], δ, h, _, he => he δ h
  | d :: ds, δ, h, hb, he => hb d List.mem_cons_self δ h _ rfl (fun δ2 h2 => for_inv I ds δ2 h2 (fun d' m => hb d' (List.mem_cons_of_mem _ m)) he) (fun δ2 h2 => for_inv I ds δ2 h2 (fun d' m => hb d' (List.mem_cons_of_mem _ m)) he) (fun _ h => h)
end MR

/-! A text compared with anything; tuples of texts; small repetitions; more built-ins. -/
namespace MR
open PySem PySem.Spec PyProof.Rows L2
section
open PySem.SeqAt PySem.MeetsSeq
theorem dict_no_str (l : Addr) (es : Array DictEntry) (ep : Nat) (dd : Option Addr) (sl : Array (Option Value)) (b : Str) (u : Tok) :
    Meets (Builtin.«dict.__eq__» ⟨[.ref l, .str b u], []⟩) (fun _ R s => s.heap.get? l = some { cls := .type "dict", dict := dd, data := .dict es ep, slots := sl } ∧ R (.ok (.ret .notImplemented)) s) :=
  .of_wp fun prog w A R s h => by obtain ⟨hp, g, d, tk, os⟩ := s; obtain ⟨hl, h⟩ := h; have f1 := F.sub_str_dict; wp_walk using wpAny_loadPart' hl, wpAny_load hl; exact ⟨_, rfl, h⟩
theorem str_no_dict (b : Str) (u : Tok) (l : Addr) (es : Array DictEntry) (ep : Nat) (dd : Option Addr) (sl : Array (Option Value)) :
    Meets (Builtin.«str.__eq__» ⟨[.str b u, .ref l], []⟩) (fun _ R s => s.heap.get? l = some { cls := .type "dict", dict := dd, data := .dict es ep, slots := sl } ∧ R (.ok (.ret .notImplemented)) s) :=
  .of_wp fun prog w A R s h => by obtain ⟨hp, g, d, tk, os⟩ := s; obtain ⟨hl, h⟩ := h; wp_walk using wpAny_loadPart' hl, wpAny_load hl; exact ⟨_, rfl, h⟩
variable {A : Around} {s : Shared}
theorem rc_dict_str {l : Addr} {o : Obj} {es : Array DictEntry} {ep : Nat} (b : Str) (u : Tok) (ho : s.heap.get? l = some o) (hc : o.cls = .type "dict") (hd : o.data = .dict es ep) (hu : A.units < cLine) : RcAt A s (.ref l) (.str b u) false := fun prog w E Q h => by
  obtain ⟨cls, dd, data, sl⟩ := o
  simp only at hc hd
  subst hc hd
  exact rc_eq_decline_or (k := false) ⟨_, ho, rfl⟩ (typeIs_str s b u) (by decide) F.sub_str_dict F.slot_dict_eq F.slot_str_eq_refl
    (fun _ hq => call_meets F.slot_dict_eq ⟨_, ho, rfl⟩ F.entry_dict_eq (F.args_dict_eq_2 _ _) (dict_no_str l es ep dd sl b u) ⟨ho, hq⟩)
    (fun _ hq => call_meets F.slot_str_eq_refl (typeIs_str s b u) F.entry_str_eq (F.args_str_eq_2 _ _) (str_no_dict b u l es ep dd sl) ⟨ho, hq⟩)
    (fun _ hq => wpAny_of_eq (rfl : isSame (.ref l) (.str b u) = pure false) hq) (.inr hu) h
theorem rc_str_dict {l : Addr} {o : Obj} {es : Array DictEntry} {ep : Nat} (b : Str) (u : Tok) (ho : s.heap.get? l = some o) (hc : o.cls = .type "dict") (hd : o.data = .dict es ep) (hu : A.units < cLine) : RcAt A s (.str b u) (.ref l) false := fun prog w E Q h => by
  obtain ⟨cls, dd, data, sl⟩ := o
  simp only at hc hd
  subst hc hd
  exact rc_eq_decline_or (k := false) (typeIs_str s b u) ⟨_, ho, rfl⟩ (by decide) F.sub_dict_str F.slot_str_eq F.slot_dict_eq_refl
    (fun _ hq => call_meets F.slot_str_eq (typeIs_str s b u) F.entry_str_eq (F.args_str_eq_2 _ _) (str_no_dict b u l es ep dd sl) ⟨ho, hq⟩)
    (fun _ hq => call_meets F.slot_dict_eq_refl ⟨_, ho, rfl⟩ F.entry_dict_eq (F.args_dict_eq_2 _ _) (dict_no_str l es ep dd sl b u) ⟨ho, hq⟩)
    (fun _ hq => wpAny_of_eq (rfl : isSame (.str b u) (.ref l) = pure false) hq) (.inr hu) h
theorem eq_str_dict {l : Addr} {o : Obj} {es : Array DictEntry} {ep : Nat} (b : Str) (u : Tok) (ho : s.heap.get? l = some o) (hc : o.cls = .type "dict") (hd : o.data = .dict es ep) (hu : A.units < cLine) : EqAt A s (.str b u) (.ref l) false := fun prog w E Q h => by
  unfold eqBool
  refine wpAny_holding ?_
  refine wpAny_ite_split (fun hab => absurd (eq_of_beq hab) nofun) (fun _ => ?_)
  exact wpAny_bind (rc_str_dict b u ho hc hd hu prog w E _ (wpAny_truthy_bool h))
/-- data == a text -/
def eqW (x : PyData) (y : Str) : Bool := match x with
  | .str z => decide (z = y)
  | _ => false
theorem eqv_sw {x : PyData} {y : Str} : PyData.eqv x (.str y) = eqW x y := by
  cases x with
  | str z =>
    simp only [PyData.eqv, eqW]
    by_cases h : z = y
    · subst h; rw [decide_eq_true rfl]; exact beq_self_eq_true z
    · rw [decide_eq_false h]; exact beq_eq_false_iff_ne.mpr h
  | _ => simp only [PyData.eqv, eqW]
theorem eqv_ws {x : PyData} {y : Str} : PyData.eqv (.str y) x = eqW x y := by
  cases x with
  | str z =>
    simp only [PyData.eqv, eqW]
    by_cases h : z = y
    · subst h; rw [decide_eq_true rfl]; exact beq_self_eq_true z
    · rw [decide_eq_false h]; exact beq_eq_false_iff_ne.mpr (Ne.symm h)
  | _ => simp only [PyData.eqv, eqW]
theorem rc_word {x : PyData} {v : Value} {as : List Addr} (y : Str) (t : Tok) (r : Reads s.heap v x as) (hu : A.units + 64 < cLine) : RcAt A s v (.str y t) (eqW x y) := by
  have ry : Reads s.heap (.str y t) (.str y) [] := .str y t
  cases r with
  | list h1 h2 h3 h4 => exact RcAt.list_str y t ⟨_, h1, h2, _, h3⟩ (by omega)
  | tuple h1 h2 h3 h4 => exact RcAt.tuple_str y t ⟨_, h1, h2, _, h3⟩ (by omega)
  | dict h1 h2 h3 h4 h5 => exact rc_dict_str y t h1 h2 h3 (by omega)
  | none => rw [← eqv_sw]; exact rcAt_plain (as := []) (bs := []) .none ry rfl rfl (by show A.units + min 0 0 < cLine; omega)
  | bool b => rw [← eqv_sw]; exact rcAt_plain (as := []) (bs := []) (.bool b) ry rfl rfl (by show A.units + min 0 0 < cLine; omega)
  | int i u => rw [← eqv_sw]; exact rcAt_plain (as := []) (bs := []) (.int i u) ry rfl rfl (by show A.units + min 0 0 < cLine; omega)
  | str z u => rw [← eqv_sw]; exact rcAt_plain (as := []) (bs := []) (.str z u) ry rfl rfl (by show A.units + min 0 0 < cLine; omega)
theorem eq_word {x : PyData} {v : Value} {as : List Addr} (y : Str) (t : Tok) (r : Reads s.heap v x as) (hu : A.units + 64 < cLine) : EqAt A s (.str y t) v (eqW x y) := by
  have ry : Reads s.heap (.str y t) (.str y) [] := .str y t
  cases r with
  | list h1 h2 h3 h4 => exact EqAt.str_list y t ⟨_, h1, h2, _, h3⟩ (by omega)
  | tuple h1 h2 h3 h4 => exact EqAt.str_tuple y t ⟨_, h1, h2, _, h3⟩ (by omega)
  | dict h1 h2 h3 h4 h5 => exact eq_str_dict y t h1 h2 h3 (by omega)
  | none => rw [← eqv_ws]; exact eqAt_plain _ _ _ _ _ _ [] [] ry .none rfl rfl (by show A.units + min 0 0 < cLine; omega)
  | bool b => rw [← eqv_ws]; exact eqAt_plain _ _ _ _ _ _ [] [] ry (.bool b) rfl rfl (by show A.units + min 0 0 < cLine; omega)
  | int i u => rw [← eqv_ws]; exact eqAt_plain _ _ _ _ _ _ [] [] ry (.int i u) rfl rfl (by show A.units + min 0 0 < cLine; omega)
  | str z u => rw [← eqv_ws]; exact eqAt_plain _ _ _ _ _ _ [] [] ry (.str z u) rfl rfl (by show A.units + min 0 0 < cLine; omega)
end
/-- == a text, whatever stands on the left -/
def fEqW : F2 := fun d e R => asP d fun x => asS e fun y => R (.p (.bool (eqW x y)))
/-- in a tuple of texts -/
def inW (x : PyData) (ys : List Str) : Bool := ys.any fun y => eqW x y
def fInW (neg : Bool) : F2 := fun d e R => asP d fun x => ∃ ys : List Str, e = .p (.tuple (ys.map .str)) ∧ R (.p (.bool (if neg then !inW x ys else inW x ys)))
theorem strs_vals {K : PySem.W.Frag} {H : Hp} : ∀ {ys : List Str} {vs : List V} {us : List Value}, RpA K H (ys.map .str) vs → Vals vs us → PySem.W.EachIs (fun v x => ∃ t, v = Value.str x t) us ys
  | [], vs, us, h, r => by
    rw [show vs = [] from h] at r
    cases r
    exact .nil
  | y :: ys, vs, us, ⟨v, q, e, h, t⟩, r => by
    rw [e] at r
    cases r with
    | cons r1 r2 =>
      rw [show v = .str y from h] at r1
      exact .cons r1 (strs_vals t r2)
def strOf (v : Value) : Str := match v with
  | .str x _ => x
  | _ => Str.empty
theorem each_mem {P : Value → Prop} : ∀ {us : List Value} {ys : List Str}, PySem.W.EachIs (fun v x => ∃ t, v = Value.str x t) us ys → (∀ x t, P (.str x t)) → ∀ u ∈ us, P u
  | _, _, .nil, _, u, h => absurd h List.not_mem_nil
  | _, _, .cons ⟨t, e⟩ r, hp, u, h => by
    rcases List.mem_cons.mp h with z | m
    · rw [z, e]; exact hp _ _
    · exact each_mem r hp u m
theorem each_any {x : PyData} : ∀ {us : List Value} {ys : List Str}, PySem.W.EachIs (fun v x => ∃ t, v = Value.str x t) us ys → (us.any fun u => eqW x (strOf u)) = inW x ys
  | _, _, .nil => rfl
  | _, _, .cons ⟨t, e⟩ r => by
    have ih := each_any (x := x) r
    unfold inW at ih ⊢
    rw [List.any_cons, List.any_cons, ih, e]
    rfl
section
variable {X : Cx}
theorem od_eqW (hu : X.A.units + 64 < cLine) : OpR X (compareOp .Eq) (upO (Cx.ky X) fEqW) := by
  intro pins s σ H x y v u Q I rx ry ⟨d, e, R, P, dm, r1, r2, h, k⟩
  obtain ⟨a, rfl, h0⟩ := asP_of h
  obtain ⟨b, rfl, h1⟩ := asS_of h0
  obtain ⟨as, ra, _⟩ := rp_reads dm.1 I r1 rx
  rw [show y = .str b from r2] at ry
  obtain ⟨t, rfl⟩ := ry
  exact rc_word b t ra hu _ _ _ _ ⟨.bl _, H, I, rfl, k _ H (.p (.bool (eqW a b))) (Ext.refl H) rfl h1⟩
theorem od_inW (hu : X.A.units + 66 < cLine) : OpR X (compareOp .In) (upO (Cx.ky X) (fInW false)) := by
  intro pins s σ H x y v u Q I rx ry ⟨d, e, R, P, dm, r1, r2, h, k⟩
  obtain ⟨a, rfl, ys, rfl, h1⟩ := asP_of h
  obtain ⟨as, ra, _⟩ := rp_reads dm.1 I r1 rx
  obtain ⟨p, xs, e, q, rp⟩ := r2
  subst e
  obtain rfl : u = Value.ref p := ry
  obtain ⟨its, rv, tl, _⟩ := I.tuple ((hide_ext P H).seqT q)
  have each := strs_vals rp rv
  refine SeqAt.in_tupleAt (fun u => eqW a (strOf u)) tl (fun z hz => ?_) ?_
  · exact each_mem (P := fun z => SeqAt.EqAt X.A.in1 s z v (eqW a (strOf z))) each (fun x t => eq_word x t ra (by show X.A.units + 1 + 64 < cLine; omega)) z (by simpa using hz)
  · have e : (its.toArray.any fun u => eqW a (strOf u)) = inW a ys := by rw [List.any_toArray]; exact each_any each
    rw [e]
    exact ⟨.bl _, H, I, rfl, k _ H (.p (.bool (inW a ys))) (Ext.refl H) rfl h1⟩
theorem od_notinW (hu : X.A.units + 66 < cLine) : OpR X (compareOp .NotIn) (upO (Cx.ky X) (fInW true)) := by
  intro pins s σ H x y v u Q I rx ry ⟨d, e, R, P, dm, r1, r2, h, k⟩
  obtain ⟨a, rfl, ys, rfl, h1⟩ := asP_of h
  obtain ⟨as, ra, _⟩ := rp_reads dm.1 I r1 rx
  obtain ⟨p, xs, e, q, rp⟩ := r2
  subst e
  obtain rfl : u = Value.ref p := ry
  obtain ⟨its, rv, tl, _⟩ := I.tuple ((hide_ext P H).seqT q)
  have each := strs_vals rp rv
  refine SeqAt.notIn_tupleAt (fun u => eqW a (strOf u)) tl (fun z hz => ?_) ?_
  · exact each_mem (P := fun z => SeqAt.EqAt X.A.in1 s z v (eqW a (strOf z))) each (fun x t => eq_word x t ra (by show X.A.units + 1 + 64 < cLine; omega)) z (by simpa using hz)
  · have e : (its.toArray.any fun u => eqW a (strOf u)) = inW a ys := by rw [List.any_toArray]; exact each_any each
    rw [e]
    exact ⟨.bl _, H, I, rfl, k _ H (.p (.bool (!inW a ys))) (Ext.refl H) rfl h1⟩
end
end MR

/-! tuple * int; int of a truth value; max of a list of ints; == (). -/
namespace MR
open PySem PySem.Spec PyProof.Rows L2
theorem tuple_mul0 (l : Addr) (items : Array Value) (n : Nat) (dd : Option Addr) (sl : Array (Option Value)) (x : Int) (u : Tok) (c0 : (decide (x < -(2 ^ 63)) || decide (x ≥ 2 ^ 63)) = false) (c1 : (items.isEmpty || x == 1) = false) (c2 : (decide (x ≤ 0) || items.isEmpty) = true) :
    Meets (Builtin.«tuple.__mul__» ⟨[.ref l, .int x u], []⟩) (fun _ R s => s.heap.get? l = some { cls := .type "tuple", dict := dd, data := .seq items n, slots := sl } ∧
      R (.ok (.ret (Value.ref s.heap.objs.size))) { s with heap := s.heap.push { cls := Value.type "tuple", data := Data.seq #[] }, toks := s.toks }) :=
  .of_wp fun prog w A R s h => by
    obtain ⟨hp, g, d, tk, os⟩ := s
    obtain ⟨hl, h⟩ := h
    have f1 := AutoSeq1.idx_int
    wp_walk using AutoSeq1.wpAny_loadPart' hl
    repeat (first
      | (refine wpAny_ite_false (decide_eq_false (by rw [c0]; exact Bool.false_ne_true)) ?_; wp_walk using AutoSeq1.wpAny_loadPart' hl)
      | (refine wpAny_ite_false (decide_eq_false (by rw [c1]; exact Bool.false_ne_true)) ?_; wp_walk using AutoSeq1.wpAny_loadPart' hl)
      | (refine wpAny_ite_true (decide_eq_true c2) ?_; wp_walk using AutoSeq1.wpAny_loadPart' hl))
    exact ⟨_, rfl, h⟩
/-- t * 0 -/
theorem op_repT0 {X : Cx} : OpR X (binaryOp .Mult) (fun x y H Q => ∃ l xs, x = .ref l ∧ y = .int 0 ∧ SqT X.K H l xs ∧ xs ≠ [] ∧ ∀ p, H p = none → Q (.ref p) (upd H p (.tup []))) := by
  intro pins s σ H x y v u Q I rx ry h
  obtain ⟨l, xs, rfl, rfl, hT, hne, q⟩ := h
  cases rx
  obtain ⟨t, rfl⟩ := ry
  obtain ⟨its, r, ⟨⟨cls, dd, data, sl⟩, ho, hc, n, hd⟩, hs⟩ := I.tuple hT
  simp only at hc hd
  subst hc hd
  have hle : its.length = xs.length := r.length.symm
  have hn : its ≠ [] := fun e => hne (by
    rw [e] at hle
    exact List.eq_nil_of_length_eq_zero hle.symm)
  have hi : its.toArray.isEmpty = false := by
    cases its with
    | nil => exact absurd rfl hn
    | cons a b => rfl
  have c0 : (decide ((0 : Int) < -(2 ^ 63)) || decide ((0 : Int) ≥ 2 ^ 63)) = false := by decide
  have c1 : (its.toArray.isEmpty || (0 : Int) == 1) = false := by rw [hi]; rfl
  have c2 : (decide ((0 : Int) ≤ 0) || its.toArray.isEmpty) = true := by rw [hi]; rfl
  refine wpAny_binaryOp_repeat_ref (T := "tuple") (U := "int") (by decide) ⟨_, ho, rfl⟩ (fun s' => typeIs_int s' 0 t) noFill_tuple_mul F.fills_int_mul F.slot_int_rmul repeat_tuple F.slot_int_index.lookup
    (call_meets F.slot_int_rmul (typeIs_int s 0 t) F.entry_int_rmul (F.args_int_rmul_2 _ _) (int_rmul_tuple 0 t l its.toArray n dd sl)
      ⟨ho, rfl, ⟨_, ho, rfl⟩, call_meets F.slot_tuple_mul ⟨_, ho, rfl⟩ F.entry_tuple_mul (F.args_tuple_mul_2 _ _) (tuple_mul0 l its.toArray n dd sl 0 t c0 c1 c2) ⟨ho, ?_⟩⟩)
  refine ⟨.ref s.heap.objs.size, _, I.laid (t' := s.toks) (o := .tup []) (fun b ob q => Heap.get?_push_of_some _ q) (Nat.le_refl _) ?_, rfl, q _ (I.hok.fresh (Nat.le_refl _))⟩
  exact ⟨Nat.zero_le _, [], .nil, IsTup.new _ _⟩
def fRepT : F2 := fun d e R => asU d fun xs => asI e fun k => xs ≠ [] ∧ (k = 0 ∨ 2 ≤ k) ∧ k ≤ 1000 ∧ xs.length ≤ 1000 ∧ R (.p (.tuple (List.replicate k.toNat xs).flatten))
theorem RpA.rep {K : PySem.W.Frag} {H : Hp} {ds : List PyData} {vs : List V} (r : RpA K H ds vs) : ∀ n : Nat, RpA K H (List.replicate n ds).flatten (List.replicate n vs).flatten
  | 0 => rfl
  | n + 1 => by
    rw [List.replicate_succ, List.replicate_succ, List.flatten_cons, List.flatten_cons]
    exact r.app (RpA.rep r n)
section
variable {X : Cx}
theorem od_repT : OpR X (binaryOp .Mult) (upO (Cx.ky X) fRepT) := by
  intro pins s σ H x y v u Q I rx ry ⟨d, e, R, P, dm, r1, r2, h, k⟩
  obtain ⟨ds, rfl, h0⟩ := asU_of h
  obtain ⟨i, rfl, hne, h1, h2, h3, h4⟩ := asI_of h0
  obtain ⟨a, xs, ev, q, ra⟩ := r1
  have ne : xs ≠ [] := fun e => hne (List.eq_nil_of_length_eq_zero (by rw [ra.len, e]; rfl))
  rcases h1 with e0 | h1
  · subst e0
    exact op_repT0 pins s σ H x y v u Q I rx ry ⟨a, xs, ev, r2, (hide_ext P H).seqT q, ne, fun p hp => k _ _ (.p (.tuple [])) (Ext.new hp) (new_tup dm hp rfl) h4⟩
  · exact op_repT pins s σ H x y v u Q I rx ry ⟨a, i, xs, ev, r2, (hide_ext P H).seqT q, ne, h1, h2, by rw [← ra.len]; exact h3, fun p hp => k _ _ (.p (.tuple (List.replicate i.toNat ds).flatten)) (Ext.new hp) (new_tup dm hp (ra.rep i.toNat)) h4⟩
/-- int of a truth value -/
def fIntB : FL := fun ds R => ∃ b : Bool, ds = [.p (.bool b)] ∧ R (.p (.int (if b then 1 else 0)))
theorem cd_intB : CallR X (.type "int") (upC (Cx.ky X) fIntB) := CallR.imp call_int1 fun xs H Q ⟨ds, R, P, dm, r, ⟨b, e, h⟩, k⟩ => by
  subst e
  obtain ⟨v, rfl, r1⟩ := rvA1 r
  exact .inr ⟨b, by rw [show v = .bl b from r1], k _ H (.p (.int (if b then 1 else 0))) (Ext.refl H) rfl h⟩
/-- t == () -/
def fEqU (neg : Bool) : F2 := fun d e R => asU d fun xs => e = .p (.tuple []) ∧ R (.p (.bool (if neg then !xs.isEmpty else xs.isEmpty)))
theorem od_eqU (hu : X.A.units < cLine) : OpR X (compareOp .Eq) (upO (Cx.ky X) (fEqU false)) := by
  intro pins s σ H x y v u Q I rx ry ⟨d, e, R, P, dm, r1, r2, h, k⟩
  obtain ⟨xs, rfl, rfl, h1⟩ := asU_of h
  obtain ⟨as, ra, _⟩ := rp_reads dm.1 I r1 rx
  obtain ⟨bs, rb, _⟩ := rp_reads dm.1 I r2 ry
  have hq : EP X pins σ Q (.bool xs.isEmpty) s := ⟨.bl _, H, I, rfl, k _ H (.p (.bool xs.isEmpty)) (Ext.refl H) rfl h1⟩
  cases ra with
  | tuple a1 a2 a3 a4 => cases rb with
    | tuple b1 b2 b3 b4 =>
      have n1 := SeqAt.ReadsAll.length _ _ _ a4
      have n2 := SeqAt.ReadsAll.length _ _ _ b4
      rw [Array.length_toList] at n1 n2
      rw [List.length_nil] at n2
      refine SeqAt.RcAt.tuples (e := fun _ => true) ⟨_, a1, a2, _, a3⟩ ⟨_, b1, b2, _, b3⟩ hu (fun j h1 h2 => absurd h2 (by omega)) _ _ _ _ ?_
      rw [n1, n2, Nat.min_zero]
      have e : ((List.range 0).all (fun _ => true) && xs.length == 0) = xs.isEmpty := by cases xs <;> rfl
      rw [e]
      exact hq
end
end MR

/-! Lists that one slot alone holds: made, appended to, given up. -/
namespace MR
open PySem PySem.Spec PyProof.Rows L2
section
variable {κ : Ky} {c : Sc} {H : Hp} {L : Addr → Bool} {δ : Dn} {σ : Sg}
theorem set_get_own {i j : Nat} {s : Sl} {ds : List PyData} (h : (δ.set i s)[j]? = some (Sl.own ds)) : (j = i ∧ s = .own ds ∧ i < δ.length) ∨ (j ≠ i ∧ δ[j]? = some (.own ds)) := by
  by_cases hj : j = i
  · subst hj
    have hl : j < δ.length := by
      have := (List.getElem?_eq_some_iff.mp h).1
      rw [List.length_set] at this
      exact this
    rw [List.getElem?_set_self hl] at h
    exact .inl ⟨rfl, Option.some.inj h, hl⟩
  · rw [List.getElem?_set_ne (Ne.symm hj)] at h
    exact .inr ⟨hj, h⟩
theorem set_get_v {i j : Nat} {s : Sl} {d : DV} (h : (δ.set i s)[j]? = some (Sl.v d)) : (j = i ∧ s = .v d ∧ i < δ.length) ∨ (j ≠ i ∧ δ[j]? = some (.v d)) := by
  by_cases hj : j = i
  · subst hj
    have hl : j < δ.length := by
      have := (List.getElem?_eq_some_iff.mp h).1
      rw [List.length_set] at this
      exact this
    rw [List.getElem?_set_self hl] at h
    exact .inl ⟨rfl, Option.some.inj h, hl⟩
  · rw [List.getElem?_set_ne (Ne.symm hj)] at h
    exact .inr ⟨hj, h⟩
/-- appended to -/
theorem ES.put (s : ES κ c H L δ σ) {i : Nat} {ds ds' : List PyData} {a : Addr} {xs' : List V} (ho : δ[i]? = some (.own ds)) (ha : σ[i]? = some (some (V.ref a))) (r : RpA κ.K (hide (oor c.P L) H) ds' xs') :
    ES κ c (upd H a (.lst xs')) L (δ.set i (.own ds')) σ := by
  obtain ⟨a', xs, e1, la, _, _⟩ := s.own i ds ho
  rw [ha] at e1
  cases e1
  have oa : oor c.P L a = true := by unfold oor; rw [la, Bool.or_true]
  have eh : hide (oor c.P L) (upd H a (.lst xs')) = hide (oor c.P L) H := hide_same oa
  have ha0 := (s.ldom a la).2
  refine ⟨by rw [List.length_set]; exact s.len, fun j d e => ?_, fun j es e => ?_, fun j k es fs b n h1 h2 h3 => ?_, s.psys, s.pdom, fun b hb => ⟨?_, (s.ldom b hb).2⟩, fun b o e => ?_, ?_⟩
  · rw [eh]
    rcases set_get_v e with ⟨_, z, _⟩ | ⟨_, z⟩
    · cases z
    · exact s.val j d z
  · rw [eh]
    rcases set_get_own e with ⟨rfl, z, _⟩ | ⟨nj, z⟩
    · cases z
      exact ⟨a, xs', ha, la, upd_same, r⟩
    · obtain ⟨b, ys, q1, q2, q3, q4⟩ := s.own j es z
      have ne : b ≠ a := fun z2 => by
        subst z2
        exact s.sep i j ds es b (Ne.symm nj) ho z ha q1
      exact ⟨b, ys, q1, q2, by rw [upd_ne ne]; exact q3, q4⟩
  · have f : ∀ {j : Nat} {es : List PyData}, (δ.set i (.own ds'))[j]? = some (Sl.own es) → ∃ fs, δ[j]? = some (.own fs) := fun {j es} h => by
      rcases set_get_own h with ⟨rfl, _, _⟩ | ⟨_, z⟩
      · exact ⟨_, ho⟩
      · exact ⟨_, z⟩
    obtain ⟨_, z1⟩ := f h1
    obtain ⟨_, z2⟩ := f h2
    exact s.sep j k _ _ b n z1 z2 h3
  · by_cases hb2 : b = a
    · rw [hb2, upd_same]
      exact Option.some_ne_none _
    · rw [upd_ne hb2]
      exact (s.ldom b hb).1
  · rw [upd_ne (ne_of_none e ha0)]
    exact s.ext b o e
  · rw [eh]
    exact s.kept
/-- given up: data from now on -/
theorem ES.frz (s : ES κ c H L δ σ) {i : Nat} {ds : List PyData} (ho : δ[i]? = some (.own ds)) : ∃ L', ES κ c H L' (δ.set i (.v (.p (.list ds)))) σ := by
  obtain ⟨a, xs, e1, la, ea, ra⟩ := s.own i ds ho
  let L' : Addr → Bool := fun b => L b && !decide (b = a)
  have sub : ∀ b, oor c.P L' b = true → oor c.P L b = true := fun b h => by
    unfold oor at h ⊢
    rw [Bool.or_eq_true] at h ⊢
    exact h.imp id fun z => by
      have z' : (L b && !decide (b = a)) = true := z
      rw [Bool.and_eq_true] at z'
      exact z'.1
  have hx : Ext (hide (oor c.P L) H) (hide (oor c.P L') H) := hide_less H sub
  have off : oor c.P L' a = false := by
    unfold oor
    have h1 : c.P a = false := by
      cases q : c.P a with
      | false => rfl
      | true => exact absurd (s.ldom a la).2 (s.pdom a q)
    have h2 : L' a = false := by show (L a && !decide (a = a)) = false; rw [decide_eq_true rfl, Bool.not_true, Bool.and_false]
    rw [h1, h2]
    rfl
  refine ⟨L', by rw [List.length_set]; exact s.len, fun j d e => ?_, fun j es e => ?_, fun j k es fs b n h1 h2 h3 => ?_, s.psys, s.pdom, fun b hb => ?_, s.ext, s.kept.ext hx⟩
  · rcases set_get_v e with ⟨rfl, z, _⟩ | ⟨_, z⟩
    · cases z
      exact ⟨.ref a, e1, a, xs, rfl, by rw [hide_at off]; exact ea, ra.ext hx⟩
    · obtain ⟨v, q1, q2⟩ := s.val j d z
      exact ⟨v, q1, q2.ext hx⟩
  · rcases set_get_own e with ⟨_, z, _⟩ | ⟨nj, z⟩
    · cases z
    · obtain ⟨b, ys, q1, q2, q3, q4⟩ := s.own j es z
      have ne : b ≠ a := fun z2 => by
        subst z2
        exact s.sep i j ds es b (Ne.symm nj) ho z e1 q1
      exact ⟨b, ys, q1, by show (L b && !decide (b = a)) = true; rw [q2, decide_eq_false ne]; rfl, q3, q4.ext hx⟩
  · rcases set_get_own h1 with ⟨_, z, _⟩ | ⟨_, z1⟩
    · cases z
    · rcases set_get_own h2 with ⟨_, z, _⟩ | ⟨_, z2⟩
      · cases z
      · exact s.sep j k es fs b n z1 z2 h3
  · have hb' : (L b && !decide (b = a)) = true := hb
    rw [Bool.and_eq_true] at hb'
    exact s.ldom b hb'.1
/-- a new list in a slot -/
theorem ES.own1 {H' : Hp} (s : ES κ c H L δ σ) {i : Nat} {ds : List PyData} {p : Addr} {xs : List V} (x : Ext H H') (hp : H p = none) (ep : H' p = some (.lst xs)) (r : RpA κ.K (hide (oor c.P (plus L p)) H') ds xs) :
    ES κ c H' (plus L p) (δ.set i (.own ds)) (σ.set i (some (.ref p))) := by
  have hp0 : c.H0 p = none := s.ext.none hp
  have xD : Ext (hide (oor c.P L) H) (hide (oor c.P (plus L p)) H') := fun a o e => by
    unfold hide at e ⊢
    split at e
    · cases e
    · rename_i n
      have ne : a ≠ p := ne_of_none e hp
      rw [oor_ne ne, if_neg n]
      exact x a o e
  have notp : ∀ {j : Nat} {es : List PyData} {a : Addr}, δ[j]? = some (Sl.own es) → σ[j]? = some (some (V.ref a)) → a ≠ p := fun {j es a} e1 e2 e3 => by
    obtain ⟨b, ys, q1, q2, q3, _⟩ := s.own j es e1
    rw [e2] at q1
    cases q1
    rw [e3, hp] at q3
    cases q3
  refine ⟨by rw [List.length_set, List.length_set]; exact s.len, fun j d e => ?_, fun j es e => ?_, fun j k es fs b n h1 h2 h3 => ?_, s.psys, s.pdom, fun b hb => ?_, s.ext.trans x, s.kept.ext xD⟩
  · rcases set_get_v e with ⟨_, z, _⟩ | ⟨nj, z⟩
    · cases z
    · obtain ⟨v, q1, q2⟩ := s.val j d z
      exact ⟨v, by rw [List.getElem?_set_ne (Ne.symm nj)]; exact q1, q2.ext xD⟩
  · rcases set_get_own e with ⟨rfl, z, hl⟩ | ⟨nj, z⟩
    · cases z
      exact ⟨p, xs, List.getElem?_set_self (by rw [← s.len]; exact hl), plus_at, ep, r⟩
    · obtain ⟨b, ys, q1, q2, q3, q4⟩ := s.own j es z
      refine ⟨b, ys, by rw [List.getElem?_set_ne (Ne.symm nj)]; exact q1, plus_of q2, x.lst q3, q4.ext xD⟩
  · rcases set_get_own h1 with ⟨rfl, z, hl⟩ | ⟨nj, z1⟩
    · rcases set_get_own h2 with ⟨rfl, _, _⟩ | ⟨nk, z2⟩
      · exact absurd rfl n
      · rw [List.getElem?_set_self (by rw [← s.len]; exact hl)] at h3
        cases h3
        rw [List.getElem?_set_ne (Ne.symm nk)]
        exact fun z3 => notp z2 z3 rfl
    · rw [List.getElem?_set_ne (Ne.symm nj)] at h3
      rcases set_get_own h2 with ⟨rfl, _, hl⟩ | ⟨nk, z2⟩
      · rw [List.getElem?_set_self (by rw [← s.len]; exact hl)]
        exact fun z3 => by
          cases z3
          exact notp z1 h3 rfl
      · rw [List.getElem?_set_ne (Ne.symm nk)]
        exact s.sep j k es fs b n z1 z2 h3
  · by_cases hb2 : b = p
    · rw [hb2, ep]
      exact ⟨Option.some_ne_none _, hp0⟩
    · rw [plus_ne hb2] at hb
      exact ⟨x.some (s.ldom b hb).1, (s.ldom b hb).2⟩
end
/-! ### expressions that make a new list -/
def upF (κ : Ky) (t : TD) : TE := fun σ H Q => ∃ δ R c L, ES κ c H L δ σ ∧ t δ R ∧ ∀ p H' ds xs, Ext H H' → H p = none → H' p = some (.lst xs) → RpA κ.K (hide (oor c.P (plus L p)) H') ds xs → R (.p (.list ds)) → Q (.ref p) H'
/-- x = a new list -/
def dSetO (i : Nat) (t : TD) : TDS := fun E δ => t δ fun d => asL d fun ds => E.nx (δ.set i (.own ds))
/-- x.append(e) -/
def dApp (i : Nat) (t : TD) : TDS := fun E δ => match δ.getD i .un with
  | .own ds => t δ fun d => asP d fun z => ds.length < sizeLine ∧ E.nx (δ.set i (.own (ds ++ [z])))
  | _ => False
/-- from here on slot i is data -/
def dFrz (i : Nat) (t : TDS) : TDS := fun E δ => match δ.getD i .un with
  | .own ds => t E (δ.set i (.v (.p (.list ds))))
  | _ => False
theorem getD_own {δ : Dn} {i : Nat} {ds : List PyData} (h : δ.getD i .un = .own ds) : δ[i]? = some (.own ds) := by
  rw [List.getD_eq_getElem?_getD] at h
  cases e : δ[i]? with
  | none => rw [e] at h; cases h
  | some s => rw [e] at h; cases h; rfl
theorem xplus {κ : Ky} {c : Sc} {L : Addr → Bool} {H1 : Hp} {p : Addr} {o : HO} (hp : H1 p = none) : Ext (hide (oor c.P L) H1) (hide (oor c.P (plus L p)) (upd H1 p o)) := fun a u e => by
  unfold hide at e ⊢
  split at e
  · cases e
  · rename_i n
    have ne : a ≠ p := ne_of_none e hp
    rw [oor_ne ne, if_neg n, upd_ne ne]
    exact .inl e
section
variable {X : Cx} {e a b : Expr} {es : List Expr} {ta tb te : TD} {t : TL} {pos : Pos}
theorem df_lst (h : PA X es (upA (Cx.ky X) t)) : PE X (.List es pos) (upF (Cx.ky X) (dLst t)) := by
  refine PE.imp (pe_lst h) fun σ H Q ⟨δ, R, c, L, es, h, k⟩ => ⟨δ, _, c, L, es, h, fun vs H1 ds x1 r1 h1 => ?_⟩
  obtain ⟨xs, rfl, hz, h2⟩ := pyAll_of h1
  have rp := rvA_p r1
  exact ⟨by rw [← rp.len]; exact hz, fun p hp => k p _ xs vs (x1.trans (Ext.new hp)) (x1.none hp) upd_same (rp.ext (xplus (κ := Cx.ky X) (c := c) hp)) h2⟩
/-- xs + ys -/
def fCat : F2 := fun d e R => asL d fun xs => asL e fun ys => xs.length + ys.length ≤ sizeLine ∧ R (.p (.list (xs ++ ys)))
theorem df_cat (ha : PE X a (up (Cx.ky X) ta)) (hb : PE X b (up (Cx.ky X) tb)) : PE X (.BinOp a .Add b pos) (upF (Cx.ky X) (dOp fCat ta tb)) := by
  refine PE.imp (pe_op op_cat ha hb) fun σ H Q ⟨δ, R, c, L, es, h, k⟩ => ⟨δ, _, c, L, es, h, fun v H1 d x1 r1 h1 => ⟨δ, _, c, L, es.on x1, h1, fun u H2 e x2 r2 h2 => ?_⟩⟩
  obtain ⟨xs, rfl, h3⟩ := asL_of h2
  obtain ⟨ys, rfl, hz, h4⟩ := asL_of h3
  obtain ⟨p, us, e1, q1, ra⟩ := r1
  obtain ⟨q, ws, e2, q2, rb⟩ := r2
  have q1' := (x2.hide (oor c.P L)).lst q1
  have ra' := ra.ext (x2.hide (oor c.P L))
  refine ⟨p, q, us, ws, e1, e2, (hide_ext _ _).lst q1', (hide_ext _ _).lst q2, by rw [← ra.len, ← rb.len]; exact hz, fun n hn => ?_⟩
  exact k n _ (xs ++ ys) (us ++ ws) (x1.trans (x2.trans (Ext.new hn))) ((x1.trans x2).none hn) upd_same ((ra'.app rb).ext (xplus (κ := Cx.ky X) (c := c) hn)) h4
theorem ds_setO {i : Nat} {x : Str} {pos' : Pos} (hN : X.N.Nodup) (hi : X.N[i]? = some x) (hx : Loc X.env.scope x) (he : PE X e (upF (Cx.ky X) te)) (hs : swapsWith e (some (.Name x pos')) pos.line X.env = pure false := by rfl) (hf : X.fn x = true ∨ X.env.scope.names.lookup x = some .local := by first | exact .inl rfl | exact .inr rfl | assumption) : PS X (.Assign [.Name x pos'] e pos) (upS (Cx.ky X) (dSetO i te)) := by
  refine PS.imp (ps_set hN hi hx he hs hf) fun D σ H ⟨δ, E, c, L, es, h, f⟩ => ⟨δ, _, c, L, es, h, fun p H1 ds xs x1 hp ep r h1 => ?_⟩
  exact f.nx _ _ H1 _ (es.own1 x1 hp ep r) h1
theorem ds_app {i : Nat} {x : Str} {apos cpos npos : Pos} (hv : PE X (.Name x npos) (tVar i)) (he : PE X e (up (Cx.ky X) te))
    (h : ∀ {ta : TA}, PA X [e] ta → PS X (.Expr (.Call (.Attribute (.Name x npos) "append" apos) [e] [] cpos) pos) (tDrop (tBM X.K "list" rAppend (tVar i) ta)))
    (hs : starEach [e] X.env = (false, eval e X.env) :: starEach [] X.env := by rfl) : PS X (.Expr (.Call (.Attribute (.Name x npos) "append" apos) [e] [] cpos) pos) (upS (Cx.ky X) (dApp i te)) := by
  refine PS.imp (h (da_cons he da_nil hs)) fun D σ H ⟨δ, E, c, L, es, h, f⟩ => ?_
  unfold dApp at h
  cases q : δ.getD i .un with
  | un => rw [q] at h; exact h.elim
  | v d => rw [q] at h; exact h.elim
  | own ds =>
    rw [q] at h
    have ho := getD_own q
    obtain ⟨a, xs, e1, la, ea, ra⟩ := es.own i ds ho
    refine ⟨.ref a, e1, .inl ⟨rfl, _, .inl (.inl ea)⟩, δ, fun ds' => (match ds' with | [d] => asP d fun z => ds.length < sizeLine ∧ E.nx (δ.set i (.own (ds ++ [z]))) | _ => False), c, L, es, h, fun vs H1 ds' x1 r1 h1 => ?_⟩
    · obtain ⟨z, rfl, hz, h2⟩ : ∃ z, ds' = [.p z] ∧ ds.length < sizeLine ∧ E.nx (δ.set i (.own (ds ++ [z]))) := by
        match ds', h1 with
        | [d], h1 =>
          obtain ⟨z, rfl, h2⟩ := asP_of h1
          exact ⟨z, rfl, h2⟩
      obtain ⟨v, rfl, rv⟩ := rvA1 r1
      have es1 := es.on x1
      exact ⟨a, xs, v, rfl, rfl, x1.lst ea, by rw [← ra.len]; exact hz, f.nx _ _ _ L (es1.put ho e1 ((ra.ext (x1.hide _)).app (show RpA X.K _ [z] [v] from ⟨v, [], rfl, rv, rfl⟩))) h2⟩
theorem ds_frz {i : Nat} {st : Stmt} {u : TDS} (h : PS X st (upS (Cx.ky X) u)) : PS X st (upS (Cx.ky X) (dFrz i u)) := by
  refine PS.imp h fun D σ H ⟨δ, E, c, L, es, h, f⟩ => ?_
  unfold dFrz at h
  cases q : δ.getD i .un with
  | un => rw [q] at h; exact h.elim
  | v d => rw [q] at h; exact h.elim
  | own ds =>
    rw [q] at h
    obtain ⟨L', es'⟩ := es.frz (getD_own q)
    exact ⟨_, E, c, L', es', h, f⟩
end
end MR

/-! list * int, max of a list of ints, tuples of texts as constants of a module. -/
namespace MR
open PySem PySem.Spec PyProof.Rows L2
def fRepL : F2 := fun d e R => asL d fun xs => asI e fun k => 0 ≤ k ∧ k ≤ 1000 ∧ xs.length ≤ 1000 ∧ R (.p (.list (List.replicate k.toNat xs).flatten))
def fMaxL : FL := fun ds R => ∃ ns : List Int, ds = [.p (.list (ns.map .int))] ∧ 0 < ns.length ∧ ∀ m ∈ ns, (∀ y ∈ ns, y ≤ m) → R (.p (.int m))
def fMinL : FL := fun ds R => ∃ ns : List Int, ds = [.p (.list (ns.map .int))] ∧ 0 < ns.length ∧ ∀ m ∈ ns, (∀ y ∈ ns, m ≤ y) → R (.p (.int m))
theorem rpA_ints {K : PySem.W.Frag} {H : Hp} : ∀ {ns : List Int} {vs : List V}, RpA K H (ns.map .int) vs → vs = ns.map V.int
  | [], _, h => h
  | b :: bs, _, ⟨v, r, e, h, t⟩ => by rw [e, show v = .int b from h, rpA_ints t]; rfl
section
variable {X : Cx}
theorem od_repL : OpR X (binaryOp .Mult) (upO (Cx.ky X) fRepL) := by
  intro pins s σ H x y v u Q I rx ry ⟨d, e, R, P, dm, r1, r2, h, k⟩
  obtain ⟨ds, rfl, h0⟩ := asL_of h
  obtain ⟨i, rfl, h1, h2, h3, h4⟩ := asI_of h0
  obtain ⟨a, xs, ev, q, ra⟩ := r1
  refine op_rep pins s σ H x y v u Q I rx ry ⟨a, i, xs, ev, r2, (hide_ext P H).lst q, by omega, by omega, ?_, fun p hp => k _ _ (.p (.list (List.replicate i.toNat ds).flatten)) (Ext.new hp) (new_lst dm hp (ra.rep i.toNat)) h4⟩
  rw [← ra.len]
  exact Nat.le_trans (Nat.mul_le_mul h3 (show i.toNat ≤ 1000 by omega)) (by decide)
theorem cd_maxL (hc : X.calm = true) : CallR X (.builtin "max") (upC (Cx.ky X) fMaxL) := CallR.imp (cr_max hc) fun xs H Q ⟨ds, R, P, dm, r, ⟨ns, e, h0, h⟩, k⟩ => by
  subst e
  obtain ⟨v, rfl, a, xs, e, q, ra⟩ := rvA1 r
  subst e
  have e2 := rpA_ints ra
  subst e2
  exact ⟨a, ns, rfl, SqL.of ((hide_ext P H).lst q), h0, fun m hm hle => k _ H (.p (.int m)) (Ext.refl H) rfl (h m hm hle)⟩
theorem cd_minL (hc : X.calm = true) : CallR X (.builtin "min") (upC (Cx.ky X) fMinL) := CallR.imp (cr_min hc) fun xs H Q ⟨ds, R, P, dm, r, ⟨ns, e, h0, h⟩, k⟩ => by
  subst e
  obtain ⟨v, rfl, a, xs, e, q, ra⟩ := rvA1 r
  subst e
  have e2 := rpA_ints ra
  subst e2
  exact ⟨a, ns, rfl, SqL.of ((hide_ext P H).lst q), h0, fun m hm hle => k _ H (.p (.int m)) (Ext.refl H) rfl (h m hm hle)⟩
end
/-- two texts in a tuple that the module wrote -/
def Wtn (K : PySem.W.Frag) (u : Value) (ys : List Str) : Prop := ∃ a, u = .ref a ∧ ∀ H, SqT K H a (ys.map V.str)
theorem wtn_rv {κ : Ky} {u : Value} {ys : List Str} (h : Wtn κ.K u ys) : ∃ v, RelV v u ∧ ∀ H, Rv κ H (.p (.tuple (ys.map .str))) v := by
  obtain ⟨a, rfl, h⟩ := h
  exact ⟨.ref a, rfl, fun H => ⟨a, ys.map V.str, rfl, h H, rpA_txt ys⟩⟩
theorem de_globT {X : Cx} {x : Str} {u : Value} {ys : List Str} {pos : Pos} (hg : Gl X x) (hm : X.mg x = some u) (h : Wtn X.K u ys) (hd : (x == ("__debug__" : Str)) = false := by decide) : PE X (.Name x pos) (up (Cx.ky X) (dC (.p (.tuple (ys.map .str))))) := by
  obtain ⟨v, r, q⟩ := wtn_rv (κ := Cx.ky X) h
  exact de_glob hg hm r q hd
end MR

/-! < of alike data, while, rstrip, index, displays with stars, lists turned round, pop, sorted lists of texts. -/
namespace MR
open PySem PySem.Spec PyProof.Rows L2
section
variable {X : Cx}
/-- a < b, alike data -/
def fLtA : F2 := fun d e R => asP d fun x => asP e fun y => PySem.W.alike x y = true ∧ x ≠ .none ∧ min x.depth y.depth ≤ 60 ∧ R (.p (.bool (PySem.W.dataLt x y)))
theorem od_ltA (hu : X.A.units + 64 < cLine) : OpR X (compareOp .Lt) (upO (Cx.ky X) fLtA) := by
  intro pins s σ H x y v u Q I rx ry ⟨d, e, R, P, dm, r1, r2, h, k⟩
  obtain ⟨a, rfl, h0⟩ := asP_of h
  obtain ⟨b, rfl, h1, h2, h3, h4⟩ := asP_of h0
  obtain ⟨as, ra, _⟩ := rp_reads dm.1 I r1 rx
  obtain ⟨bs, rb, _⟩ := rp_reads dm.1 I r2 ry
  exact PySem.W.lt_data ra rb h1 h2 (by omega) ⟨.bl _, H, I, rfl, k _ H (.p (.bool (PySem.W.dataLt a b))) (Ext.refl H) rfl h4⟩
end
/-! ### while -/
def dWhile (tc : TB) (tb : TDS) : TDS := fun E δ => ∃ W : Nat → Dn → Prop, (∃ m, W m δ) ∧ ∀ m δ, W m δ → tc δ fun b => if b = true then ∃ N : Dn → Prop, (∀ δ', N δ' → ∃ m', m' < m ∧ W m' δ') ∧ tb { E with nx := N, ct := N, bk := E.nx } δ else E.nx δ
section
variable {X : Cx} {c : Expr} {body : List Stmt} {tc : TB} {tb : TDS} {pos : Pos}
theorem ds_while (hp : PassesOwn (model X.prog X.w) X.A X.env X.xe) (hc : PT X c (upT (Cx.ky X) tc)) (hb : PSs X body (upS (Cx.ky X) tb)) : PS X (.While c body [] pos) (upS (Cx.ky X) (dWhile tc tb)) := by
  refine PS.imp (ps_while hp hc hb) fun D σ H ⟨δ, E, c, L, es, ⟨W, ⟨m0, w0⟩, turn⟩, f⟩ => ?_
  refine ⟨fun m σ H => ∃ δ L, ES (Cx.ky X) c H L δ σ ∧ W m δ, ⟨m0, δ, L, es, w0⟩, fun m σ1 H1 ⟨δ1, L1, es1, w1⟩ => ?_⟩
  refine ⟨δ1, _, c, L1, es1, turn m δ1 w1, fun b H2 x2 h2 => ?_⟩
  cases b with
  | true =>
    rw [if_pos rfl] at h2 ⊢
    obtain ⟨N, hN, h3⟩ := h2
    refine ⟨fun σ' H' => ∃ δ' L', ES (Cx.ky X) c H' L' δ' σ' ∧ N δ', fun σ' H' ⟨δ', L', es', n'⟩ => ?_, ?_⟩
    · obtain ⟨m', hm, w'⟩ := hN δ' n'
      exact ⟨m', hm, δ', L', es', w'⟩
    · exact ⟨δ1, _, c, L1, es1.on x2, h3, ⟨fun δ' σ' H' L' e' n' => ⟨δ', L', e', n'⟩, f.rt, fun δ' σ' H' L' e' n' => f.nx δ' σ' H' L' e' n', fun δ' σ' H' L' e' n' => ⟨δ', L', e', n'⟩⟩⟩
  | false =>
    rw [if_neg Bool.false_ne_true] at h2 ⊢
    exact f.nx δ1 σ1 H2 L1 (es1.on x2) h2
end
/-! ### texts -/
section
variable {X : Cx} {o e : Expr} {to te : TD}
def fRst : F1S := fun a e R => asS e fun b => a.length ≤ sizeLine ∧ R (.p (.str (Txt.rstripChars a b)))
def fSix : F1S := fun a e R => asS e fun b => ∃ i rest, Builtin.Str.occurrences a b 0 a.length 1 = i :: rest ∧ R (.p (.int ((i : Nat) : Int)))
theorem de_rstrip {apos pos : Pos} (ho : PE X o (up (Cx.ky X) to)) (he : PE X e (up (Cx.ky X) te)) (hs : starEach [e] X.env = [(false, eval e X.env)] := by rfl) (hbase : attributeBase o "rstrip" X.env (eval o X.env) = eval o X.env := by rfl) (hline : (apos.endLine == pos.line) = true := by rfl) :
    PE X (.Call (.Attribute o "rstrip" apos) [e] [] pos) (up (Cx.ky X) (dM1 fRst to te)) :=
  de_m1 PySem.F.slot_str_rstrip PySem.F.type_str_rstrip mt_rstripChars (fun a y H Q h => by
    obtain ⟨d, e, R, P, dm, r1, r2, h1, k⟩ := h
    obtain ⟨a', rfl, h2⟩ := asS_of h1
    obtain ⟨b, rfl, hz, h3⟩ := asS_of h2
    have ea : V.str a = .str a' := r1
    cases ea
    exact ⟨a, b, rfl, by rw [show y = .str b from r2], hz, k _ H (.p (.str (Txt.rstripChars a b))) (Ext.refl H) rfl h3⟩) ho he hs hbase hline
theorem de_index {apos pos : Pos} (ho : PE X o (up (Cx.ky X) to)) (he : PE X e (up (Cx.ky X) te)) (hs : starEach [e] X.env = [(false, eval e X.env)] := by rfl) (hbase : attributeBase o "index" X.env (eval o X.env) = eval o X.env := by rfl) (hline : (apos.endLine == pos.line) = true := by rfl) :
    PE X (.Call (.Attribute o "index" apos) [e] [] pos) (up (Cx.ky X) (dM1 fSix to te)) :=
  de_m1 PySem.F.slot_str_index PySem.F.type_str_index mt_sindex (fun a y H Q h => by
    obtain ⟨d, e, R, P, dm, r1, r2, h1, k⟩ := h
    obtain ⟨a', rfl, h2⟩ := asS_of h1
    obtain ⟨b, rfl, i, rest, ho, h3⟩ := asS_of h2
    have ea : V.str a = .str a' := r1
    cases ea
    exact ⟨a, b, i, rest, rfl, by rw [show y = .str b from r2], ho, k _ H (.p (.int ((i : Nat) : Int))) (Ext.refl H) rfl h3⟩) ho he hs hbase hline
end
/-! ### displays with stars -/
theorem rvA_of {κ : Ky} {H : Hp} : ∀ {xs : List PyData} {vs : List V}, RpA κ.K H xs vs → RvA κ H (xs.map .p) vs
  | [], _, h => h
  | _ :: _, _, ⟨v, r, e, h, t⟩ => ⟨v, r, e, h, rvA_of t⟩
def dStar (te : TD) (t : TL) : TL := fun δ R => te δ fun d => asP d fun z => ∃ zs, (z = .tuple zs ∨ z = .list zs) ∧ t δ fun ds => R (zs.map .p ++ ds)
section
variable {X : Cx} {e : Expr} {es : List Expr} {te : TD} {t : TL} {p : Pos}
theorem da_star (he : PE X e (up (Cx.ky X) te)) (hr : PA X es (upA (Cx.ky X) t)) (hs : starEach (.Starred e p :: es) X.env = (true, eval e X.env) :: starEach es X.env := by rfl) : PA X (.Starred e p :: es) (upA (Cx.ky X) (dStar te t)) := by
  refine PA.imp (StX.pa_star he hr hs) fun σ H Q ⟨δ, R, c, L, es, h, k⟩ => ⟨δ, _, c, L, es, h, fun v H1 d x1 r1 h1 => ?_⟩
  obtain ⟨z, rfl, zs, hz, h2⟩ := asP_of h1
  have key : ∃ p xs, v = V.ref p ∧ (SqT X.K H1 p xs ∨ SqL X.K H1 p xs) ∧ RpA X.K (hide (oor c.P L) H1) zs xs := by
    rcases hz with rfl | rfl
    · obtain ⟨a, xs, e, q, ra⟩ := r1
      exact ⟨a, xs, e, .inl ((hide_ext _ _).seqT q), ra⟩
    · obtain ⟨a, xs, e, q, ra⟩ := r1
      exact ⟨a, xs, e, .inr (SqL.of ((hide_ext _ _).lst q)), ra⟩
  obtain ⟨a, xs, e, q, ra⟩ := key
  exact ⟨a, xs, e, q, δ, _, c, L, es.on x1, h2, fun vs H2 ds x2 r2 h3 => k _ H2 _ (x1.trans x2) ((rvA_of (ra.ext (x2.hide _))).app r2) h3⟩
end
/-! ### xs[::-1] -/
theorem RpA.rev {K : PySem.W.Frag} {H : Hp} : ∀ {ds : List PyData} {vs : List V}, RpA K H ds vs → RpA K H ds.reverse vs.reverse
  | [], vs, h => by rw [show vs = [] from h]; rfl
  | d :: ds, _, ⟨v, r, e, h, t⟩ => by
    rw [e, List.reverse_cons, List.reverse_cons]
    exact RpA.app (RpA.rev t) ⟨v, [], rfl, h, rfl⟩
theorem vals_rev : ∀ {xs : List V} {us : List Value}, Vals xs us → Vals xs.reverse us.reverse
  | _, _, .nil => .nil
  | _, _, .cons r t => by
    rw [List.reverse_cons, List.reverse_cons]
    exact (vals_rev t).append (.cons r .nil)
def dRev (te : TD) (ts : TDO) : TD := fun δ R => te δ fun d => asL d fun xs => ts δ fun o => o = some (-1) ∧ R (.p (.list xs.reverse))
section
variable {X : Cx} {e st : Expr} {te : TD} {ts : TDO} {p2 pos : Pos}
theorem de_rev (he : PE X e (up (Cx.ky X) te)) (hst : PO X (some st) (upP (Cx.ky X) ts)) : PE X (.Subscript e (.Slice none none (some st) p2) pos) (up (Cx.ky X) (dRev te ts)) := by
  refine ⟨fun pins s σ H Q I ⟨δ, R, c, L, es, h, k⟩ => ?_⟩
  refine Subscript_ (thn (he.run pins s σ H (fun x H1 => ∃ xs, Ext H H1 ∧ Rp X.K (hide (oor c.P L) H1) (.list xs) x ∧ ts δ fun o => o = some (-1) ∧ R (.p (.list xs.reverse))) I ⟨δ, _, c, L, es, h, fun v H1 d x1 r1 h1 => ?_⟩) fun v s1 ⟨x, H1, I1, r1, q1⟩ => ?_)
  · obtain ⟨xs, rfl, h2⟩ := asL_of h1
    exact ⟨xs, x1, r1, h2⟩
  obtain ⟨xs, x1, rx, h2⟩ := q1
  refine wpAny_Slice ?_
  rw [evalPart_none]
  refine wpAny_pure ?_
  refine wpAny_pure ?_
  refine thn (hst.run pins s1 σ H1 (fun o H2 => Ext H1 H2 ∧ o = some (-1) ∧ R (.p (.list xs.reverse))) I1 ⟨δ, _, c, L, es.on x1, h2, fun o H2 x2 h3 => ⟨x2, h3⟩⟩) fun vs s3 ⟨o, H3, I3, ps, x3, eo, q3⟩ => ?_
  subst eo
  have I4 : Inv X pins σ H3 { s3 with heap := s3.heap.push { cls := .type "slice", data := .fields #[.none, .none, vs] } } := I3.kept (t' := s3.toks) fun b ob q => Heap.get?_push_of_some _ q
  obtain ⟨a, us, e1, q, ra⟩ := rx.ext (x3.hide (oor c.P L))
  subst e1
  cases r1
  have q' : SqL X.K H3 a us := SqL.of ((hide_ext _ _).lst q)
  obtain ⟨its, rv, hl, hz⟩ := I4.list q'
  have hlen := rv.length
  show wpAny (model X.prog X.w) X.A (subscriptTail e (.Slice none none (some st) p2) (.ref a) (.ref s3.heap.objs.size)) (EP X pins σ Q) X.xe { s3 with heap := s3.heap.push { cls := .type "slice", data := .fields #[.none, .none, vs] } }
  refine tail_any (ops := [.ref a, .ref s3.heap.objs.size]) hl.isList.typeIs slot_list_getitem.lookup ?_ (by with_unfolding_all rfl)
  refine wpAny_getItem_list_slice hl.isList (Heap.IsSliceOf.new ..) .none .none ps (by decide) ?_ (by rw [List.size_toArray] <;> omega)
  rw [PySem.W.krv_pick]
  have hf : H3 { s3 with heap := s3.heap.push { cls := .type "slice", data := .fields #[.none, .none, vs] } }.heap.objs.size = none := I4.hok.fresh (Nat.le_refl _)
  refine ⟨.ref _, upd H3 _ (.lst us.reverse), I4.laid (t' := s3.toks) (o := .lst us.reverse) (fun b ob q => Heap.get?_push_of_some _ q) (Nat.le_refl _) ?_, rfl, ?_⟩
  · exact ⟨by rw [List.length_reverse]; exact hz, its.reverse, 0, vals_rev rv, Heap.get?_push_size _ rfl⟩
  · exact k _ _ (.p (.list xs.reverse)) (x1.trans (x3.trans (Ext.new hf))) (new_lst (es.on (x1.trans x3)).dom hf ra.rev) q3
end
/-! ### sorted(xs), fewer than 64 texts -/
def fSortL : FL := fun ds R => ∃ xs : List Str, ds = [.p (.list (xs.map .str))] ∧ xs.length < 64 ∧ ∀ ys : List Str, ys.Perm xs → sortedS ys = true → R (.p (.list (ys.map .str)))
section
variable {X : Cx}
theorem cd_sortL : CallR X (.builtin "sorted") (upC (Cx.ky X) fSortL) := CallR.imp cr_sortedS fun xs H Q ⟨ds, R, P, dm, r, ⟨ys, e, hz, h⟩, k⟩ => by
  subst e
  obtain ⟨v, rfl, a, us, rfl, q, ra⟩ := rvA1 r
  have eu := rpA_strs ra
  subst eu
  exact ⟨a, ys, rfl, SqL.of ((hide_ext P H).lst q), hz, fun zs p hp hs hn => k _ _ (.p (.list (zs.map .str))) (Ext.new hn) (new_lst dm hn (rpA_txt _)) (h zs hp hs)⟩
end
/-! ### lists of one slot: their length, joined, popped from -/
def dLenO (i : Nat) : TD := fun δ R => match δ.getD i .un with
  | .own ds => ds.length ≤ sizeLine ∧ R (.p (.int (ds.length : Int)))
  | _ => False
def dCatO (i : Nat) (tb : TD) : TD := fun δ R => match δ.getD i .un with
  | .own ds => tb δ fun e => asL e fun ys => ds.length + ys.length ≤ sizeLine ∧ R (.p (.list (ds ++ ys)))
  | _ => False
def dPop (i : Nat) (t : TD) : TDS := fun E δ => match δ.getD i .un with
  | .own ds => t δ fun d => asI d fun z => ∃ k, seqIndex? z ds.length = some k ∧ k < ds.length ∧ 0 ≤ z ∧ z < 2 ^ 62 ∧ E.nx (δ.set i (.own (ds.eraseIdx k)))
  | _ => False
theorem RpA.erase {K : PySem.W.Frag} {H : Hp} : ∀ {ds : List PyData} {vs : List V} (n : Nat), RpA K H ds vs → RpA K H (ds.eraseIdx n) (vs.eraseIdx n)
  | [], vs, n, h => by rw [show vs = [] from h]; rfl
  | _ :: _, _, 0, ⟨v, r, e, h, t⟩ => by rw [e]; exact t
  | _ :: _, _, n + 1, ⟨v, r, e, h, t⟩ => by rw [e]; exact ⟨v, _, rfl, h, RpA.erase n t⟩
section
variable {X : Cx} {e a b : Expr} {ta tb te : TD} {pos p npos : Pos} {x y : Str} {i : Nat}
theorem de_lenO (hv : PE X (.Name x npos) (tVar i)) (hg : Gl X "len") (hm : X.mg "len" = none) : PE X (.Call (.Name "len" p) [.Name x npos] [] pos) (up (Cx.ky X) (dLenO i)) := by
  refine PE.imp (pe_callB call_len hg hm (by decide +kernel) (pa_cons hv pa_nil)) fun σ H Q ⟨δ, R, c, L, es, h, k⟩ => ?_
  unfold dLenO at h
  cases q : δ.getD i .un with
  | un => rw [q] at h; exact h.elim
  | v d => rw [q] at h; exact h.elim
  | own ds =>
    rw [q] at h
    obtain ⟨a, xs, e1, la, ea, ra⟩ := es.own i ds (getD_own q)
    exact ⟨.ref a, e1, .ref a, ds.length, rfl, .inl ⟨xs, SqL.of ea, ra.len⟩, k _ H (.p (.int ds.length)) (Ext.refl H) rfl h.2⟩
theorem df_catO (ha : PE X a (tVar i)) (hb : PE X b (up (Cx.ky X) tb)) : PE X (.BinOp a .Add b pos) (upF (Cx.ky X) (dCatO i tb)) := by
  refine PE.imp (pe_op op_cat ha hb) fun σ H Q ⟨δ, R, c, L, es, h, k⟩ => ?_
  unfold dCatO at h
  cases q : δ.getD i .un with
  | un => rw [q] at h; exact h.elim
  | v d => rw [q] at h; exact h.elim
  | own ds =>
    rw [q] at h
    obtain ⟨a, xs, e1, la, ea, ra⟩ := es.own i ds (getD_own q)
    refine ⟨.ref a, e1, δ, _, c, L, es, h, fun u H2 e x2 r2 h2 => ?_⟩
    obtain ⟨ys, rfl, hz, h4⟩ := asL_of h2
    obtain ⟨q, ws, e2, q2, rb⟩ := r2
    have ra' := ra.ext (x2.hide (oor c.P L))
    refine ⟨a, q, xs, ws, rfl, e2, x2.lst ea, (hide_ext _ _).lst q2, by rw [← ra.len, ← rb.len]; exact hz, fun n hn => ?_⟩
    exact k n _ (ds ++ ys) (xs ++ ws) (x2.trans (Ext.new hn)) (x2.none hn) upd_same ((ra'.app rb).ext (xplus (κ := Cx.ky X) (c := c) hn)) h4
theorem ds_pop {apos cpos : Pos} (hv : PE X (.Name x npos) (tVar i)) (he : PE X e (up (Cx.ky X) te))
    (h : ∀ {ta : TA}, PA X [e] ta → PS X (.Expr (.Call (.Attribute (.Name x npos) "pop" apos) [e] [] cpos) pos) (tDrop (tBM X.K "list" rPopAt (tVar i) ta)))
    (hs : starEach [e] X.env = (false, eval e X.env) :: starEach [] X.env := by rfl) : PS X (.Expr (.Call (.Attribute (.Name x npos) "pop" apos) [e] [] cpos) pos) (upS (Cx.ky X) (dPop i te)) := by
  refine PS.imp (h (da_cons he da_nil hs)) fun D σ H ⟨δ, E, c, L, es, h, f⟩ => ?_
  unfold dPop at h
  cases q : δ.getD i .un with
  | un => rw [q] at h; exact h.elim
  | v d => rw [q] at h; exact h.elim
  | own ds =>
    rw [q] at h
    have ho := getD_own q
    obtain ⟨a, xs, e1, la, ea, ra⟩ := es.own i ds ho
    refine ⟨.ref a, e1, .inl ⟨rfl, _, .inl (.inl ea)⟩, δ, fun ds' => (match ds' with | [d] => asI d fun z => ∃ k, seqIndex? z ds.length = some k ∧ k < ds.length ∧ 0 ≤ z ∧ z < 2 ^ 62 ∧ E.nx (δ.set i (.own (ds.eraseIdx k))) | _ => False), c, L, es, h, fun vs H1 ds' x1 r1 h1 => ?_⟩
    obtain ⟨z, rfl, k, hk, hlt, h0, hz, h2⟩ : ∃ z, ds' = [.p (.int z)] ∧ ∃ k, seqIndex? z ds.length = some k ∧ k < ds.length ∧ 0 ≤ z ∧ z < 2 ^ 62 ∧ E.nx (δ.set i (.own (ds.eraseIdx k))) := by
      match ds', h1 with
      | [d], h1 =>
        obtain ⟨z, rfl, h2⟩ := asI_of h1
        exact ⟨z, rfl, h2⟩
    obtain ⟨v, rfl, rv⟩ := rvA1 r1
    have ev : v = .int z := rv
    subst ev
    have es1 := es.on x1
    have hl := ra.len
    obtain ⟨w, hw⟩ : ∃ w, xs[k]? = some w := ⟨_, List.getElem?_eq_getElem (by omega)⟩
    exact ⟨a, xs, z, k, w, rfl, rfl, x1.lst ea, by omega, by omega, by rw [← hl]; exact hk, hw, f.nx _ _ _ L (es1.put ho e1 ((ra.ext (x1.hide _)).erase k)) h2⟩
end
end MR

namespace MR
open PySem PySem.Spec PyProof.Rows L2
def topS (i : Nat) : Stmt := PySem.Challenge.pw_mailrings_k02_order_and_strange_names.main.body.getD i (.Pass ⟨0, 0, 0, 0⟩)
abbrev s_message_key : Stmt := topS 3
theorem sc_message_key : FnScope ["message", "sender", "address", "subject", "marks"] ["message"] (defScope s_message_key) := ⟨rfl, rfl, rfl, by decide +kernel, rfl, by decide +kernel, by decide +kernel⟩
abbrev s_next_name : Stmt := topS 4
theorem sc_next_name : FnScope ["name", "stem"] ["name"] (defScope s_next_name) := ⟨rfl, rfl, rfl, by decide +kernel, rfl, by decide +kernel, by decide +kernel⟩
abbrev s_strange_name : Stmt := topS 5
theorem sc_strange_name : FnScope ["names", "taken", "name"] ["names"] (defScope s_strange_name) := ⟨rfl, rfl, rfl, by decide +kernel, rfl, by decide +kernel, by decide +kernel⟩
abbrev s_with_mark : Stmt := topS 6
theorem sc_with_mark : FnScope ["marks", "mark"] ["marks", "mark"] (defScope s_with_mark) := ⟨rfl, rfl, rfl, by decide +kernel, rfl, by decide +kernel, by decide +kernel⟩
abbrev s_w_well : Stmt := topS 8
theorem sc_w_well : FnScope ["script", "start", "mixed", "entry", "digits"] ["script", "start"] (defScope s_w_well) := ⟨rfl, rfl, rfl, by decide +kernel, rfl, by decide +kernel, by decide +kernel⟩
abbrev s_w_draw : Stmt := topS 9
theorem sc_w_draw : FnScope ["well", "many", "found"] ["well", "many"] (defScope s_w_draw) := ⟨rfl, rfl, rfl, by decide +kernel, rfl, by decide +kernel, by decide +kernel⟩
abbrev s_w_choose : Stmt := topS 10
theorem sc_w_choose : FnScope ["well", "things"] ["well", "things"] (defScope s_w_choose) := ⟨rfl, rfl, rfl, by decide +kernel, rfl, by decide +kernel, by decide +kernel⟩
abbrev s_w_before : Stmt := topS 11
theorem sc_w_before : FnScope ["one", "other", "rows", "first", "second"] ["one", "other"] (defScope s_w_before) := ⟨rfl, rfl, rfl, by decide +kernel, rfl, by decide +kernel, by decide +kernel⟩
abbrev s_w_strange : Stmt := topS 12
theorem sc_w_strange : FnScope ["names", "name", "kept", "letters"] ["names"] (defScope s_w_strange) := ⟨rfl, rfl, rfl, by decide +kernel, rfl, by decide +kernel, by decide +kernel⟩
abbrev s_w_one : Stmt := topS 13
theorem sc_w_one : FnScope ["well", "subject", "marks"] ["well"] (defScope s_w_one) := ⟨rfl, rfl, rfl, by decide +kernel, rfl, by decide +kernel, by decide +kernel⟩
abbrev s_law : Stmt := topS 14
theorem sc_law : FnScope ["script", "start", "well", "some", "turn", "one", "other", "names", "count", "seen", "due", "marks", "mark", "many", "sign", "line"] ["script"] (defScope s_law) := ⟨rfl, rfl, rfl, by decide +kernel, rfl, by decide +kernel, by decide +kernel⟩
theorem bt_int : bootBuiltins "int" = some (.type "int") := by decide +kernel
theorem bt_isinstance : bootBuiltins "isinstance" = some (.builtin "isinstance") := by decide +kernel
theorem bt_len : bootBuiltins "len" = some (.builtin "len") := by decide +kernel
theorem bt_list : bootBuiltins "list" = some (.type "list") := by decide +kernel
theorem bt_max : bootBuiltins "max" = some (.builtin "max") := by decide +kernel
theorem bt_min : bootBuiltins "min" = some (.builtin "min") := by decide +kernel
theorem bt_range : bootBuiltins "range" = some (.type "range") := by decide +kernel
theorem bt_repr : bootBuiltins "repr" = some (.builtin "repr") := by decide +kernel
theorem bt_set : bootBuiltins "set" = some (.type "set") := by decide +kernel
theorem bt_sorted : bootBuiltins "sorted" = some (.builtin "sorted") := by decide +kernel
theorem bt_tuple : bootBuiltins "tuple" = some (.type "tuple") := by decide +kernel
structure Tx (K : PySem.W.Frag) (mg : Str → Option Value) where
  a_message_key : Addr
  d_message_key : FuncData
  F_message_key : Fun K "message_key" "message_key" s_message_key a_message_key d_message_key
  b_message_key : Binds K d_message_key ["message"] []
  m_message_key : mg "message_key" = some (.ref a_message_key)
  a_next_name : Addr
  d_next_name : FuncData
  F_next_name : Fun K "next_name" "next_name" s_next_name a_next_name d_next_name
  b_next_name : Binds K d_next_name ["name"] []
  m_next_name : mg "next_name" = some (.ref a_next_name)
  a_strange_name : Addr
  d_strange_name : FuncData
  F_strange_name : Fun K "strange_name" "strange_name" s_strange_name a_strange_name d_strange_name
  b_strange_name : Binds K d_strange_name ["names"] []
  m_strange_name : mg "strange_name" = some (.ref a_strange_name)
  a_with_mark : Addr
  d_with_mark : FuncData
  F_with_mark : Fun K "with_mark" "with_mark" s_with_mark a_with_mark d_with_mark
  b_with_mark : Binds K d_with_mark ["marks", "mark"] []
  m_with_mark : mg "with_mark" = some (.ref a_with_mark)
  a_w_well : Addr
  d_w_well : FuncData
  F_w_well : Fun K "_law_well" "_law_well" s_w_well a_w_well d_w_well
  b_w_well : Binds K d_w_well ["script", "start"] []
  m_w_well : mg "_law_well" = some (.ref a_w_well)
  a_w_draw : Addr
  d_w_draw : FuncData
  F_w_draw : Fun K "_law_draw" "_law_draw" s_w_draw a_w_draw d_w_draw
  b_w_draw : Binds K d_w_draw ["well", "many"] []
  m_w_draw : mg "_law_draw" = some (.ref a_w_draw)
  a_w_choose : Addr
  d_w_choose : FuncData
  F_w_choose : Fun K "_law_choose" "_law_choose" s_w_choose a_w_choose d_w_choose
  b_w_choose : Binds K d_w_choose ["well", "things"] []
  m_w_choose : mg "_law_choose" = some (.ref a_w_choose)
  a_w_before : Addr
  d_w_before : FuncData
  F_w_before : Fun K "_law_before" "_law_before" s_w_before a_w_before d_w_before
  b_w_before : Binds K d_w_before ["one", "other"] []
  m_w_before : mg "_law_before" = some (.ref a_w_before)
  a_w_strange : Addr
  d_w_strange : FuncData
  F_w_strange : Fun K "_law_strange" "_law_strange" s_w_strange a_w_strange d_w_strange
  b_w_strange : Binds K d_w_strange ["names"] []
  m_w_strange : mg "_law_strange" = some (.ref a_w_strange)
  a_w_one : Addr
  d_w_one : FuncData
  F_w_one : Fun K "_law_one" "_law_one" s_w_one a_w_one d_w_one
  b_w_one : Binds K d_w_one ["well"] []
  m_w_one : mg "_law_one" = some (.ref a_w_one)
  n_int : mg "int" = none
  n_isinstance : mg "isinstance" = none
  n_len : mg "len" = none
  n_list : mg "list" = none
  n_max : mg "max" = none
  n_min : mg "min" = none
  n_range : mg "range" = none
  n_repr : mg "repr" = none
  n_set : mg "set" = none
  n_sorted : mg "sorted" = none
  n_tuple : mg "tuple" = none
  t_LETTERS : Tok
  c_LETTERS : mg "LETTERS" = some (.str "abcdefghijklmnopqrstuvwxyz" t_LETTERS)
  t_MOST_LETTERS : Tok
  c_MOST_LETTERS : mg "MOST_LETTERS" = some (.int 12 t_MOST_LETTERS)
def okC (c : Nat) : Bool := decide (32 ≤ c) && decide (c ≤ 126) && !decide (c = 37)
def loC (c : Nat) : Bool := decide (97 ≤ c) && decide (c ≤ 122)
def isName (d : PyData) : Bool := match d with
  | .str x => decide (1 ≤ x.length) && decide (x.length ≤ 12) && x.cps.toList.all loC
  | _ => false
def isSubj (d : PyData) : Bool := match d with
  | .str x => x.cps.toList.all okC
  | _ => false
def isTxt (d : PyData) : Bool := match d with
  | .str x => isSubj (.str x) && decide (1 ≤ x.length) && decide (x.length ≤ 8)
  | _ => false
def risB : List PyData → Bool
  | .str x :: .str y :: r => ltS x y && risB (.str y :: r)
  | _ => true
def isNT (d : PyData) : Bool := match d with
  | .tuple xs => xs.all isName && risB xs
  | _ => false
def isMsg (d : PyData) : Bool := match d with
  | .tuple [a, b, c, m] => isName a && isName b && isSubj c && isNT m
  | _ => false
abbrev Wt (d : PyData) : Prop := d.weight ≤ 4000
def gP (f : PyData → Bool) : FL := fun ds R => ∃ d, ds = [.p d] ∧ Wt d ∧ R (.p (.bool (f d)))
def gCode : FL := fun ds R => ∃ c : Nat, ds = [.p (.int c)] ∧ R (.p (.bool (okC c)))
theorem leS_1 {a b : Nat} : leS ⟨#[a]⟩ ⟨#[b]⟩ = decide (a ≤ b) := by
  unfold leS
  have e : ([b] < [a]) ↔ b < a := by
    rw [List.cons_lt_cons_iff]
    simp
  show (!decide ([b] < [a])) = _
  by_cases h : b < a
  · rw [decide_eq_true (e.mpr h), decide_eq_false (by omega)]
    rfl
  · rw [decide_eq_false (fun z => h (e.mp z)), decide_eq_true (by omega)]
    rfl
theorem wt_str {x : Str} (h : Wt (.str x)) : x.length ≤ 4000 := by
  have h' : PyData.weight (.str x) ≤ 4000 := h
  rw [show PyData.weight (.str x) = x.cps.size by simp only [PyData.weight]] at h'
  exact h'
theorem big {n : Nat} (h : n ≤ 4000) : n ≤ sizeLine := Nat.le_trans h (by decide)
theorem signs_len (x : Str) : (signsD x).length = x.length := by
  unfold signsD
  rw [List.length_map, Array.length_toList]
  rfl
theorem mem_signs {x : Str} {d : PyData} (h : d ∈ signsD x) : ∃ c ∈ x.cps.toList, d = .str ⟨#[c]⟩ := by
  unfold signsD at h
  obtain ⟨c, hc, e⟩ := List.mem_map.mp h
  exact ⟨c, hc, e.symm⟩
theorem all_signs {x : Str} {q : PyData → Bool} {p : Nat → Bool} (e : ∀ c, q (.str ⟨#[c]⟩) = p c) : (signsD x).all q = x.cps.toList.all p := by
  unfold signsD
  rw [List.all_map]
  congr 1
  funext c
  exact e c
theorem all_map_of {ds : List PyData} {q : PyData → Bool} {R : DV → Prop} (h : R (.p (.bool (ds.all q)))) : fAll [.p (.list (ds.map fun d => .bool (q d)))] R := ⟨ds.map q, by rw [List.map_map]; rfl, by rw [List.all_map]; exact h⟩
theorem s_a : (Str.ofString "a") = ⟨#[97]⟩ := by decide +kernel
theorem s_z : (Str.ofString "z") = ⟨#[122]⟩ := by decide +kernel
theorem s_sp : (Str.ofString " ") = ⟨#[32]⟩ := by decide +kernel
theorem s_ti : (Str.ofString "~") = ⟨#[126]⟩ := by decide +kernel
def sg1 (p : Nat → Bool) (d : PyData) : Bool := match d with
  | .str x => (match x.cps.toList with | [c] => p c | _ => false)
  | _ => false
abbrev loD := sg1 loC
abbrev okD' := sg1 okC
theorem emp_fm {ds : List PyData} {q : PyData → Bool} : (ds.filterMap fun d => if q d = true then none else some d).isEmpty = ds.all q := by
  induction ds with
  | nil => rfl
  | cons d ds ih =>
    cases e : q d with
    | true => rw [List.filterMap_cons_none (by simp [e]), ih, List.all_cons, e, Bool.true_and]
    | false => rw [List.filterMap_cons_some (b := d) (by simp [e]), List.all_cons, e]; rfl
theorem isName_str {x : Str} (h : isName (.str x) = true) : x.length ≤ 12 := by
  simp only [isName, Bool.and_eq_true, decide_eq_true_eq] at h
  exact h.1.2
theorem wt_mem {x : PyData} : ∀ {xs : List PyData}, x ∈ xs → x.weight + 1 ≤ PyData.weightAll xs
  | [], h => absurd h List.not_mem_nil
  | y :: ys, h => by
    rw [show PyData.weightAll (y :: ys) = y.weight + 1 + PyData.weightAll ys by simp only [PyData.weightAll]]
    rcases List.mem_cons.mp h with e | m
    · rw [e]; omega
    · have := wt_mem m; omega
theorem wt_len : ∀ xs : List PyData, xs.length ≤ PyData.weightAll xs
  | [] => Nat.zero_le _
  | y :: ys => by
    rw [show PyData.weightAll (y :: ys) = y.weight + 1 + PyData.weightAll ys by simp only [PyData.weightAll], List.length_cons]
    have := wt_len ys
    omega
theorem wt_tup {xs : List PyData} (h : Wt (.tuple xs)) : PyData.weightAll xs ≤ 4000 := by
  have h' : PyData.weight (.tuple xs) ≤ 4000 := h
  rw [show PyData.weight (.tuple xs) = PyData.weightAll xs by simp only [PyData.weight]] at h'
  exact h'
theorem wt_in {xs : List PyData} {x : PyData} (h : Wt (.tuple xs)) (m : x ∈ xs) : Wt x := by
  have := wt_tup h
  have := wt_mem m
  show x.weight ≤ 4000
  omega
theorem all_sorted {x : Str} {zs : List Str} {p : Nat → Bool} (hm : ∀ y, y ∈ zs ↔ y ∈ x.cps.toList.map fun c => (⟨#[c]⟩ : Str)) : (zs.map PyData.str).all (sg1 p) = x.cps.toList.all p := by
  rw [Bool.eq_iff_iff, List.all_eq_true, List.all_eq_true]
  constructor
  · intro h c hc
    exact h (.str ⟨#[c]⟩) (List.mem_map.mpr ⟨_, (hm _).mpr (List.mem_map.mpr ⟨c, hc, rfl⟩), rfl⟩)
  · intro h d hd
    obtain ⟨y, hy, rfl⟩ := List.mem_map.mp hd
    obtain ⟨c, hc, rfl⟩ := List.mem_map.mp ((hm y).mp hy)
    exact h c hc
theorem cut_from {xs : List PyData} (k : Nat) : cutD xs (some (k : Int)) none = xs.drop k := by
  unfold cutD
  rw [HT.sIx_nat, HT.sIx_none]
  by_cases h : k ≤ xs.length
  · rw [Nat.min_eq_left h]
    exact List.take_of_length_le (by rw [List.length_drop]; exact Nat.le_refl _)
  · rw [Nat.min_eq_right (by omega), Nat.sub_self, List.take_zero, List.drop_eq_nil_of_le (by omega)]
theorem cut_to {xs : List PyData} (k : Nat) : cutD xs none (some (k : Int)) = xs.take k := by
  unfold cutD
  rw [HT.sIx_nat, HT.sIx_none, List.drop_zero, Nat.sub_zero]
  by_cases h : k ≤ xs.length
  · rw [Nat.min_eq_left h]
  · rw [Nat.min_eq_right (by omega), List.take_length, List.take_of_length_le (by omega)]
def prB (d : PyData) : Bool := match d with
  | .tuple [.str a, .str b] => ltS a b
  | _ => false
theorem name_str {d : PyData} (h : isName d = true) : ∃ x, d = .str x := by
  cases d with
  | str x => exact ⟨x, rfl⟩
  | _ => exact Bool.noConfusion h
theorem mem_pairs {d : PyData} : ∀ {xs ys : List PyData}, d ∈ pairsD xs ys → ∃ a ∈ xs, ∃ b ∈ ys, d = .tuple [a, b]
  | [], _, h => absurd h List.not_mem_nil
  | _ :: _, [], h => absurd h List.not_mem_nil
  | x :: xs, y :: ys, h => by
    rcases List.mem_cons.mp (show d ∈ PyData.tuple [x, y] :: pairsD xs ys from h) with e | m
    · exact ⟨x, List.mem_cons_self, y, List.mem_cons_self, e⟩
    · obtain ⟨a, ha, b, hb, e⟩ := mem_pairs m
      exact ⟨a, List.mem_cons_of_mem _ ha, b, List.mem_cons_of_mem _ hb, e⟩
theorem all_pairs : ∀ {xs : List PyData}, xs.all isName = true → (pairsD xs (xs.drop 1)).all prB = risB xs
  | [], _ => rfl
  | [x], h => by
    obtain ⟨a, rfl⟩ := name_str (List.all_eq_true.mp h x List.mem_cons_self)
    rfl
  | x :: y :: r, h => by
    rw [List.all_cons, Bool.and_eq_true] at h
    obtain ⟨a, rfl⟩ := name_str h.1
    obtain ⟨b, rfl⟩ := name_str (List.all_eq_true.mp h.2 y List.mem_cons_self)
    have ih := all_pairs h.2
    show (prB (.tuple [.str a, .str b]) && (pairsD (.str b :: r) ((PyData.str b :: r).drop 1)).all prB) = (ltS a b && risB (.str b :: r))
    rw [ih]
    rfl
theorem risB_iff : ∀ {xs : List Str}, risB (xs.map .str) = true ↔ RisS xs
  | [] => ⟨fun _ => List.Pairwise.nil, fun _ => rfl⟩
  | [x] => ⟨fun _ => List.pairwise_singleton _ _, fun _ => rfl⟩
  | x :: y :: r => by
    have ih := risB_iff (xs := y :: r)
    show (ltS x y && risB ((y :: r).map .str)) = true ↔ _
    rw [Bool.and_eq_true, ih]
    constructor
    · rintro ⟨h1, h2⟩
      have h1 : x.cps.toList < y.cps.toList := of_decide_eq_true h1
      refine List.Pairwise.cons (fun z hz => ?_) h2
      rcases List.mem_cons.mp hz with e | m
      · rw [e]; exact h1
      · exact Std.lt_trans h1 ((List.pairwise_cons.mp h2).1 z m)
    · intro h
      obtain ⟨h1, h2⟩ := List.pairwise_cons.mp h
      exact ⟨decide_eq_true (h1 y List.mem_cons_self), h2⟩
theorem names_strs : ∀ {xs : List PyData}, xs.all isName = true → ∃ ks : List Str, xs = ks.map .str
  | [], _ => ⟨[], rfl⟩
  | x :: xs, h => by
    rw [List.all_cons, Bool.and_eq_true] at h
    obtain ⟨a, rfl⟩ := name_str h.1
    obtain ⟨ks, rfl⟩ := names_strs h.2
    exact ⟨a :: ks, rfl⟩
theorem isMsg_not {xs : List PyData} (h : xs.length ≠ 4) : isMsg (.tuple xs) = false := by
  match xs, h with
  | [], _ => rfl
  | [_], _ => rfl
  | [_, _], _ => rfl
  | [_, _, _], _ => rfl
  | [_, _, _, _], h => exact absurd rfl h
  | _ :: _ :: _ :: _ :: _ :: _, _ => rfl
theorem eqv_int {a b : Int} : PyData.eqv (.int a) (.int b) = decide (a = b) := by
  simp only [PyData.eqv]
  by_cases z : a = b
  · subst z; rw [decide_eq_true rfl]; exact beq_self_eq_true a
  · rw [decide_eq_false z]
    exact beq_eq_false_iff_ne.mpr z
theorem plain_strs (ks : List Str) : (PyData.list (ks.map .str)).plain = true := by
  simp only [PyData.plain]
  induction ks with
  | nil => rfl
  | cons k ks ih => simp only [List.map_cons, PyData.plainAll, PyData.plain, ih, Bool.true_and]
theorem depthAll_strs (ks : List Str) : PyData.depthAll (ks.map .str) = 0 := by
  induction ks with
  | nil => rfl
  | cons k ks ih => simp only [List.map_cons, PyData.depthAll, PyData.depth, ih, Nat.max_self]
theorem depth_strs (ks : List Str) : (PyData.list (ks.map .str)).depth = 1 := by
  simp only [PyData.depth, depthAll_strs]
theorem eqvAll_strs : ∀ ks zs : List Str, PyData.eqvAll (ks.map .str) (zs.map .str) = decide (ks = zs)
  | [], [] => rfl
  | [], z :: zs => rfl
  | k :: ks, [] => rfl
  | k :: ks, z :: zs => by
    simp only [List.map_cons, PyData.eqvAll, PyData.eqv, eqvAll_strs ks zs]
    by_cases h : k = z
    · subst h
      simp
    · simp [h]
theorem eqv_strs (ks zs : List Str) : PyData.eqv (.list (ks.map .str)) (.list (zs.map .str)) = decide (ks = zs) := by
  simp only [PyData.eqv, eqvAll_strs]
theorem ris_dec {ks zs : List Str} (hr : RisS zs) (hm : ∀ x, x ∈ zs ↔ x ∈ ks) : decide (ks = zs) = risB (ks.map .str) := by
  rw [Bool.eq_iff_iff, risB_iff, decide_eq_true_iff]
  exact ⟨fun e => e ▸ hr, fun h => risS_one h hr fun x => (hm x).symm⟩
/-- a drawn number: any below m -/
def gDraw : FL := fun ds R => ∃ m : Int, ds = [.well, .p (.int m)] ∧ 0 < m ∧ m < 1000000 ∧ ∀ k : Nat, (k : Int) < m → R (.p (.int k))
def gWell : FL := fun ds R => ∃ (ns : List Int) (a : Nat), ds = [.scr ns, .p (.int a)] ∧ ns.length ≤ 63 ∧ (∀ n ∈ ns, Bd 1048576 n) ∧ a ≤ 63 ∧ R .well
def gChoose : FL := fun ds R => ∃ xs : List PyData, ds = [.well, .p (.list xs)] ∧ 0 < xs.length ∧ xs.length < 1000000 ∧ ∀ x ∈ xs, R (.p x)
theorem bd32 {n : Nat} {i : Int} (h : i.natAbs < 4294967296) (hn : 32 ≤ n := by decide) : Bd n i := ⟨32, by decide, hn, h⟩
theorem bd64 {n : Nat} {i : Int} (h : i.natAbs < 18446744073709551616) (hn : 64 ≤ n := by decide) : Bd n i := ⟨64, by decide, hn, h⟩
structure Gd (n m : Nat) (d : PyData) : Prop where
  lf : d.leavesShort 64 = true
  sh : d.showable = true
  wt : d.weight ≤ n
  dp : d.depth ≤ m
theorem no_depth {xs : List PyData} (h : (PyData.tuple xs).depth ≤ 0) : False := by
  rw [show (PyData.tuple xs).depth = PyData.depthAll xs + 1 by simp only [PyData.depth]] at h
  omega
theorem Gd.shows {n m : Nat} {d : PyData} (g : Gd n m d) (hn : n ≤ 100000) (hm : m ≤ 90) : Shows d := ⟨g.sh, by
  have := PyData.shown_le 64 (by decide) d g.lf
  have := g.wt
  refine Nat.le_trans ‹d.shown.length ≤ _› (Nat.le_trans (Nat.add_le_add_right (Nat.mul_le_mul (Nat.le_refl _) (Nat.le_trans g.wt hn)) _) (by decide)), Nat.le_trans g.dp (by omega)⟩
def contD (d : PyData) : Prop := (∃ xs, d = .list xs) ∨ (∃ xs, d = .tuple xs)
def gBent (n : Nat) : FL := fun ds R => ∃ (xs : List PyData) (m : Nat), ds = [.well, .p (.tuple xs)] ∧ Gd m n (.tuple xs) ∧ m ≤ 3000 ∧ ∀ d, Gd (m + 600) (n + 1) d → contD d → R (.p d)
def anyL : List PyData := [.none, .bool true, .bool false, .int 0, .int 1, .int (-1), .int (10 ^ Int.toNat 59), .str (Str.ofString ""), .str (Str.ofString "a"), .str (Str.ofString "A"), .str (Str.ofString "a b"), .str (Str.ofString "abcdefghijkl"), .str (Str.ofString "abcdefghijklm"), .str (Str.ofString "a\n"), .str (Str.ofString "\t"), .str (Str.ofString "12345678"), .str (Str.ofString "123456789"), .tuple [], .tuple [.str (Str.ofString "a")], .tuple [.str (Str.ofString "b"), .str (Str.ofString "a")], .tuple [.str (Str.ofString "a"), .str (Str.ofString "a")], .list [.str (Str.ofString "a")], .list [], .dict [], .tuple [.str (Str.ofString "a"), .str (Str.ofString "b")], .str (Txt.mul (Str.ofString "~") 40)]
theorem cut_from1 {xs : List PyData} (k : Nat) : cutD xs (some ((k : Int) + 1)) none = xs.drop (k + 1) := cut_from (k + 1)
theorem lf_all {B : Nat} : ∀ xs : List PyData, PyData.leavesShortAll B xs = xs.all (PyData.leavesShort B)
  | [] => rfl
  | x :: xs => by simp only [PyData.leavesShortAll, List.all_cons, lf_all xs]
theorem sh_all : ∀ xs : List PyData, PyData.showableAll xs = xs.all PyData.showable
  | [] => rfl
  | x :: xs => by simp only [PyData.showableAll, List.all_cons, sh_all xs]
theorem dp_all {k : Nat} : ∀ {xs : List PyData}, PyData.depthAll xs ≤ k ↔ ∀ x ∈ xs, x.depth ≤ k
  | [] => by simp [PyData.depthAll]
  | x :: xs => by
    simp only [PyData.depthAll, List.mem_cons, forall_eq_or_imp]
    rw [Nat.max_le, dp_all (xs := xs)]
theorem wt_app : ∀ xs ys : List PyData, PyData.weightAll (xs ++ ys) = PyData.weightAll xs + PyData.weightAll ys
  | [], ys => by rw [List.nil_append, show PyData.weightAll [] = 0 by simp only [PyData.weightAll], Nat.zero_add]
  | x :: xs, ys => by
    rw [List.cons_append, show PyData.weightAll (x :: (xs ++ ys)) = x.weight + 1 + PyData.weightAll (xs ++ ys) by simp only [PyData.weightAll], wt_app xs ys, show PyData.weightAll (x :: xs) = x.weight + 1 + PyData.weightAll xs by simp only [PyData.weightAll]]
    omega
theorem wt_one (x : PyData) : PyData.weightAll [x] = x.weight + 1 := by simp only [PyData.weightAll, Nat.add_zero]
theorem wt_td (xs : List PyData) (i : Nat) : PyData.weightAll (xs.take i) + PyData.weightAll (xs.drop i) = PyData.weightAll xs := by rw [← wt_app, List.take_append_drop]
theorem wt_drop (xs : List PyData) (i : Nat) : PyData.weightAll (xs.drop (i + 1)) ≤ PyData.weightAll (xs.drop i) := by
  rw [← List.drop_drop]
  have := wt_td (xs.drop i) 1
  omega
structure GdA (n m : Nat) (xs : List PyData) : Prop where
  lf : ∀ x ∈ xs, x.leavesShort 64 = true
  sh : ∀ x ∈ xs, x.showable = true
  wt : PyData.weightAll xs ≤ n
  dp : ∀ x ∈ xs, x.depth + 1 ≤ m
theorem GdA.tup {n m : Nat} {xs : List PyData} (g : GdA n m xs) (h1 : 1 ≤ m) : Gd n m (.tuple xs) := ⟨by simp only [PyData.leavesShort]; rw [lf_all]; exact List.all_eq_true.mpr g.lf, by simp only [PyData.showable]; rw [sh_all]; exact List.all_eq_true.mpr g.sh, by simp only [PyData.weight]; exact g.wt, by
  simp only [PyData.depth]
  have : PyData.depthAll xs ≤ m - 1 := dp_all.mpr fun x hx => by have := g.dp x hx; omega
  omega⟩
theorem GdA.lst {n m : Nat} {xs : List PyData} (g : GdA n m xs) (h1 : 1 ≤ m) : Gd n m (.list xs) := ⟨by simp only [PyData.leavesShort]; rw [lf_all]; exact List.all_eq_true.mpr g.lf, by simp only [PyData.showable]; rw [sh_all]; exact List.all_eq_true.mpr g.sh, by simp only [PyData.weight]; exact g.wt, by
  simp only [PyData.depth]
  have : PyData.depthAll xs ≤ m - 1 := dp_all.mpr fun x hx => by have := g.dp x hx; omega
  omega⟩
theorem Gd.all {n m : Nat} {xs : List PyData} (g : Gd n m (.tuple xs)) : GdA n m xs := by
  have lf := g.lf
  have sh := g.sh
  have wt := g.wt
  have dp := g.dp
  simp only [PyData.leavesShort, PyData.showable, PyData.weight, PyData.depth, lf_all, sh_all] at lf sh wt dp
  have dp' := dp_all.mp (show PyData.depthAll xs ≤ m - 1 by omega)
  exact ⟨List.all_eq_true.mp lf, List.all_eq_true.mp sh, wt, fun x hx => by have := dp' x hx; omega⟩
theorem Gd.up {n m n' m' : Nat} {d : PyData} (g : Gd n m d) (h1 : n ≤ n') (h2 : m ≤ m') : Gd n' m' d := ⟨g.lf, g.sh, Nat.le_trans g.wt h1, Nat.le_trans g.dp h2⟩
theorem gd_cut {m n N i : Nat} {xs : List PyData} (q : Gd m n (.tuple xs)) (hn : n ≤ N) (h1 : 1 ≤ N) : Gd m N (.tuple (xs.take i ++ xs.drop (i + 1))) := by
  have g := q.all
  have w1 := wt_td xs i
  have w2 := wt_drop xs i
  have w3 := g.wt
  have mem : ∀ y ∈ xs.take i ++ xs.drop (i + 1), y ∈ xs := fun y hy => by
    rcases List.mem_append.mp hy with z | z
    · exact List.mem_of_mem_take z
    · exact List.mem_of_mem_drop z
  exact GdA.tup ⟨fun y hy => g.lf y (mem y hy), fun y hy => g.sh y (mem y hy), by rw [wt_app]; omega, fun y hy => Nat.le_trans (g.dp y (mem y hy)) hn⟩ h1
theorem gd_put {m n a b N i j : Nat} {xs : List PyData} {x : PyData} (q : Gd m n (.tuple xs)) (g : Gd a b x) (hij : j = i ∨ j = i + 1) (hn : n ≤ N) (hb : b + 1 ≤ N) : Gd (m + a + 1) N (.tuple (xs.take i ++ [x] ++ xs.drop j)) := by
  have g' := q.all
  have w1 := wt_td xs i
  have w2 := wt_drop xs i
  have w3 := g'.wt
  have w4 := g.wt
  have mem : ∀ y ∈ xs.take i ++ [x] ++ xs.drop j, y ∈ xs ∨ y = x := fun y hy => by
    rcases List.mem_append.mp hy with z | z
    · rcases List.mem_append.mp z with z | z
      · exact .inl (List.mem_of_mem_take z)
      · exact .inr (List.mem_singleton.mp z)
    · exact .inl (List.mem_of_mem_drop z)
  refine GdA.tup ⟨fun y hy => ?_, fun y hy => ?_, ?_, fun y hy => ?_⟩ (by omega)
  · rcases mem y hy with z | z
    · exact g'.lf y z
    · rw [z]; exact g.lf
  · rcases mem y hy with z | z
    · exact g'.sh y z
    · rw [z]; exact g.sh
  · rw [wt_app, wt_app, wt_one]
    rcases hij with e | e
    · subst e; omega
    · subst e; omega
  · rcases mem y hy with z | z
    · exact Nat.le_trans (g'.dp y z) hn
    · rw [z]; have := g.dp; omega
theorem gd_swap {m n b N c i : Nat} {xs : List PyData} {x : PyData} (hi : i < xs.length) (q : Gd m n (.tuple xs)) (g : Gd (xs[i].weight + c) b x) (hn : n ≤ N) (hb : b + 1 ≤ N) : Gd (m + c) N (.tuple (xs.take i ++ [x] ++ xs.drop (i + 1))) := by
  have g' := q.all
  have w1 := wt_td xs i
  have w3 := g'.wt
  have w4 := g.wt
  rw [List.drop_eq_getElem_cons hi] at w1
  rw [show PyData.weightAll (xs[i] :: xs.drop (i + 1)) = xs[i].weight + 1 + PyData.weightAll (xs.drop (i + 1)) by simp only [PyData.weightAll]] at w1
  have big := gd_put (i := i) (j := i + 1) q g (.inr rfl) hn hb
  refine ⟨big.lf, big.sh, ?_, big.dp⟩
  simp only [PyData.weight]
  rw [wt_app, wt_app, wt_one]
  omega
theorem any_gd {d : PyData} (h : d ∈ anyL) : Gd 500 1 d := by
  have e : (anyL.all fun d => d.leavesShort 64 && d.showable && decide (d.weight ≤ 500) && decide (d.depth ≤ 1)) = true := by decide +kernel
  have q := List.all_eq_true.mp e d h
  rw [Bool.and_eq_true, Bool.and_eq_true, Bool.and_eq_true] at q
  exact ⟨q.1.1.1, q.1.1.2, of_decide_eq_true q.1.2, of_decide_eq_true q.2⟩
theorem eqv_str (a : Str) : PyData.eqv (.str a) (.str a) = true := by
  simp only [PyData.eqv]
  exact beq_self_eq_true a
theorem shows4 (a b c e : Bool) : Shows (.list [.bool a, .bool b, .bool c, .bool e]) := Gd.shows (n := 100) (m := 5) ⟨by simp only [PyData.leavesShort, PyData.leavesShortAll, Bool.and_true], by simp only [PyData.showable, PyData.showableAll, Bool.and_true], by simp only [PyData.weight, PyData.weightAll]; decide, by simp only [PyData.depth, PyData.depthAll]; decide⟩ (by decide) (by decide)
theorem txt_not {d : PyData} (h : isSubj d = false) : isTxt d = false := by
  cases d with
  | str x => simp only [isTxt, h, Bool.false_and]
  | _ => rfl
theorem subj_str {d : PyData} (h : isSubj d = true) : ∃ x, d = .str x := by
  cases d with
  | str x => exact ⟨x, rfl⟩
  | _ => exact Bool.noConfusion h
theorem mem_rng {d : PyData} {lo : Int} {n : Nat} (h : d ∈ rngD lo n) : ∃ k : Nat, k < n ∧ d = .int (lo + (k : Int)) := by
  unfold rngD at h
  obtain ⟨k, hk, e⟩ := List.mem_map.mp h
  exact ⟨k, List.mem_range.mp hk, e.symm⟩
theorem tl_app (a b : Str) : (a ++ b).cps.toList = a.cps.toList ++ b.cps.toList := by
  rw [show (a ++ b).cps = a.cps ++ b.cps from rfl, Array.toList_append]
theorem len_app (a b : Str) : (a ++ b).length = a.length + b.length := by
  show (a.cps ++ b.cps).size = _
  rw [Array.size_append]
  rfl
theorem wt_s {x : Str} (h : x.length ≤ 4000) : Wt (.str x) := by
  show PyData.weight (.str x) ≤ 4000
  rw [show PyData.weight (.str x) = x.cps.size by simp only [PyData.weight]]
  exact h
theorem sz2 {a b : Nat} (ha : a ≤ 4000) (hb : b ≤ 4000) : a + b ≤ sizeLine := Nat.le_trans (Nat.add_le_add ha hb) (by decide)
theorem fold_rep (a : Array Nat) : ∀ (k : Nat) (acc : Array Nat), ((List.replicate k a).foldl (· ++ ·) acc).toList = acc.toList ++ (List.replicate k a.toList).flatten
  | 0, acc => by simp
  | k + 1, acc => by
    rw [List.replicate_succ, List.foldl_cons, fold_rep a k, List.replicate_succ, List.flatten_cons, Array.toList_append, List.append_assoc]
theorem mul_tl (x : Str) (k : Nat) (h1 : 1 < k) (h2 : x.length ≠ 0) : (Txt.mul x (k : Int)).cps.toList = (List.replicate k x.cps.toList).flatten := by
  unfold Txt.mul
  rw [if_neg (by omega), if_neg (by
    intro z
    rcases (Bool.or_eq_true _ _).mp z with z | z
    · have := eq_of_beq z
      omega
    · exact h2 (eq_of_beq z))]
  show ((List.replicate ((k : Int)).toNat x.cps).foldl (· ++ ·) #[]).toList = _
  rw [fold_rep, Int.toNat_natCast]
  rfl
theorem ab_ne : (Str.ofString "ab").length ≠ 0 := by decide
theorem len_mul_ab (k : Nat) (h : 1 < k := by decide) : (Txt.mul (Str.ofString "ab") (k : Int)).length = k * 2 := by
  have e := mul_tl (Str.ofString "ab") k h ab_ne
  show (Txt.mul (Str.ofString "ab") (k : Int)).cps.size = _
  rw [← Array.length_toList, e, List.length_flatten, List.map_replicate, List.sum_replicate_nat]
  rfl
theorem subj_app (x y : Str) : isSubj (.str (x ++ y)) = (isSubj (.str x) && isSubj (.str y)) := by
  simp only [isSubj, tl_app, List.all_append]
theorem subj_ab (k : Nat) (h : 1 < k := by decide) : isSubj (.str (Txt.mul (Str.ofString "ab") (k : Int))) = true := by
  simp only [isSubj]
  rw [mul_tl _ k h ab_ne]
  refine List.all_eq_true.mpr fun c hc => ?_
  obtain ⟨l, hl, hc⟩ := List.mem_flatten.mp hc
  rw [(List.mem_replicate.mp hl).2] at hc
  exact List.all_eq_true.mp (show (Str.ofString "ab").cps.toList.all okC = true by decide +kernel) c hc
theorem chk_az {c : Nat} (h : PyData.str ⟨#[c]⟩ ∈ signsD (Str.ofString "abcdefghijklmnopqrstuvwxyz")) : isName (.str (Str.ofString "abcdefghijk" ++ ⟨#[c]⟩)) = true ∧ isName (.str ⟨#[c]⟩) = true ∧ isTxt (.str ⟨#[c]⟩) = true := by
  have e : ((signsD (Str.ofString "abcdefghijklmnopqrstuvwxyz")).all fun d => match d with | .str y => isName (.str (Str.ofString "abcdefghijk" ++ y)) && isName (.str y) && isTxt (.str y) | _ => false) = true := by decide +kernel
  have q := List.all_eq_true.mp e _ h
  have q : (isName (.str (Str.ofString "abcdefghijk" ++ ⟨#[c]⟩)) && isName (.str ⟨#[c]⟩) && isTxt (.str ⟨#[c]⟩)) = true := q
  rw [Bool.and_eq_true, Bool.and_eq_true] at q
  exact ⟨q.1.1, q.1.2, q.2⟩
abbrev otS : Str := Str.ofString " !\"#$&'()*+,-./0123456789:;<=>?@ABCDEFGHIJKLMNOPQRSTUVWXYZ[\\]^_`{|}~"
theorem chk_ot {c : Nat} (h : PyData.str ⟨#[c]⟩ ∈ signsD otS) : isName (.str (Str.ofString "abc" ++ ⟨#[c]⟩ ++ Str.ofString "efgh")) = false ∧ isName (.str ⟨#[c]⟩) = false ∧ isSubj (.str (Txt.mul (Str.ofString "ab") 600 ++ ⟨#[c]⟩)) = true ∧ isTxt (.str ⟨#[c]⟩) = true := by
  have e : ((signsD otS).all fun d => match d with | .str y => !isName (.str (Str.ofString "abc" ++ y ++ Str.ofString "efgh")) && !isName (.str y) && isSubj (.str y) && isTxt (.str y) | _ => false) = true := by decide +kernel
  have q := List.all_eq_true.mp e _ h
  have q : (!isName (.str (Str.ofString "abc" ++ ⟨#[c]⟩ ++ Str.ofString "efgh")) && !isName (.str ⟨#[c]⟩) && isSubj (.str ⟨#[c]⟩) && isTxt (.str ⟨#[c]⟩)) = true := q
  rw [Bool.and_eq_true, Bool.and_eq_true, Bool.and_eq_true, Bool.not_eq_true', Bool.not_eq_true'] at q
  exact ⟨q.1.1.1, q.1.1.2, by rw [subj_app, q.1.2, Bool.and_true]; exact subj_ab 600, q.2⟩
theorem l1s (c : Nat) : (⟨#[c]⟩ : Str).length ≤ 2000 := by
  show 1 ≤ 2000
  decide
theorem l600 : (Txt.mul (Str.ofString "ab") 600).length = 1200 := len_mul_ab 600
theorem l1500 : (Txt.mul (Str.ofString "ab") 1500).length = 3000 := len_mul_ab 1500
theorem wt_a {a b : Str} (ha : a.length ≤ 2000) (hb : b.length ≤ 2000) : Wt (.str (a ++ b)) := wt_s (by rw [len_app]; omega)
theorem sz4 {a b : Nat} (ha : a ≤ 2000) (hb : b ≤ 2000) : a + b ≤ sizeLine := Nat.le_trans (Nat.add_le_add ha hb) (by decide)
theorem le_a {a b : Str} (ha : a.length ≤ 1000) (hb : b.length ≤ 1000) : (a ++ b).length ≤ 2000 := by rw [len_app]; omega
theorem l1t (c : Nat) : (⟨#[c]⟩ : Str).length ≤ 1000 := by
  show 1 ≤ 1000
  decide
theorem chk_nt {d : PyData} (h : d ∈ [PyData.str (Str.ofString "\n"), .str (Str.ofString "\t")]) : ∃ y, d = .str y ∧ y.length ≤ 1000 ∧ isSubj (.str y) = false ∧ isSubj (.str (Str.ofString "a" ++ y ++ Str.ofString "b")) = false ∧ isTxt (.str (Str.ofString "a" ++ y)) = false := by
  rcases List.mem_cons.mp h with e | h
  · exact ⟨_, e, by decide, by decide +kernel, by decide +kernel, by decide +kernel⟩
  · exact ⟨_, List.mem_singleton.mp h, by decide, by decide +kernel, by decide +kernel, by decide +kernel⟩
theorem wt_m {xs : List PyData} (h : PyData.weightAll xs ≤ 4000) : Wt (.tuple xs) := by
  show PyData.weight (.tuple xs) ≤ 4000
  simp only [PyData.weight]
  exact h
theorem msg1 : Wt (.tuple [.str (Str.ofString "a"), .str (Str.ofString "b"), .str (Txt.mul (Str.ofString "ab") 1500), .tuple [.str (Str.ofString "m")]]) ∧ isMsg (.tuple [.str (Str.ofString "a"), .str (Str.ofString "b"), .str (Txt.mul (Str.ofString "ab") 1500), .tuple [.str (Str.ofString "m")]]) = true := by
  constructor
  · refine wt_m ?_
    have e : (Txt.mul (Str.ofString "ab") 1500).cps.size = 3000 := l1500
    simp only [PyData.weightAll, PyData.weight, e]
    decide
  · simp only [isMsg]
    rw [show isName (.str (Str.ofString "a")) = true by decide +kernel, show isName (.str (Str.ofString "b")) = true by decide +kernel, show isNT (.tuple [.str (Str.ofString "m")]) = true by decide +kernel, show isSubj (.str (Txt.mul (Str.ofString "ab") 1500)) = true from subj_ab 1500]
    rfl
theorem msg2 : Wt (.tuple [.str (Str.ofString "a"), .str (Str.ofString "b"), .str (Txt.mul (Str.ofString "ab") 600 ++ Str.ofString "\n"), .tuple []]) ∧ isMsg (.tuple [.str (Str.ofString "a"), .str (Str.ofString "b"), .str (Txt.mul (Str.ofString "ab") 600 ++ Str.ofString "\n"), .tuple []]) = false := by
  constructor
  · refine wt_m ?_
    have e : (Txt.mul (Str.ofString "ab") 600 ++ Str.ofString "\n").cps.size = 1201 := by
      have := len_app (Txt.mul (Str.ofString "ab") 600) (Str.ofString "\n")
      rw [l600] at this
      exact this
    simp only [PyData.weightAll, PyData.weight, e]
    decide
  · simp only [isMsg]
    rw [subj_app, show isSubj (.str (Str.ofString "\n")) = false by decide +kernel, Bool.and_false, Bool.and_false, Bool.false_and]
structure SOk (n : Nat) (x : Str) : Prop where
  len : x.cps.toList.length ≤ n
  cp : ∀ c ∈ x.cps.toList, c < 16 ^ 8
theorem SOk.app {n m : Nat} {x y : Str} (a : SOk n x) (b : SOk m y) : SOk (n + m) (x ++ y) := ⟨by rw [tl_app, List.length_append]; exact Nat.add_le_add a.len b.len, fun c hc => by
  rw [tl_app] at hc
  exact (List.mem_append.mp hc).elim (a.cp c) (b.cp c)⟩
theorem SOk.join : ∀ {ys : List Str}, (∀ y ∈ ys, SOk 1 y) → SOk ys.length (Str.join (Str.ofString "") ys)
  | [], _ => ⟨Nat.le_refl 0, fun c hc => absurd hc List.not_mem_nil⟩
  | [x], h => h x List.mem_cons_self
  | x :: y :: r, h => by
    have ih := SOk.join (ys := y :: r) fun z hz => h z (List.mem_cons_of_mem _ hz)
    have e : SOk 0 (Str.ofString "") := ⟨Nat.le_refl 0, fun c hc => absurd hc List.not_mem_nil⟩
    have q := ((h x List.mem_cons_self).app e).app ih
    show SOk ((y :: r).length + 1) (x ++ Str.ofString "" ++ Str.join (Str.ofString "") (y :: r))
    rw [Nat.add_comm]
    exact q
theorem SOk.gd {n : Nat} {x : Str} (a : SOk n x) (h : n ≤ 100) : Gd 100 1 (.str x) := ⟨by simp only [PyData.leavesShort]; exact List.all_eq_true.mpr fun c hc => decide_eq_true (a.cp c hc), by simp only [PyData.showable], by
  simp only [PyData.weight]
  have := a.len
  rw [Array.length_toList] at this
  omega, by simp only [PyData.depth]; decide⟩
def gdB (d : PyData) : Bool := d.leavesShort 64 && d.showable && decide (d.weight ≤ 100) && decide (d.depth ≤ 1)
theorem gd_chk {L : List PyData} (e : L.all gdB = true) {d : PyData} (h : d ∈ L) : Gd 100 1 d := by
  have q := List.all_eq_true.mp e d h
  unfold gdB at q
  rw [Bool.and_eq_true, Bool.and_eq_true, Bool.and_eq_true] at q
  exact ⟨q.1.1.1, q.1.1.2, of_decide_eq_true q.1.2, of_decide_eq_true q.2⟩
theorem gd4 {a b c d : PyData} (ga : Gd 100 1 a) (gb : Gd 100 1 b) (gc : Gd 100 1 c) (gd : Gd 100 1 d) : Gd 1000 2 (.tuple [a, b, c, d]) := by
  have mem : ∀ (p : PyData → Prop), p a → p b → p c → p d → ∀ x ∈ [a, b, c, d], p x := fun p pa pb pc pd x hx => by
    rcases List.mem_cons.mp hx with e | hx
    · rw [e]; exact pa
    rcases List.mem_cons.mp hx with e | hx
    · rw [e]; exact pb
    rcases List.mem_cons.mp hx with e | hx
    · rw [e]; exact pc
    rw [List.mem_singleton.mp hx]
    exact pd
  refine GdA.tup ⟨mem _ ga.lf gb.lf gc.lf gd.lf, mem _ ga.sh gb.sh gc.sh gd.sh, ?_, mem _ (Nat.succ_le_succ ga.dp) (Nat.succ_le_succ gb.dp) (Nat.succ_le_succ gc.dp) (Nat.succ_le_succ gd.dp)⟩ (by decide)
  simp only [PyData.weightAll]
  have := ga.wt
  have := gb.wt
  have := gc.wt
  have := gd.wt
  omega
theorem menu_ok {x : PyData} (h : x ∈ [PyData.str (Str.ofString "a"), .str (Str.ofString " "), .str (Str.ofString "~"), .str (Str.ofString "Z"), .str (Str.ofString "9")]) : ∃ y, x = .str y ∧ SOk 1 y := by
  have e : ([PyData.str (Str.ofString "a"), .str (Str.ofString " "), .str (Str.ofString "~"), .str (Str.ofString "Z"), .str (Str.ofString "9")].all fun d => match d with | .str y => decide (y.cps.toList.length ≤ 1) && y.cps.toList.all (fun c => decide (c < 16 ^ 8)) | _ => false) = true := by decide +kernel
  have q := List.all_eq_true.mp e x h
  cases x with
  | str y =>
    rw [Bool.and_eq_true] at q
    exact ⟨y, rfl, of_decide_eq_true q.1, fun c hc => of_decide_eq_true (List.all_eq_true.mp q.2 c hc)⟩
  | _ => exact Bool.noConfusion q
theorem strs_of : ∀ {zs : List PyData}, (∀ z ∈ zs, ∃ y, z = .str y ∧ SOk 1 y) → ∃ ys : List Str, zs = ys.map .str ∧ ys.length = zs.length ∧ ∀ y ∈ ys, SOk 1 y
  | [], _ => ⟨[], rfl, rfl, fun _ h => absurd h List.not_mem_nil⟩
  | z :: zs, h => by
    obtain ⟨y, rfl, sy⟩ := h z List.mem_cons_self
    obtain ⟨ys, rfl, e, hs⟩ := strs_of fun z hz => h z (List.mem_cons_of_mem _ hz)
    exact ⟨y :: ys, rfl, by rw [List.length_cons, List.length_cons, e], fun u hu => by
      rcases List.mem_cons.mp hu with e | m
      · rw [e]; exact sy
      · exact hs u m⟩
theorem sum1 : ∀ {ys : List Str}, (∀ y ∈ ys, SOk 1 y) → (ys.map (·.length)).sum ≤ ys.length
  | [], _ => Nat.le_refl 0
  | y :: ys, h => by
    rw [List.map_cons, List.sum_cons, List.length_cons]
    have a := (h y List.mem_cons_self).len
    rw [Array.length_toList] at a
    have b := sum1 fun z hz => h z (List.mem_cons_of_mem _ hz)
    have : y.length ≤ 1 := a
    omega
theorem rng_len (lo : Int) (n : Nat) : (rngD lo n).length = n := by
  unfold rngD
  rw [List.length_map, List.length_range]
theorem take_cap (xs : List PyData) (i : Nat) : (xs.take i).length ≤ xs.length := by rw [List.length_take]; omega
theorem drop_cap (xs : List PyData) (i : Nat) : (xs.drop i).length ≤ xs.length := by rw [List.length_drop]; omega
def gAny : FL := fun ds R => ds = [.well] ∧ ∀ d ∈ anyL, R (.p d)
def gTold : FL := fun ds R => ∃ d, ds = [.p d] ∧ Gd 4000 90 d ∧ R (.p (.bool true))
theorem u66 {k : Nat} {A : Around} (hr : Room k A) : A.units + 66 < cLine := by
  have := hr.un
  omega
def fAnyG : FL := fun ds R => False
theorem forD {E : DE} {g : TDG} {tb : TDS} {δ : Dn} {xs : List PyData} (h : forL E g tb xs δ) : asL (.p (.list xs)) (fun ds => forL E g tb ds δ) := h
theorem lcD {g : TDG} {tt : TB} {te : TD} {δ : Dn} {fin : List PyData → Prop} {xs : List PyData} (h : lcL g tt te δ fin xs []) : asL (.p (.list xs)) (fun ds => lcL g tt te δ fin ds []) := h
abbrev sO (x : String) : Str := Str.ofString x
def zS : Str := sO "z"
def ltrs : Str := sO "abcdefghijklmnopqrstuvwxyz"
def nextS (x : Str) : Str := if x.length < 12 then x ++ sO "a" else
  let st := Txt.rstripChars x zS
  match atI st.cps.toList (-1) with
  | some c => match Builtin.Str.occurrences ltrs ⟨#[c]⟩ 0 ltrs.length 1 with
    | i :: _ => match atI ltrs.cps.toList ((i : Nat) + 1 : Int) with
      | some b => cutS st none (some (-1)) ++ ⟨#[b]⟩
      | none => x
    | [] => x
  | none => x
def chN : Nat → Str
  | 0 => sO "a"
  | n + 1 => nextS (chN n)
def okN (x : Str) : Bool :=
  let st := Txt.rstripChars x zS
  decide (x.length ≤ 12) && decide (st.length ≤ 12) && match atI st.cps.toList (-1) with
  | some c => match Builtin.Str.occurrences ltrs ⟨#[c]⟩ 0 ltrs.length 1 with
    | i :: _ => (atI ltrs.cps.toList ((i : Nat) + 1 : Int)).isSome
    | [] => false
  | none => false
theorem okN_all : ∀ n, n ≤ 60 → okN (chN n) = true := fun n hn => List.all_eq_true.mp (show (List.range 61).all (fun n => okN (chN n)) = true by decide +kernel) n (List.mem_range.mpr (by omega))
theorem okN_of {x : Str} (h : okN x = true) : x.length ≤ 12 ∧ (Txt.rstripChars x zS).length ≤ 12 ∧ ∃ c i r b, atI (Txt.rstripChars x zS).cps.toList (-1) = some c ∧ Builtin.Str.occurrences ltrs ⟨#[c]⟩ 0 ltrs.length 1 = i :: r ∧ atI ltrs.cps.toList ((i : Nat) + 1 : Int) = some b ∧ (¬ x.length < 12 → nextS x = cutS (Txt.rstripChars x zS) none (some (-1)) ++ ⟨#[b]⟩) := by
  unfold okN at h
  simp only [Bool.and_eq_true, decide_eq_true_eq] at h
  refine ⟨h.1.1, h.1.2, ?_⟩
  have h2 := h.2
  cases e1 : atI (Txt.rstripChars x zS).cps.toList (-1) with
  | none => rw [e1] at h2; cases h2
  | some c =>
    rw [e1] at h2
    simp only at h2
    cases e2 : Builtin.Str.occurrences ltrs ⟨#[c]⟩ 0 ltrs.length 1 with
    | nil => rw [e2] at h2; cases h2
    | cons i r =>
      rw [e2] at h2
      simp only at h2
      cases e3 : atI ltrs.cps.toList ((i : Nat) + 1 : Int) with
      | none => rw [e3] at h2; cases h2
      | some b =>
        refine ⟨c, i, r, b, rfl, e2, e3, fun z => ?_⟩
        unfold nextS
        rw [if_neg z]
        simp only [e1, e2, e3]
def gNext : FL := fun ds R => ∃ n, n ≤ 60 ∧ ds = [.p (.str (chN n))] ∧ R (.p (.str (chN (n + 1))))
def gFree : FL := fun ds R => ∃ (ns : List Str) (n : Nat), (ds = [.p (.list (ns.map .str))] ∨ ds = [.p (.tuple (ns.map .str))]) ∧ ns.length ≤ 100 ∧ n ≤ 60 ∧ (∀ m, m < n → chN m ∈ ns) ∧ chN n ∉ ns ∧ R (.p (.str (chN n)))
def gFreeL : FL := fun ds R => ∃ (ns : List Str) (n : Nat), ds = [.p (.list (ns.map .str))] ∧ ns.length ≤ 100 ∧ n ≤ 60 ∧ (∀ m, m < n → chN m ∈ ns) ∧ chN n ∉ ns ∧ R (.p (.str (chN n)))
def mkM (s a x : Str) (ms : List Str) : PyData := .tuple [.str s, .str a, .str x, .tuple (ms.map .str)]
def keyM (s a x : Str) (ms : List Str) : PyData := .tuple [.int x.length, .str x, .int ms.length, .tuple (ms.map .str), .str a, .str s]
def gKey : FL := fun ds R => ∃ s a x ms, ds = [.p (mkM s a x ms)] ∧ x.length ≤ 100 ∧ ms.length ≤ 100 ∧ R (.p (keyM s a x ms))
def befL : List (PyData × PyData) → Bool
  | [] => false
  | (x, y) :: r => if PyData.eqv x y = true then befL r else PySem.W.dataLt x y
def rowsM (s a x : Str) (ms : List Str) (s' a' x' : Str) (ms' : List Str) : List (PyData × PyData) := [(.int x.length, .int x'.length), (.str x, .str x'), (.int ms.length, .int ms'.length), (.tuple (ms.map .str), .tuple (ms'.map .str)), (.str a, .str a'), (.str s, .str s')]
def gBef : FL := fun ds R => ∃ s a x ms s' a' x' ms', ds = [.p (mkM s a x ms), .p (mkM s' a' x' ms')] ∧ x.length ≤ 100 ∧ ms.length ≤ 100 ∧ x'.length ≤ 100 ∧ ms'.length ≤ 100 ∧ R (.p (.bool (befL (rowsM s a x ms s' a' x' ms'))))
def gWm : FL := fun ds R => ∃ (ms : List Str) (mk : Str), ds = [.p (.tuple (ms.map .str)), .p (.str mk)] ∧ ms.length ≤ 50 ∧ ∀ zs, RisS zs → (∀ x, x ∈ zs ↔ x ∈ ms ++ [mk]) → zs.length ≤ sizeLine → R (.p (.tuple (zs.map .str)))
def gOne2 : FL := fun ds R => ds = [.well] ∧ ∀ s a x ms, s.length ≤ 10 → a.length ≤ 10 → x.length ≤ 10 → ms.length ≤ 2 → R (.p (mkM s a x ms))
theorem sz {n m : Nat} (h : n ≤ m) (hm : m ≤ sizeLine := by decide) : n ≤ sizeLine := Nat.le_trans h hm
theorem lt_int {i j : Int} {R : DV → Prop} (h : R (.p (.bool (decide (i < j))))) : fLt (.p (.int i)) (.p (.int j)) R := h
theorem pyAllApp {K : List PyData → Prop} {y : PyData} : ∀ {zs : List PyData}, K (zs ++ [y]) → pyAll (zs.map .p ++ [.p y]) K
  | [], h => h
  | z :: zs, h => pyAllApp (zs := zs) (K := fun xs => K (z :: xs)) h
def prevN : Nat → Str
  | 0 => sO ""
  | n + 1 => chN n
theorem prev_next : ∀ j, nextS (prevN j) = chN j
  | 0 => by decide +kernel
  | _ + 1 => rfl
def isStr10 (d : PyData) : Bool := match d with | .str s => decide (s.length ≤ 10) | _ => false
theorem str10 {L : List PyData} {x : PyData} (h : L.all isStr10 = true) (hx : x ∈ L) : ∃ s, x = .str s ∧ s.length ≤ 10 := by
  have q := List.all_eq_true.mp h x hx
  cases x with
  | str s => exact ⟨s, rfl, of_decide_eq_true q⟩
  | _ => cases q
def strsOf : List PyData → Option (List Str)
  | [] => some []
  | .str s :: r => (strsOf r).map (s :: ·)
  | _ :: _ => none
theorem strsOf_eq : ∀ {xs : List PyData} {ss : List Str}, strsOf xs = some ss → xs = ss.map .str
  | [], _, h => by cases h; rfl
  | .str s :: r, ss, h => by
    unfold strsOf at h
    cases e : strsOf r with
    | none => rw [e] at h; cases h
    | some q => rw [e] at h; cases h; rw [strsOf_eq e]; rfl
def isMarks2 (d : PyData) : Bool := match d with | .tuple xs => (match strsOf xs with | some ss => decide (ss.length ≤ 2) | none => false) | _ => false
theorem marks2 {L : List PyData} {x : PyData} (h : L.all isMarks2 = true) (hx : x ∈ L) : ∃ ss : List Str, x = .tuple (ss.map .str) ∧ ss.length ≤ 2 := by
  have q := List.all_eq_true.mp h x hx
  cases x with
  | tuple xs =>
    have q : (match strsOf xs with | some ss => decide (ss.length ≤ 2) | none => false) = true := q
    cases e : strsOf xs with
    | none => rw [e] at q; cases q
    | some ss => rw [e] at q; exact ⟨ss, by rw [strsOf_eq e], of_decide_eq_true q⟩
  | _ => cases q
theorem cutS_len {z : Str} {n : Nat} {lo hi : Option Int} (h : z.length ≤ n) : (cutS z lo hi).length ≤ n := by
  unfold cutS
  show (((z.cps.toList.drop (HT.sIx z.length 0 lo)).take (HT.sIx z.length z.length hi - HT.sIx z.length 0 lo)).toArray).size ≤ n
  rw [List.size_toArray, List.length_take, List.length_drop, Array.length_toList]
  have : z.cps.size ≤ n := h
  omega
theorem plain_strsT (ms : List Str) : (PyData.tuple (ms.map .str)).plain = true := by
  simp only [PyData.plain]
  induction ms with
  | nil => rfl
  | cons a as ih => simp only [List.map_cons, PyData.plainAll, PyData.plain, ih, Bool.and_self]
theorem depth_strsT (ms : List Str) : (PyData.tuple (ms.map .str)).depth = 1 := by
  simp only [PyData.depth]
  have : PyData.depthAll (ms.map PyData.str) = 0 := by
    induction ms with
    | nil => rfl
    | cons a as ih => simp only [List.map_cons, PyData.depthAll, PyData.depth, ih, Nat.max_self]
  rw [this]
theorem alike_strs : ∀ ms ms' : List Str, PySem.W.alikeAll (ms.map .str) (ms'.map .str) = true
  | [], _ => by simp only [List.map_nil, PySem.W.alikeAll]
  | _ :: _, [] => by simp only [List.map_nil, List.map_cons, PySem.W.alikeAll]
  | a :: r, b :: q => by simp only [List.map_cons, PySem.W.alikeAll, PySem.W.alike, alike_strs r q, Bool.and_self]
theorem eqv_txt (a b : Str) : PyData.eqv (.str a) (.str b) = decide (a = b) := by
  have h := eqvAll_strs [a] [b]
  simp only [List.map_cons, List.map_nil, PySem.W.eqv_all_cons, PyData.eqvAll, Bool.and_true] at h
  rw [h]
  simp
def rowOk (p : PyData × PyData) : Prop := PySem.W.alike p.1 p.2 = true ∧ p.1 ≠ .none ∧ p.1.plain = true ∧ p.2.plain = true ∧ min p.1.depth p.2.depth ≤ 60
theorem rows_ok (s a x : Str) (ms : List Str) (s' a' x' : Str) (ms' : List Str) : ∀ p ∈ rowsM s a x ms s' a' x' ms', rowOk p := by
  have i : ∀ i j : Int, rowOk (.int i, .int j) := fun i j => ⟨rfl, by simp, rfl, rfl, by show min 0 0 ≤ 60; decide⟩
  have t : ∀ i j : Str, rowOk (.str i, .str j) := fun i j => ⟨rfl, by simp, rfl, rfl, by show min 0 0 ≤ 60; decide⟩
  have u : rowOk (.tuple (ms.map .str), .tuple (ms'.map .str)) := ⟨by show PySem.W.alike (.tuple _) (.tuple _) = true; rw [PySem.W.alike]; exact alike_strs _ _, by simp, plain_strsT _, plain_strsT _, by show min (PyData.depth (.tuple _)) (PyData.depth (.tuple _)) ≤ 60; rw [depth_strsT, depth_strsT]; decide⟩
  intro p hp
  unfold rowsM at hp
  rcases List.mem_cons.mp hp with e | hp
  · rw [e]; exact i _ _
  rcases List.mem_cons.mp hp with e | hp
  · rw [e]; exact t _ _
  rcases List.mem_cons.mp hp with e | hp
  · rw [e]; exact i _ _
  rcases List.mem_cons.mp hp with e | hp
  · rw [e]; exact u
  rcases List.mem_cons.mp hp with e | hp
  · rw [e]; exact t _ _
  · rw [List.mem_singleton.mp hp]; exact t _ _
theorem bef_loop {D1 D2 : DV} {R : DV → Prop} : ∀ (rows : List (PyData × PyData)) (y2 y3 y4 : Sl), (∀ p ∈ rows, rowOk p) → R (.p (.bool (befL rows))) →
    forL { nx := dRet (dC (DV.p (PyData.bool false))) { nx := fun x => R (DV.p PyData.none), rt := R }, rt := R } (gdTup 2 (gdCons (gdName 3) (gdCons (gdName 4) gdNil))) (dIfS (dB (dOp (fEqQ true) (dVar 3) (dVar 4))) (dRet (dOp fLtA (dVar 3) (dVar 4))) dNext) (rows.map fun p => .tuple [p.1, p.2]) [.v D1, .v D2, y2, y3, y4]
  | [], _, _, _, _, h => h
  | (x, y) :: r, y2, y3, y4, hr, h => by
    obtain ⟨h1, h2, h3, h4, h5⟩ := hr (x, y) List.mem_cons_self
    refine ⟨rfl, _, _, rfl, _, _, rfl, rfl, ?_⟩
    refine ⟨h3, h4, h5, ?_⟩
    show (if (!PyData.eqv x y) = true then fLtA (.p x) (.p y) R else forL _ _ _ (r.map fun p => .tuple [p.1, p.2]) [.v D1, .v D2, y2, .v (.p x), .v (.p y)])
    rw [show befL ((x, y) :: r) = (if PyData.eqv x y = true then befL r else PySem.W.dataLt x y) from rfl] at h
    cases e : PyData.eqv x y with
    | true =>
      rw [e, if_pos rfl] at h
      rw [if_neg (by simp)]
      exact bef_loop r _ _ _ (fun p hp => hr p (List.mem_cons_of_mem _ hp)) h
    | false =>
      rw [e, if_neg Bool.false_ne_true] at h
      rw [if_pos (show (!false) = true from rfl)]
      exact ⟨h1, h2, h5, h⟩
theorem flat_strs (ns : List Str) : (ns.map PyData.str).all flatD = true := List.all_eq_true.mpr fun d hd => by
  obtain ⟨x, _, rfl⟩ := List.mem_map.mp hd
  rfl
theorem has_strs (c : Str) : ∀ ns : List Str, hasD (.str c) (ns.map .str) = decide (c ∈ ns)
  | [] => by simp [hasD]
  | n :: r => by
    have ih := has_strs c r
    unfold hasD at ih ⊢
    rw [List.map_cons, List.any_cons, ih]
    show (PyData.eqv (.str n) (.str c) || _) = _
    rw [eqv_txt, ← Bool.decide_or]
    simp [eq_comm]
theorem bef_zip : ∀ (xs ys : List PyData), xs.length = ys.length → PySem.W.alikeAll xs ys = true → PyProof.Rows.lexLt itemOrd (PySem.W.keyToksAll xs) (PySem.W.keyToksAll ys) = befL (xs.zip ys)
  | [], [], _, _ => by simp only [PySem.W.keyToksAll]; rfl
  | [], _ :: _, h, _ => by simp at h
  | _ :: _, [], h, _ => by simp at h
  | x :: xs, y :: ys, h, ha => by
    obtain ⟨h1, h2⟩ := PySem.W.alike_all_cons ha
    rw [List.zip_cons_cons, show befL ((x, y) :: xs.zip ys) = (if PyData.eqv x y = true then befL (xs.zip ys) else PySem.W.dataLt x y) from rfl]
    cases e : PyData.eqv x y with
    | true => rw [PySem.W.dataLt_all_yes h1 e, if_pos rfl]; exact bef_zip xs ys (by simpa using h) h2
    | false => rw [PySem.W.dataLt_all_no h1 e, if_neg Bool.false_ne_true]
theorem key_alike (s a x : Str) (ms : List Str) (s' a' x' : Str) (ms' : List Str) : PySem.W.alike (keyM s a x ms) (keyM s' a' x' ms') = true := by
  simp only [keyM, PySem.W.alike, PySem.W.alikeAll, alike_strs, Bool.and_self]
theorem key_lt (s a x : Str) (ms : List Str) (s' a' x' : Str) (ms' : List Str) : PySem.W.dataLt (keyM s a x ms) (keyM s' a' x' ms') = befL (rowsM s a x ms s' a' x' ms') := by
  have h := key_alike s a x ms s' a' x' ms'
  unfold keyM at h ⊢
  rw [PySem.W.dataLt_tuple]
  rw [PySem.W.alike] at h
  exact bef_zip _ _ rfl h
theorem key_eq (s a x : Str) (ms : List Str) (s' a' x' : Str) (ms' : List Str) : PyData.eqv (keyM s a x ms) (keyM s' a' x' ms') = PyData.eqv (mkM s a x ms) (mkM s' a' x' ms') := by
  unfold keyM mkM
  simp only [PyData.eqv, PySem.W.eqv_all_cons, eqvAll_strs]
  rw [Bool.eq_iff_iff]
  simp only [Bool.and_eq_true, decide_eq_true_eq, beq_iff_eq, PyData.eqvAll]
  constructor
  · rintro ⟨_, h1, _, h2, h3, h4, _⟩
    exact ⟨h4, h3, h1, h2, trivial⟩
  · rintro ⟨h4, h3, h1, h2, _⟩
    subst h1 h2
    exact ⟨rfl, rfl, rfl, rfl, h3, h4, trivial⟩
def J0 (ns : List Int) (δ : Dn) : Prop := True
theorem eqv_bb (a b : Bool) : PyData.eqv (.bool a) (.bool b) = decide (a = b) := by
  simp only [PyData.eqv]
  cases a <;> cases b <;> rfl
theorem key_plain (s a x : Str) (ms : List Str) : (keyM s a x ms).plain = true := by
  simp only [keyM, PyData.plain, PyData.plainAll, Bool.true_and, Bool.and_true]
  have := plain_strsT ms
  simp only [PyData.plain] at this
  exact this
theorem m_plain (s a x : Str) (ms : List Str) : (mkM s a x ms).plain = true := by
  simp only [mkM, PyData.plain, PyData.plainAll, Bool.true_and, Bool.and_true]
  have := plain_strsT ms
  simp only [PyData.plain] at this
  exact this
theorem key_depth (s a x : Str) (ms : List Str) : (keyM s a x ms).depth ≤ 60 := by
  have h := depth_strsT ms
  unfold keyM
  rw [show (60 : Nat) = 59 + 1 from rfl]
  simp only [PyData.depth, PyData.depthAll] at h ⊢
  omega
theorem m_depth (s a x : Str) (ms : List Str) : (mkM s a x ms).depth ≤ 60 := by
  have h := depth_strsT ms
  unfold mkM
  simp only [PyData.depth, PyData.depthAll] at h ⊢
  omega
def isM (z : PyData) : Prop := ∃ s a x ms, z = mkM s a x ms ∧ x.length ≤ 10 ∧ ms.length ≤ 2
def mks4 : List (List Str) := [[], [sO "a"], [sO "a", sO "c"], [sO "b", sO "x", sO "z"]]
def mk3 : List Str := [sO "a", sO "b", sO "zz"]
def manyS : List Str := [sO "ba", sO "bb", sO "bc", sO "bd", sO "be", sO "bf", sO "bg", sO "bh"]
def nmS (c : Nat) (b : Bool) : List Str := (List.range c).map (fun (i : Nat) => Txt.mul (sO "a") (1 + (i : Int))) ++ [sO "b", sO "aab"] ++ (if b then [sO "aaaaaaaaaaab", sO "aaaaaaaaaaac"] else [])
def isFree (L : List Str) (n : Nat) : Prop := L.length ≤ 40 ∧ n ≤ 60 ∧ (∀ m, m < n → chN m ∈ L) ∧ chN n ∉ L
def ff (L : List Str) : Nat → Nat → Option Nat
  | 0, _ => none
  | f + 1, n => if L.contains (chN n) then ff L f (n + 1) else some n
theorem ff_is (L : List Str) : ∀ (f a n : Nat), ff L f a = some n → n < a + f ∧ (∀ m, a ≤ m → m < n → chN m ∈ L) ∧ chN n ∉ L
  | 0, _, _, h => by cases h
  | f + 1, a, n, h => by
    unfold ff at h
    by_cases c : L.contains (chN a) = true
    · rw [if_pos c] at h
      obtain ⟨h1, h2, h3⟩ := ff_is L f (a + 1) n h
      refine ⟨by omega, fun m hm hn => ?_, h3⟩
      rcases Nat.eq_or_lt_of_le hm with e | e
      · rw [← e]; exact List.contains_iff_mem.mp c
      · exact h2 m e hn
    · rw [if_neg c] at h
      cases h
      exact ⟨by omega, fun m hm hn => absurd hn (by omega), fun z => c (List.contains_iff_mem.mpr z)⟩
def ffOk (L : List Str) : Bool := decide (L.length ≤ 40) && (ff L 40 0).isSome
theorem ffOk_of {L : List Str} (h : ffOk L = true) : ∃ n, isFree L n := by
  unfold ffOk at h
  rw [Bool.and_eq_true] at h
  obtain ⟨n, e⟩ := Option.isSome_iff_exists.mp h.2
  obtain ⟨h1, h2, h3⟩ := ff_is L 40 0 n e
  exact ⟨n, of_decide_eq_true h.1, by omega, fun m hm => h2 m (Nat.zero_le _) hm, h3⟩
theorem fam_ok : (List.range 13).all (fun c => [true, false].all fun b => ffOk (nmS c b) && (List.range (nmS c b).length).all fun k => ffOk ((nmS c b).eraseIdx k)) = true := by decide +kernel
theorem fam0 {c : Nat} {b : Bool} (hc : c ≤ 12) : ∃ n, isFree (nmS c b) n := by
  have h := List.all_eq_true.mp (List.all_eq_true.mp fam_ok c (List.mem_range.mpr (by omega))) b (by cases b <;> simp)
  rw [Bool.and_eq_true] at h
  exact ffOk_of h.1
theorem fam1 {c k : Nat} {b : Bool} (hc : c ≤ 12) (hk : k < (nmS c b).length) : ∃ n, isFree ((nmS c b).eraseIdx k) n := by
  have h := List.all_eq_true.mp (List.all_eq_true.mp fam_ok c (List.mem_range.mpr (by omega))) b (by cases b <;> simp)
  rw [Bool.and_eq_true] at h
  exact ffOk_of (List.all_eq_true.mp h.2 k (List.mem_range.mpr hk))
def aMul (z : PyData) : PyData := match z with
  | .int i => .str (Txt.mul (sO "a") i)
  | _ => .none
def forBody : Stmt → List Stmt
  | .For _ _ b _ _ => b
  | _ => []
def JA (ns : List Int) (δ : Dn) : Prop := ∃ (y1 y2 y3 y4 y5 y6 y7 y8 y9 y10 y11 y12 y13 y14 y15 : Sl), δ = [.v (.scr ns), y1, y2, y3, y4, y5, y6, y7, y8, y9, y10, y11, y12, y13, y14, y15]
def B0 (ns : List Int) (δ : Dn) : Prop := ∃ (k : Nat) (y2 y3 y4 y5 y6 y7 y8 y9 y10 y11 y12 y13 y14 y15 : Sl), k ≤ 63 ∧ δ = [.v (.scr ns), .v (.p (.int ((k : Nat) : Int))), y2, y3, y4, y5, y6, y7, y8, y9, y10, y11, y12, y13, y14, y15]
def B1 (ns : List Int) (δ : Dn) : Prop := ∃ (y1 y3 y4 y5 y6 y7 y8 y9 y10 y11 y12 y13 y14 y15 : Sl), δ = [.v (.scr ns), y1, .v .well, y3, y4, y5, y6, y7, y8, y9, y10, y11, y12, y13, y14, y15]
def B2 (ns : List Int) (δ : Dn) : Prop := ∃ (zs : List PyData) (y1 y4 y5 y6 y7 y8 y9 y10 y11 y12 y13 y14 y15 : Sl), (∀ z ∈ zs, isM z) ∧ δ = [.v (.scr ns), y1, .v .well, .v (.p (.list zs)), y4, y5, y6, y7, y8, y9, y10, y11, y12, y13, y14, y15]
def B3 (ns : List Int) (δ : Dn) : Prop := ∃ (y1 y3 y4 y5 y6 y7 y8 y9 y10 y11 y12 y13 y14 y15 : Sl), δ = [.v (.scr ns), y1, .v .well, y3, y4, y5, y6, y7, y8, y9, y10, y11, y12, y13, y14, y15]
def B4 (ns : List Int) (δ : Dn) : Prop := ∃ (c : Nat) (y1 y3 y4 y5 y6 y8 y9 y10 y11 y12 y13 y14 y15 : Sl), c ≤ 12 ∧ δ = [.v (.scr ns), y1, .v .well, y3, y4, y5, y6, .own ((nmS c false).map .str), y8, y9, y10, y11, y12, y13, y14, y15]
def B5 (ns : List Int) (δ : Dn) : Prop := ∃ (c : Nat) (b : Bool) (y1 y3 y4 y5 y6 y8 y9 y10 y11 y12 y13 y14 y15 : Sl), c ≤ 12 ∧ δ = [.v (.scr ns), y1, .v .well, y3, y4, y5, y6, .own ((nmS c b).map .str), y8, y9, y10, y11, y12, y13, y14, y15]
def B6 (ns : List Int) (δ : Dn) : Prop := ∃ (L : List Str) (n : Nat) (y1 y3 y4 y5 y6 y8 y9 y10 y11 y12 y13 y14 y15 : Sl), isFree L n ∧ δ = [.v (.scr ns), y1, .v .well, y3, y4, y5, y6, .own (L.map .str), y8, y9, y10, y11, y12, y13, y14, y15]
def B7 (ns : List Int) (δ : Dn) : Prop := ∃ (L : List Str) (n : Nat) (y1 y3 y4 y5 y6 y8 y10 y11 y12 y13 y14 y15 : Sl), isFree L n ∧ δ = [.v (.scr ns), y1, .v .well, y3, y4, y5, y6, .v (.p (.list (L.map .str))), y8, .v (.p (.list (L.map .str))), y10, y11, y12, y13, y14, y15]
def B8 (ns : List Int) (δ : Dn) : Prop := ∃ (L : List Str) (n : Nat) (y1 y3 y4 y5 y6 y8 y11 y12 y13 y14 y15 : Sl), isFree L n ∧ δ = [.v (.scr ns), y1, .v .well, y3, y4, y5, y6, .v (.p (.list (L.map .str))), y8, .v (.p (.list (L.map .str))), .v (.p (.str (chN n))), y11, y12, y13, y14, y15]
def B9 (ns : List Int) (δ : Dn) : Prop := ∃ (y1 y3 y4 y5 y6 y7 y8 y9 y10 y11 y12 y13 y14 y15 : Sl), δ = [.v (.scr ns), y1, .v .well, y3, y4, y5, y6, y7, y8, y9, y10, y11, y12, y13, y14, y15]
def B10 (ns : List Int) (δ : Dn) : Prop := ∃ (ms : List Str) (y1 y3 y4 y5 y6 y7 y8 y9 y10 y12 y13 y14 y15 : Sl), ms ∈ mks4 ∧ δ = [.v (.scr ns), y1, .v .well, y3, y4, y5, y6, y7, y8, y9, y10, .v (.p (.tuple (ms.map .str))), y12, y13, y14, y15]
def B11 (ns : List Int) (δ : Dn) : Prop := ∃ (ms : List Str) (mk : Str) (y1 y2 y3 y4 y5 y6 y7 y8 y9 y10 y13 y14 y15 : Sl), (ms ∈ mks4 ∧ mk ∈ mk3) ∧ δ = [.v (.scr ns), y1, y2, y3, y4, y5, y6, y7, y8, y9, y10, .v (.p (.tuple (ms.map .str))), .v (.p (.str mk)), y13, y14, y15]
def B12 (ns : List Int) (δ : Dn) : Prop := ∃ (mk : Str) (y1 y2 y3 y4 y5 y6 y7 y8 y9 y10 y11 y13 y14 y15 : Sl), mk ∈ mk3 ∧ δ = [.v (.scr ns), y1, y2, y3, y4, y5, y6, y7, y8, y9, y10, y11, .v (.p (.str mk)), y13, y14, y15]
def B13 (ns : List Int) (δ : Dn) : Prop := ∃ (mk : Str) (y1 y2 y3 y4 y5 y6 y7 y8 y9 y10 y11 y14 y15 : Sl), mk ∈ mk3 ∧ δ = [.v (.scr ns), y1, y2, y3, y4, y5, y6, y7, y8, y9, y10, y11, .v (.p (.str mk)), .v (.p (.tuple (manyS.map .str))), y14, y15]
def insU (x : Str) : List Str → List Str
  | [] => [x]
  | y :: r => if x = y then y :: r else if ltS x y then x :: y :: r else y :: insU x r
def sU (l : List Str) : List Str := l.foldr insU []
def wmOk (l : List Str) : Bool := risB ((sU l).map .str) && (sU l).all (fun x => l.contains x) && l.all (fun x => (sU l).contains x) && gdB (.tuple ((sU l).map .str)) && decide ((sU l).length ≤ 20)
theorem wm_of {l : List Str} (h : wmOk l = true) : RisS (sU l) ∧ (∀ x, x ∈ sU l ↔ x ∈ l) ∧ Shows (.tuple ((sU l).map .str)) ∧ (sU l).length ≤ 20 := by
  unfold wmOk at h
  simp only [Bool.and_eq_true] at h
  obtain ⟨⟨⟨⟨h1, h2⟩, h3⟩, h4⟩, h5⟩ := h
  refine ⟨risB_iff.mp h1, fun x => ⟨fun m => List.contains_iff_mem.mp (List.all_eq_true.mp h2 x m), fun m => List.contains_iff_mem.mp (List.all_eq_true.mp h3 x m)⟩, ?_, of_decide_eq_true h5⟩
  exact (gd_chk (L := [.tuple ((sU l).map .str)]) (by simpa using h4) (by simp)).shows (by decide) (by decide)
theorem wm_all {ms : List Str} {mk : Str} (h1 : ms ∈ mks4) (h2 : mk ∈ mk3) : wmOk (ms ++ [mk]) = true :=
  List.all_eq_true.mp (List.all_eq_true.mp (show mks4.all (fun ms => mk3.all fun mk => wmOk (ms ++ [mk])) = true by decide +kernel) ms h1) mk h2
theorem wm_many {mk : Str} (h2 : mk ∈ mk3) : wmOk (manyS ++ [mk]) = true ∧ (manyS ++ [mk]).Nodup := by
  have h := List.all_eq_true.mp (show mk3.all (fun mk => wmOk (manyS ++ [mk]) && decide ((manyS ++ [mk]).Nodup)) = true by decide +kernel) mk h2
  rw [Bool.and_eq_true] at h
  exact ⟨h.1, of_decide_eq_true h.2⟩
theorem sorted_ris : ∀ {ys : List Str}, sortedS ys = true → ys.Nodup → risB (ys.map .str) = true
  | [], _, _ => rfl
  | [_], _, _ => rfl
  | x :: y :: r, h, nd => by
    have h' : (!ltCps y.cps.toList x.cps.toList && sortedS (y :: r)) = true := h
    rw [Bool.and_eq_true, Bool.not_eq_true'] at h'
    have h1 : ¬ y.cps.toList < x.cps.toList := fun z => by rw [ltCps_eq, decide_eq_true z] at h'; cases h'.1
    have nd2 := List.nodup_cons.mp nd
    have ne : x ≠ y := fun e => nd2.1 (e ▸ List.mem_cons_self)
    show (ltS x y && risB (.str y :: r.map .str)) = true
    rw [Bool.and_eq_true]
    refine ⟨?_, sorted_ris h'.2 nd2.2⟩
    unfold ltS
    rw [decide_eq_true_iff]
    by_cases hlt : x.cps.toList < y.cps.toList
    · exact hlt
    · exact absurd (PySem.W.str_of_cps (List.le_antisymm (List.not_lt.mp h1) (List.not_lt.mp hlt))) ne
def catB (z : PyData) : PyData := match z with
  | .str s => .str (sO "b" ++ s)
  | _ => .none
theorem str_cat_many : (signsD (Str.ofString "abcdefgh")).map catB = manyS.map .str := by rfl
theorem seqIx {k n : Nat} (h : k < n) : seqIndex? (k : Int) n = some k := by
  unfold seqIndex?
  simp only [show ¬ (k : Int) < 0 by omega, if_false]
  rw [if_pos (by simp; omega)]
  simp
theorem erase_strs : ∀ (L : List Str) (k : Nat), (L.map PyData.str).eraseIdx k = (L.eraseIdx k).map .str
  | [], _ => rfl
  | _ :: _, 0 => rfl
  | a :: r, k + 1 => by
    show PyData.str a :: (r.map PyData.str).eraseIdx k = _
    rw [erase_strs r k]
    rfl
theorem nm_eq (c : Nat) : (rngD 1 c).map aMul ++ [.str (Str.ofString "b"), .str (Str.ofString "aab")] = (nmS c false).map .str := by
  unfold nmS rngD
  rw [if_neg Bool.false_ne_true, List.append_nil, List.map_append, List.map_map, List.map_map]
  rfl
theorem nm_eq2 (c : Nat) : (nmS c false).map PyData.str ++ [.str (Str.ofString "aaaaaaaaaaab"), .str (Str.ofString "aaaaaaaaaaac")] = (nmS c true).map .str := by
  unfold nmS
  rw [if_neg Bool.false_ne_true, if_pos rfl, List.append_nil, List.map_append (l₂ := [sO "aaaaaaaaaaab", sO "aaaaaaaaaaac"])]
  rfl
theorem nm_len (c : Nat) (b : Bool) (hc : c ≤ 12) : (nmS c b).length ≤ 16 ∧ 0 < (nmS c b).length := by
  unfold nmS
  rw [List.length_append, List.length_append, List.length_map, List.length_range]
  cases b <;> simp <;> omega
def lineS : List Str := (List.range 12).map (fun (i : Nat) => Txt.mul (sO "a") (1 + (i : Int))) ++ (sO "bcdefghijklmnopqrstuvwxyz").cps.toList.map fun c => sO "aaaaaaaaaaa" ++ ⟨#[c]⟩
def JL (ns : List Int) (δ : Dn) : Prop := ∃ (y1 y2 y3 y4 y5 y6 y7 y8 y9 y10 y11 y12 y13 y14 : Sl), δ = [.v (.scr ns), y1, y2, y3, y4, y5, y6, y7, y8, y9, y10, y11, y12, y13, y14, .v (.p (.list (lineS.map .str)))]
def catA (z : PyData) : PyData := match z with
  | .str s => .str (sO "aaaaaaaaaaa" ++ s)
  | _ => .none
theorem line_eq : (rngD 1 12).map aMul ++ (signsD (Str.ofString "bcdefghijklmnopqrstuvwxyz")).map catA = lineS.map .str := by
  unfold lineS rngD signsD
  rw [List.map_append, List.map_map, List.map_map, List.map_map, List.map_map]
  rfl
def frB (L : List Str) (n : Nat) (x : Str) : Bool := decide (L.length ≤ 40) && decide (n ≤ 60) && (List.range n).all (fun m => L.contains (chN m)) && !L.contains (chN n) && decide (chN n = x)
theorem frB_of {L : List Str} {n : Nat} {x : Str} (h : frB L n x = true) : isFree L n ∧ chN n = x := by
  unfold frB at h
  simp only [Bool.and_eq_true, Bool.not_eq_true'] at h
  obtain ⟨⟨⟨⟨h1, h2⟩, h3⟩, h4⟩, h5⟩ := h
  refine ⟨⟨of_decide_eq_true h1, of_decide_eq_true h2, fun m hm => List.contains_iff_mem.mp (List.all_eq_true.mp h3 m (List.mem_range.mpr hm)), fun z => ?_⟩, of_decide_eq_true h5⟩
  rw [List.contains_iff_mem.mpr z] at h4
  cases h4
def J3 (ns : List Int) (zs : List PyData) (δ : Dn) : Prop := ∃ y1 y4 y5 y6 y7 y8 y9 y10 y11 y12 y13 y14 y15 : Sl, δ = [.v (.scr ns), y1, .v .well, .v (.p (.list zs)), y4, y5, y6, y7, y8, y9, y10, y11, y12, y13, y14, y15]
def J35 (ns : List Int) (zs : List PyData) (m : PyData) (δ : Dn) : Prop := ∃ y1 y4 y6 y7 y8 y9 y10 y11 y12 y13 y14 y15 : Sl, δ = [.v (.scr ns), y1, .v .well, .v (.p (.list zs)), y4, .v (.p m), y6, y7, y8, y9, y10, y11, y12, y13, y14, y15]
end MR

namespace MR
open PySem PySem.Spec PyProof.Rows L2
section
variable {P : Program} {w : World} {K : PySem.W.Frag} {mg : Str → Option Value} {base : Heap}
theorem ok_message_key (T : Tx K mg) {k : Nat} (hk : 1 ≤ k) : FnG P w K mg base CX0 k T.a_message_key T.d_message_key ["message"] (spD ⟨K, P, w⟩ gKey) :=
  (okB T.F_message_key sc_message_key (fun ds R h => by obtain ⟨_, _, _, _, rfl, _⟩ := h; rfl) fun cdv A gd outer s H E hr => ⟨_, (dss_cons (ds_asg (vs := [1, 2, 3, 4]) (dv 0) (dg_tup (n := 4) rfl (dgs_cons (dg_name (i := 1) (by decide) sc_message_key.nd rfl (by first | exact Or.inl rfl | exact Or.inr rfl)) (dgs_cons (dg_name (i := 2) (by decide) sc_message_key.nd rfl (by first | exact Or.inl rfl | exact Or.inr rfl)) (dgs_cons (dg_name (i := 3) (by decide) sc_message_key.nd rfl (by first | exact Or.inl rfl | exact Or.inr rfl)) (dgs_cons (dg_name (i := 4) (by decide) sc_message_key.nd rfl (by first | exact Or.inl rfl | exact Or.inr rfl)) dgs_nil))))))
    (dss_one (ds_ret (de_tup (da_cons (de_callB cd_len (by rfl) T.n_len bt_len (da_cons (dv 3) da_nil)) (da_cons (dv 3) (da_cons (de_callB cd_len (by rfl) T.n_len bt_len (da_cons (dv 4) da_nil)) (da_cons (de_callTy cd_tuple (by rfl) T.n_tuple bt_tuple (da_cons (dv 4) da_nil)) (da_cons (dv 2) (da_cons (dv 1) da_nil)))))))))), fun ds R h => by
      obtain ⟨s, a, x, ms, rfl, hx, hm, h⟩ := h
      unfold mkM
      simp only [dSeq, dNext, dBreak, dCont, dDrop, dRet, dRetN, dIfS, dSet, dB, dNotT, dAndT, dOrT, dNot, dAnd, dOr, dIf, dChain, dVar, dC, dOp, dUn, dNil, dCons, dCall, dTup, dLst, pyAll, dSl, dNo, dPart, dAsg, dPar, dDig, dMix, dPutD, dPutM, dM1, dFor, dItL, dItU, dItS, dItR1, dItR2, dItSc, dItZip, dLc, dYes, gdName, wipeD, asP, asB, asI, asS, asL, asU, sliceD, fCmp, fAdd, startD, fI, true_and, and_true, List.getD_cons_zero, List.getD_cons_succ, List.set_cons_zero, List.set_cons_succ, List.map_cons, List.map_nil, List.length_cons, List.length_nil, Nat.zero_add, Nat.reduceAdd, Nat.reduceSub, List.replicate, List.cons_append, List.nil_append, if_true, if_false, reduceIte, Bool.false_eq_true, Bool.not_true, Bool.not_false]
      refine ⟨rfl, _, _, rfl, _, _, rfl, _, _, rfl, _, _, rfl, rfl, ?_⟩
      simp only [dSeq, dNext, dBreak, dCont, dDrop, dRet, dRetN, dIfS, dSet, dB, dNotT, dAndT, dOrT, dNot, dAnd, dOr, dIf, dChain, dVar, dC, dOp, dUn, dNil, dCons, dCall, dTup, dLst, pyAll, dSl, dNo, dPart, dAsg, dPar, dDig, dMix, dPutD, dPutM, dM1, dFor, dItL, dItU, dItS, dItR1, dItR2, dItSc, dItZip, dLc, dYes, gdName, wipeD, asP, asB, asI, asS, asL, asU, sliceD, fCmp, fAdd, startD, fI, true_and, and_true, List.getD_cons_zero, List.getD_cons_succ, List.set_cons_zero, List.set_cons_succ, List.map_cons, List.map_nil, List.length_cons, List.length_nil, Nat.zero_add, Nat.reduceAdd, Nat.reduceSub, List.replicate, List.cons_append, List.nil_append, if_true, if_false, reduceIte, Bool.false_eq_true, Bool.not_true, Bool.not_false]
      refine len_str (sz hx) ?_
      refine len_tup (sz (by rw [List.length_map]; exact hm)) ⟨_, .inr rfl, by decide, ?_⟩
      rw [List.length_map]
      exact h⟩).mono hk
theorem ok_next_name (T : Tx K mg) {k : Nat} (hk : 1 ≤ k) : FnG P w K mg base CX0 k T.a_next_name T.d_next_name ["name"] (spD ⟨K, P, w⟩ gNext) :=
  (okB T.F_next_name sc_next_name (fun ds R h => by obtain ⟨_, _, rfl, _⟩ := h; rfl) fun cdv A gd outer s H E hr => ⟨_, (dss_cons (ds_if (dt_cmp od_lt (de_callB cd_len (by rfl) T.n_len bt_len (da_cons (dv 0) da_nil)) (de_glob (d := .p (.int 12)) (v := .int 12) (by rfl) T.c_MOST_LETTERS ⟨_, rfl⟩ (fun _ => rfl))) (dss_one (ds_ret (de_op od_add (dv 0) de_str))) dss_nil)
    (dss_cons (ds_set (i := 1) sc_next_name.nd rfl (by first | exact Or.inl rfl | exact Or.inr rfl) (de_rstrip (dv 0) de_str))
    (dss_one (ds_ret (de_op od_add (de_slice (dv 1) do_none (do_some (de_un ud_neg de_int))) (de_ix (de_glob (d := .p (.str "abcdefghijklmnopqrstuvwxyz")) (v := .str "abcdefghijklmnopqrstuvwxyz") (by rfl) T.c_LETTERS ⟨_, rfl⟩ (fun _ => rfl)) (de_op od_add (de_index (de_glob (d := .p (.str "abcdefghijklmnopqrstuvwxyz")) (v := .str "abcdefghijklmnopqrstuvwxyz") (by rfl) T.c_LETTERS ⟨_, rfl⟩ (fun _ => rfl)) (de_ix (dv 1) (de_un ud_neg de_int))) de_int))))))), fun ds R h => by
      obtain ⟨n, hn, rfl, h⟩ := h
      obtain ⟨hl, hl2, c, i, r, b, e1, e2, e3, e4⟩ := okN_of (okN_all n hn)
      simp only [dSeq, dNext, dBreak, dCont, dDrop, dRet, dRetN, dIfS, dSet, dB, dNotT, dAndT, dOrT, dNot, dAnd, dOr, dIf, dChain, dVar, dC, dOp, dUn, dNil, dCons, dCall, dTup, dLst, pyAll, dSl, dNo, dPart, dAsg, dPar, dDig, dMix, dPutD, dPutM, dM1, dFor, dItL, dItU, dItS, dItR1, dItR2, dItSc, dItZip, dLc, dYes, gdName, wipeD, asP, asB, asI, asS, asL, asU, sliceD, fCmp, fAdd, startD, fI, true_and, and_true, List.getD_cons_zero, List.getD_cons_succ, List.set_cons_zero, List.set_cons_succ, List.map_cons, List.map_nil, List.length_cons, List.length_nil, Nat.zero_add, Nat.reduceAdd, Nat.reduceSub, List.replicate, List.cons_append, List.nil_append, if_true, if_false, reduceIte, Bool.false_eq_true, Bool.not_true, Bool.not_false]
      refine len_str (sz hl) (lt_int ?_)
      by_cases h12 : (chN n).length < 12
      · rw [decide_eq_true (show ((chN n).length : Int) < 12 by omega)]
        refine ⟨sz (Nat.add_le_add hl (show (Str.ofString "a").length ≤ 1 by decide)), ?_⟩
        have e : chN (n + 1) = chN n ++ Str.ofString "a" := by
          show nextS (chN n) = _
          unfold nextS
          rw [if_pos h12]
        rw [e] at h
        exact h
      · rw [decide_eq_false (show ¬ ((chN n).length : Int) < 12 by omega)]
        have e : chN (n + 1) = cutS (Txt.rstripChars (chN n) zS) none (some (-1)) ++ ⟨#[b]⟩ := e4 h12
        rw [e] at h
        exact ⟨sz hl, sz hl2, sz hl2, c, e1, i, r, e2, by decide, b, e3, sz (Nat.add_le_add (cutS_len hl2) (Nat.le_refl 1)), h⟩⟩).mono hk
theorem ok_strange_name (T : Tx K mg) {k : Nat} (hk : 2 ≤ k) : FnG P w K mg base CX0 k T.a_strange_name T.d_strange_name ["names"] (spD ⟨K, P, w⟩ gFree) :=
  (okB T.F_strange_name sc_strange_name (fun ds R h => by obtain ⟨_, _, rfl | rfl, _⟩ := h <;> rfl) fun cdv A gd outer s H E hr => ⟨_, (dss_cons (ds_set (i := 1) sc_strange_name.nd rfl (by first | exact Or.inl rfl | exact Or.inr rfl) (de_callTy (cd_set rfl) (by rfl) T.n_set bt_set (da_cons (dv 0) da_nil)))
    (dss_cons (ds_set (i := 2) sc_strange_name.nd rfl (by first | exact Or.inl rfl | exact Or.inr rfl) de_str)
    (dss_cons (ds_while PassesOwn.never (dt_cmp od_inK (dv 2) (dv 1)) (dss_one (ds_set (i := 2) sc_strange_name.nd rfl (by first | exact Or.inl rfl | exact Or.inr rfl) (de_call (ok_next_name T (k := 1) (by decide)) gd hr (by rfl) T.m_next_name T.F_next_name.kp T.b_next_name pass0 (da_cons (dv 2) da_nil)))))
    (dss_one (ds_ret (dv 2)))))), fun ds R h => by
      obtain ⟨ns, n, hd, hl, hn, hin, hout, h⟩ := h
      have key : ∀ D : DV, dWhile (dB (dOp (fInK false) (dVar 2) (dVar 1))) (dSet 2 (dCall gNext (dCons (dVar 2) dNil))) { nx := dRet (dVar 2) { nx := fun x => R (DV.p PyData.none), rt := R }, rt := R } [.v D, .v (.set (ns.map Sum.inr)), .v (.p (.str (chN 0)))] := fun D => by
        refine ⟨fun m δ => ∃ j, m + j = n ∧ δ = [.v D, .v (.set (ns.map Sum.inr)), .v (.p (.str (chN j)))], ⟨n, 0, rfl, rfl⟩, fun m δ ⟨j, hj, e⟩ => ?_⟩
        subst e
        simp only [dSeq, dNext, dBreak, dCont, dDrop, dRet, dRetN, dIfS, dSet, dB, dNotT, dAndT, dOrT, dNot, dAnd, dOr, dIf, dChain, dVar, dC, dOp, dUn, dNil, dCons, dCall, dTup, dLst, pyAll, dSl, dNo, dPart, dAsg, dPar, dDig, dMix, dPutD, dPutM, dM1, dFor, dItL, dItU, dItS, dItR1, dItR2, dItSc, dItZip, dLc, dYes, gdName, wipeD, asP, asB, asI, asS, asL, asU, sliceD, fCmp, fAdd, startD, fI, true_and, and_true, List.getD_cons_zero, List.getD_cons_succ, List.set_cons_zero, List.set_cons_succ, List.map_cons, List.map_nil, List.length_cons, List.length_nil, Nat.zero_add, Nat.reduceAdd, Nat.reduceSub, List.replicate, List.cons_append, List.nil_append, if_true, if_false, reduceIte, Bool.false_eq_true, Bool.not_true, Bool.not_false]
        refine ⟨.inr (chN j), _, rfl, rfl, ?_⟩
        simp only [Bool.false_eq_true, if_false]
        by_cases hjn : j < n
        · rw [show hasK (ns.map Sum.inr) (.inr (chN j)) = true from hasK_iff.mpr (List.mem_map_of_mem (hin j hjn))]
          rw [if_pos rfl]
          refine ⟨fun δ' => δ' = [.v D, .v (.set (ns.map Sum.inr)), .v (.p (.str (chN (j + 1))))], fun δ' e => ⟨m - 1, by omega, j + 1, by omega, e⟩, ?_⟩
          exact ⟨j, by omega, rfl, rfl⟩
        · have ej : j = n := by omega
          subst ej
          rw [show hasK (ns.map Sum.inr) (.inr (chN j)) = false from Bool.eq_false_iff.mpr fun z => hout (by
            obtain ⟨y, hy, e⟩ := List.mem_map.mp (hasK_iff.mp z)
            cases e
            exact hy)]
          rw [if_neg Bool.false_ne_true]
          exact h
      rcases hd with rfl | rfl
      · simp only [dSeq, dNext, dBreak, dCont, dDrop, dRet, dRetN, dIfS, dSet, dB, dNotT, dAndT, dOrT, dNot, dAnd, dOr, dIf, dChain, dVar, dC, dOp, dUn, dNil, dCons, dCall, dTup, dLst, pyAll, dSl, dNo, dPart, dAsg, dPar, dDig, dMix, dPutD, dPutM, dM1, dFor, dItL, dItU, dItS, dItR1, dItR2, dItSc, dItZip, dLc, dYes, gdName, wipeD, asP, asB, asI, asS, asL, asU, sliceD, fCmp, fAdd, startD, fI, true_and, and_true, List.getD_cons_zero, List.getD_cons_succ, List.set_cons_zero, List.set_cons_succ, List.map_cons, List.map_nil, List.length_cons, List.length_nil, Nat.zero_add, Nat.reduceAdd, Nat.reduceSub, List.replicate, List.cons_append, List.nil_append, if_true, if_false, reduceIte, Bool.false_eq_true, Bool.not_true, Bool.not_false]
        exact ⟨_, ns.map Sum.inr, rfl, by show _ = List.map keyD _; rw [List.map_map]; rfl, by rw [List.length_map]; exact Nat.lt_of_le_of_lt (Nat.add_le_add_right hl 1) (by decide), key _⟩
      · simp only [dSeq, dNext, dBreak, dCont, dDrop, dRet, dRetN, dIfS, dSet, dB, dNotT, dAndT, dOrT, dNot, dAnd, dOr, dIf, dChain, dVar, dC, dOp, dUn, dNil, dCons, dCall, dTup, dLst, pyAll, dSl, dNo, dPart, dAsg, dPar, dDig, dMix, dPutD, dPutM, dM1, dFor, dItL, dItU, dItS, dItR1, dItR2, dItSc, dItZip, dLc, dYes, gdName, wipeD, asP, asB, asI, asS, asL, asU, sliceD, fCmp, fAdd, startD, fI, true_and, and_true, List.getD_cons_zero, List.getD_cons_succ, List.set_cons_zero, List.set_cons_succ, List.map_cons, List.map_nil, List.length_cons, List.length_nil, Nat.zero_add, Nat.reduceAdd, Nat.reduceSub, List.replicate, List.cons_append, List.nil_append, if_true, if_false, reduceIte, Bool.false_eq_true, Bool.not_true, Bool.not_false]
        exact ⟨_, ns.map Sum.inr, rfl, by show _ = List.map keyD _; rw [List.map_map]; rfl, by rw [List.length_map]; exact Nat.lt_of_le_of_lt (Nat.add_le_add_right hl 1) (by decide), key _⟩⟩).mono hk
theorem ok_with_mark (T : Tx K mg) {k : Nat} (hk : 1 ≤ k) : FnG P w K mg base CX0 k T.a_with_mark T.d_with_mark ["marks", "mark"] (spD ⟨K, P, w⟩ gWm) :=
  (okB T.F_with_mark sc_with_mark (fun ds R h => by obtain ⟨_, _, rfl, _⟩ := h; rfl) fun cdv A gd outer s H E hr => ⟨_, (dss_one (ds_ret (de_callTy cd_tuple (by rfl) T.n_tuple bt_tuple (da_cons (de_callB (cd_sortK rfl hr) (by rfl) T.n_sorted bt_sorted (da_cons (de_callTy (cd_set rfl) (by rfl) T.n_set bt_set (da_cons (de_lst (da_star (dv 0) (da_cons (dv 1) da_nil))) da_nil)) da_nil)) da_nil)))), fun ds R h => by
      obtain ⟨ms, mk, rfl, hl, h⟩ := h
      simp only [dSeq, dNext, dBreak, dCont, dDrop, dRet, dRetN, dIfS, dSet, dB, dNotT, dAndT, dOrT, dNot, dAnd, dOr, dIf, dChain, dVar, dC, dOp, dUn, dNil, dCons, dCall, dTup, dLst, pyAll, dSl, dNo, dPart, dAsg, dPar, dDig, dMix, dPutD, dPutM, dM1, dFor, dItL, dItU, dItS, dItR1, dItR2, dItSc, dItZip, dLc, dYes, gdName, wipeD, asP, asB, asI, asS, asL, asU, sliceD, fCmp, fAdd, startD, fI, true_and, and_true, List.getD_cons_zero, List.getD_cons_succ, List.set_cons_zero, List.set_cons_succ, List.map_cons, List.map_nil, List.length_cons, List.length_nil, Nat.zero_add, Nat.reduceAdd, Nat.reduceSub, List.replicate, List.cons_append, List.nil_append, if_true, if_false, reduceIte, Bool.false_eq_true, Bool.not_true, Bool.not_false]
      refine ⟨_, .inl rfl, pyAllApp ⟨by rw [List.length_append, List.length_map]; exact sz (Nat.add_le_add_right hl 1), _, (ms ++ [mk]).map Sum.inr, rfl, ?_, by rw [List.length_map, List.length_append]; exact Nat.lt_of_le_of_lt (Nat.add_le_add_right (Nat.add_le_add_right hl 1) 1) (by decide), ms ++ [mk], rfl, fun zs hr2 hm hz => ⟨_, .inl rfl, h zs hr2 hm hz⟩⟩⟩
      show ms.map .str ++ [.str mk] = List.map keyD ((ms ++ [mk]).map Sum.inr)
      rw [List.map_map, List.map_append]
      rfl⟩).mono hk
theorem ok_w_well (T : Tx K mg) {k : Nat} (hk : 1 ≤ k) : FnG P w K mg base CX0 k T.a_w_well T.d_w_well ["script", "start"] (spD ⟨K, P, w⟩ gWell) :=
  (okB T.F_w_well sc_w_well (fun ds R h => by obtain ⟨_, _, rfl, _⟩ := h; rfl) fun cdv A gd outer s H E hr => ⟨_, (dss_cons (ds_set (i := 2) sc_w_well.nd rfl (by first | exact Or.inl rfl | exact Or.inr rfl) (de_op od_add de_int (de_op od_mulB (dv 1) de_int)))
    (dss_cons (ds_for (vs := [3]) PassesOwn.never rfl (di_scr (dv 0)) (dg_name (i := 3) (by decide) sc_w_well.nd rfl (by first | exact Or.inl rfl | exact Or.inr rfl)) (dss_one (ds_set (i := 2) sc_w_well.nd rfl (by first | exact Or.inl rfl | exact Or.inr rfl) (de_op od_add (de_op od_mod (de_callTy cd_int (by rfl) T.n_int bt_int (da_cons (de_op od_pow (de_op od_add (de_op od_add (de_op od_mulB (dv 2) de_int) (de_op od_mulB (dv 3) (dv 3))) de_int) de_int) da_nil)) de_int) de_int))))
    (dss_cons (ds_set (i := 4) sc_w_well.nd rfl (by first | exact Or.inl rfl | exact Or.inr rfl) (de_if (dw_and (dt_cmp od_lt (dv 1) (de_callB cd_lenS (by rfl) T.n_len bt_len (da_cons (dv 0) da_nil))) (dw_and1 (dt_cmp od_ge (de_ixS (dv 0) (dv 1)) (de_op od_powC de_int de_int)))).pt (de_op od_sub (de_ixS (dv 0) (dv 1)) (de_op od_powC de_int de_int)) de_int))
    (dss_one (ds_ret (de_well (dv 4) (dv 2))))))), fun ds R h => by
      obtain ⟨ns, a, rfl, hn, hb, ha, h⟩ := h
      simp only [dSeq, dNext, dBreak, dCont, dDrop, dRet, dRetN, dIfS, dSet, dB, dNotT, dAndT, dOrT, dNot, dAnd, dOr, dIf, dChain, dVar, dC, dOp, dUn, dNil, dCons, dCall, dTup, dLst, pyAll, dSl, dNo, dPart, dAsg, dPar, dDig, dMix, dPutD, dPutM, dM1, dFor, dItL, dItU, dItS, dItR1, dItR2, dItSc, dItZip, dLc, dYes, gdName, wipeD, asP, asB, asI, asS, asL, asU, sliceD, fCmp, fAdd, startD, fI, true_and, and_true, List.getD_cons_zero, List.getD_cons_succ, List.set_cons_zero, List.set_cons_succ, List.map_cons, List.map_nil, List.length_cons, List.length_nil, Nat.zero_add, Nat.reduceAdd, Nat.reduceSub, List.replicate, List.cons_append, List.nil_append, if_true, if_false, reduceIte, Bool.false_eq_true, Bool.not_true, Bool.not_false]
      refine ⟨⟨bd32 (by omega), bd32 (by decide)⟩, ns, rfl, for_inv (fun δ => ∃ (j : Int) (y : Sl), WJ j ∧ δ = [.v (.scr ns), .v (.p (.int a)), .v (.p (.int j)), y, .un]) _ _ ⟨_, _, ⟨by omega, by omega⟩, rfl⟩ (fun d hd δ' ⟨j, y, wj, e⟩ E' _ hnx _ _ => ?_) fun δ' ⟨j, y, wj, e⟩ => ?_⟩
      · subst e
        obtain ⟨n, hn', rfl⟩ := List.mem_map.mp hd
        have bn := hb n hn'
        simp only [dSeq, dNext, dBreak, dCont, dDrop, dRet, dRetN, dIfS, dSet, dB, dNotT, dAndT, dOrT, dNot, dAnd, dOr, dIf, dChain, dVar, dC, dOp, dUn, dNil, dCons, dCall, dTup, dLst, pyAll, dSl, dNo, dPart, dAsg, dPar, dDig, dMix, dPutD, dPutM, dM1, dFor, dItL, dItU, dItS, dItR1, dItR2, dItSc, dItZip, dLc, dYes, gdName, wipeD, asP, asB, asI, asS, asL, asU, sliceD, fCmp, fAdd, startD, fI, true_and, and_true, List.getD_cons_zero, List.getD_cons_succ, List.set_cons_zero, List.set_cons_succ, List.map_cons, List.map_nil, List.length_cons, List.length_nil, Nat.zero_add, Nat.reduceAdd, Nat.reduceSub, List.replicate, List.cons_append, List.nil_append, if_true, if_false, reduceIte, Bool.false_eq_true, Bool.not_true, Bool.not_false]
        have b1 : Bd 30000000 n := bn.mono (by decide)
        have b2 : Bd 100 (j * 70141) := bd64 (by have := wj.1; have := wj.2; omega)
        have b3 : Bd 2097152 (n * n) := (bn.mul bn).mono (by decide)
        have b4 : Bd 2097153 (j * 70141 + n * n) := (b2.mono (by decide)).add b3
        have b5 : Bd 2097154 (j * 70141 + n * n + 43) := b4.add (bd32 (by decide))
        refine ⟨⟨bd32 (by have := wj.1; have := wj.2; omega), bd32 (by decide)⟩, ⟨b1, b1⟩, ⟨.inl rfl, b5.mono (by decide)⟩, _, rfl, by decide, hnx _ ⟨_, _, ⟨?_, ?_⟩, rfl⟩⟩
        · omega
        · omega
      · subst e
        simp only [dSeq, dNext, dBreak, dCont, dDrop, dRet, dRetN, dIfS, dSet, dB, dNotT, dAndT, dOrT, dNot, dAnd, dOr, dIf, dChain, dVar, dC, dOp, dUn, dNil, dCons, dCall, dTup, dLst, pyAll, dSl, dNo, dPart, dAsg, dPar, dDig, dMix, dPutD, dPutM, dM1, dFor, dItL, dItU, dItS, dItR1, dItR2, dItSc, dItZip, dLc, dYes, gdName, wipeD, asP, asB, asI, asS, asL, asU, sliceD, fCmp, fAdd, startD, fI, true_and, and_true, List.getD_cons_zero, List.getD_cons_succ, List.set_cons_zero, List.set_cons_succ, List.map_cons, List.map_nil, List.length_cons, List.length_nil, Nat.zero_add, Nat.reduceAdd, Nat.reduceSub, List.replicate, List.cons_append, List.nil_append, if_true, if_false, reduceIte, Bool.false_eq_true, Bool.not_true, Bool.not_false]
        refine ⟨ns, rfl, ?_⟩
        simp only [dSeq, dNext, dBreak, dCont, dDrop, dRet, dRetN, dIfS, dSet, dB, dNotT, dAndT, dOrT, dNot, dAnd, dOr, dIf, dChain, dVar, dC, dOp, dUn, dNil, dCons, dCall, dTup, dLst, pyAll, dSl, dNo, dPart, dAsg, dPar, dDig, dMix, dPutD, dPutM, dM1, dFor, dItL, dItU, dItS, dItR1, dItR2, dItSc, dItZip, dLc, dYes, gdName, wipeD, asP, asB, asI, asS, asL, asU, sliceD, fCmp, fAdd, startD, fI, true_and, and_true, List.getD_cons_zero, List.getD_cons_succ, List.set_cons_zero, List.set_cons_succ, List.map_cons, List.map_nil, List.length_cons, List.length_nil, Nat.zero_add, Nat.reduceAdd, Nat.reduceSub, List.replicate, List.cons_append, List.nil_append, if_true, if_false, reduceIte, Bool.false_eq_true, Bool.not_true, Bool.not_false]
        cases q : decide ((a : Int) < (ns.length : Int)) with
        | false =>
          exact ⟨⟨Int.le_refl 0, bd32 (by decide)⟩, wj, h⟩
        | true =>
          have q' : a < ns.length := by
            have := of_decide_eq_true q
            omega
          have hx : atI ns (a : Int) = some ns[a] := atI_nat (List.getElem?_eq_getElem q')
          refine ⟨ns, _, ns[a], rfl, rfl, hx, ⟨by decide, by decide, by decide⟩, ?_⟩
          simp only [dSeq, dNext, dBreak, dCont, dDrop, dRet, dRetN, dIfS, dSet, dB, dNotT, dAndT, dOrT, dNot, dAnd, dOr, dIf, dChain, dVar, dC, dOp, dUn, dNil, dCons, dCall, dTup, dLst, pyAll, dSl, dNo, dPart, dAsg, dPar, dDig, dMix, dPutD, dPutM, dM1, dFor, dItL, dItU, dItS, dItR1, dItR2, dItSc, dItZip, dLc, dYes, gdName, wipeD, asP, asB, asI, asS, asL, asU, sliceD, fCmp, fAdd, startD, fI, true_and, and_true, List.getD_cons_zero, List.getD_cons_succ, List.set_cons_zero, List.set_cons_succ, List.map_cons, List.map_nil, List.length_cons, List.length_nil, Nat.zero_add, Nat.reduceAdd, Nat.reduceSub, List.replicate, List.cons_append, List.nil_append, if_true, if_false, reduceIte, Bool.false_eq_true, Bool.not_true, Bool.not_false]
          cases q2 : decide ((10 : Int) ^ (Int.toNat 18) ≤ ns[a]) with
          | false =>
            exact ⟨⟨Int.le_refl 0, bd32 (by decide)⟩, wj, h⟩
          | true =>
            have z := of_decide_eq_true q2
            have z1 : (10 : Int) ^ (Int.toNat 18) = 1000000000000000000 := by decide
            rw [z1] at z
            refine ⟨ns, _, ns[a], rfl, rfl, hx, ⟨by decide, by decide, by decide⟩, ⟨?_, ?_⟩, wj, h⟩
            · rw [z1]
              omega
            · rw [z1]
              exact ((hb _ (List.getElem_mem q')).mono (by decide)).less (by omega)⟩).mono hk
theorem ok_w_draw (T : Tx K mg) {k : Nat} (hk : 1 ≤ k) : FnG P w K mg base CX0 k T.a_w_draw T.d_w_draw ["well", "many"] (spD ⟨K, P, w⟩ gDraw) :=
  (okB T.F_w_draw sc_w_draw (fun ds R h => by obtain ⟨_, rfl, _⟩ := h; rfl) fun cdv A gd outer s H E hr => ⟨_, (dss_cons (ds_if (dt_cmp od_ge (de_dig (u1 hr) (dv 0)) (dv 1)) (dss_cons (ds_set (i := 2) sc_w_draw.nd rfl (by first | exact Or.inl rfl | exact Or.inr rfl) (de_op od_mod (de_callTy cd_int (by rfl) T.n_int bt_int (da_cons (de_dig (u1 hr) (dv 0)) da_nil)) (dv 1)))
    (dss_cons (ds_putD (u1 hr) (dv 0) (de_op od_fdiv (de_dig (u1 hr) (dv 0)) (dv 1)))
    (dss_one (ds_ret (dv 2))))) dss_nil)
    (dss_cons (ds_putM (u1 hr) (dv 0) (de_op od_mod (de_callTy cd_int (by rfl) T.n_int bt_int (da_cons (de_op od_add (de_op od_mulB (de_mix (u1 hr) (dv 0)) de_int) de_int) da_nil)) de_int))
    (dss_one (ds_ret (de_op od_mod (de_op od_fdiv (de_op od_mod (de_callTy cd_int (by rfl) T.n_int bt_int (da_cons (de_op od_pow (de_op od_mod (de_callTy cd_int (by rfl) T.n_int bt_int (da_cons (de_op od_pow (de_mix (u1 hr) (dv 0)) de_int) da_nil)) de_int) de_int) da_nil)) de_int) de_int) (dv 1)))))), fun ds R h => by
      obtain ⟨m, rfl, m0, m1, h⟩ := h
      have hR : ∀ x : Int, R (.p (.int (x % m))) := fun x => by
        have e1 := Int.emod_nonneg x (show m ≠ 0 by omega)
        have e2 := Int.emod_lt_of_pos x m0
        have e3 := h (x % m).toNat (by omega)
        rw [show (((x % m).toNat : Nat) : Int) = x % m by omega] at e3
        exact e3
      simp only [dSeq, dNext, dBreak, dCont, dDrop, dRet, dRetN, dIfS, dSet, dB, dNotT, dAndT, dOrT, dNot, dAnd, dOr, dIf, dChain, dVar, dC, dOp, dUn, dNil, dCons, dCall, dTup, dLst, pyAll, dSl, dNo, dPart, dAsg, dPar, dDig, dMix, dPutD, dPutM, dM1, dFor, dItL, dItU, dItS, dItR1, dItR2, dItSc, dItZip, dLc, dYes, gdName, wipeD, asP, asB, asI, asS, asL, asU, sliceD, fCmp, fAdd, startD, fI, true_and, and_true, List.getD_cons_zero, List.getD_cons_succ, List.set_cons_zero, List.set_cons_succ, List.map_cons, List.map_nil, List.length_cons, List.length_nil, Nat.zero_add, Nat.reduceAdd, Nat.reduceSub, List.replicate, List.cons_append, List.nil_append, if_true, if_false, reduceIte, Bool.false_eq_true, Bool.not_true, Bool.not_false]
      intro i wi
      cases decide (m ≤ i) with
      | true =>
        intro i wi
        refine ⟨i, rfl, m0, fun i1 wi1 => ⟨⟨by omega, by omega⟩, ⟨?_, ?_⟩, hR _⟩⟩
        · rw [Int.fdiv_eq_ediv_of_nonneg _ (by omega)]
          exact Int.ediv_nonneg wi1.1 (by omega)
        · refine wi1.2.less ?_
          rw [Int.fdiv_eq_ediv_of_nonneg _ (by omega)]
          have e1 := Int.ediv_nonneg wi1.1 (show 0 ≤ m by omega)
          have e2 := Int.ediv_le_self m wi1.1
          omega
      | false =>
        intro j wj
        refine ⟨⟨bd32 (by have := wj.1; have := wj.2; omega), bd32 (by decide)⟩, _, rfl, by decide, ⟨by omega, by omega⟩, fun j2 wj2 => ⟨⟨.inl rfl, bd32 (by have := wj2.1; have := wj2.2; omega)⟩, _, rfl, by decide, ⟨.inr rfl, bd32 (by omega)⟩, _, rfl, by decide, ⟨by decide, by decide⟩, m0, hR _⟩⟩⟩).mono hk
theorem ok_w_choose (T : Tx K mg) {k : Nat} (hk : 2 ≤ k) : FnG P w K mg base CX0 k T.a_w_choose T.d_w_choose ["well", "things"] (spD ⟨K, P, w⟩ gChoose) :=
  (okB T.F_w_choose sc_w_choose (fun ds R h => by obtain ⟨_, rfl, _⟩ := h; rfl) fun cdv A gd outer s H E hr => ⟨_, (dss_one (ds_ret (de_ix (dv 1) (de_call (ok_w_draw T (k := 1) (by decide)) gd hr (by rfl) T.m_w_draw T.F_w_draw.kp T.b_w_draw pass0 (da_cons (dv 0) (da_cons (de_callB cd_len (by rfl) T.n_len bt_len (da_cons (dv 1) da_nil)) da_nil)))))), fun ds R h => by
      obtain ⟨xs, rfl, h0, h1, h⟩ := h
      simp only [dSeq, dNext, dBreak, dCont, dDrop, dRet, dRetN, dIfS, dSet, dB, dNotT, dAndT, dOrT, dNot, dAnd, dOr, dIf, dChain, dVar, dC, dOp, dUn, dNil, dCons, dCall, dTup, dLst, pyAll, dSl, dNo, dPart, dAsg, dPar, dDig, dMix, dPutD, dPutM, dM1, dFor, dItL, dItU, dItS, dItR1, dItR2, dItSc, dItZip, dLc, dYes, gdName, wipeD, asP, asB, asI, asS, asL, asU, sliceD, fCmp, fAdd, startD, fI, true_and, and_true, List.getD_cons_zero, List.getD_cons_succ, List.set_cons_zero, List.set_cons_succ, List.map_cons, List.map_nil, List.length_cons, List.length_nil, Nat.zero_add, Nat.reduceAdd, Nat.reduceSub, List.replicate, List.cons_append, List.nil_append, if_true, if_false, reduceIte, Bool.false_eq_true, Bool.not_true, Bool.not_false]
      refine len_lst (by exact Nat.le_trans (Nat.le_of_lt h1) (by decide)) ⟨_, rfl, by omega, by omega, fun k hk => ?_⟩
      have hk' : k < xs.length := by omega
      exact ⟨xs[k], atI_nat (List.getElem?_eq_getElem hk'), h _ (List.getElem_mem hk')⟩⟩).mono hk
theorem ok_w_before (T : Tx K mg) {k : Nat} (hk : 1 ≤ k) : FnG P w K mg base CX0 k T.a_w_before T.d_w_before ["one", "other"] (spD ⟨K, P, w⟩ gBef) :=
  (okB T.F_w_before sc_w_before (fun ds R h => by obtain ⟨_, _, _, _, _, _, _, _, rfl, _⟩ := h; rfl) fun cdv A gd outer s H E hr => ⟨_, (dss_cons (ds_set (i := 2) sc_w_before.nd rfl (by first | exact Or.inl rfl | exact Or.inr rfl) (de_lst (da_cons (de_tup (da_cons (de_callB cd_len (by rfl) T.n_len bt_len (da_cons (de_ix (dv 0) de_int) da_nil)) (da_cons (de_callB cd_len (by rfl) T.n_len bt_len (da_cons (de_ix (dv 1) de_int) da_nil)) da_nil))) (da_cons (de_tup (da_cons (de_ix (dv 0) de_int) (da_cons (de_ix (dv 1) de_int) da_nil))) (da_cons (de_tup (da_cons (de_callB cd_len (by rfl) T.n_len bt_len (da_cons (de_ix (dv 0) de_int) da_nil)) (da_cons (de_callB cd_len (by rfl) T.n_len bt_len (da_cons (de_ix (dv 1) de_int) da_nil)) da_nil))) da_nil)))))
    (dss_cons (ds_set (i := 2) sc_w_before.nd rfl (by first | exact Or.inl rfl | exact Or.inr rfl) (de_op od_add (dv 2) (de_lst (da_cons (de_tup (da_cons (de_ix (dv 0) de_int) (da_cons (de_ix (dv 1) de_int) da_nil))) da_nil))))
    (dss_cons (ds_set (i := 2) sc_w_before.nd rfl (by first | exact Or.inl rfl | exact Or.inr rfl) (de_op od_add (dv 2) (de_lst (da_cons (de_tup (da_cons (de_ix (dv 0) de_int) (da_cons (de_ix (dv 1) de_int) da_nil))) (da_cons (de_tup (da_cons (de_ix (dv 0) de_int) (da_cons (de_ix (dv 1) de_int) da_nil))) da_nil)))))
    (dss_cons (ds_for (vs := [3, 4]) PassesOwn.never rfl (di_list (dv 2)) (dg_tup (n := 2) rfl (dgs_cons (dg_name (i := 3) (by decide) sc_w_before.nd rfl (by first | exact Or.inl rfl | exact Or.inr rfl)) (dgs_cons (dg_name (i := 4) (by decide) sc_w_before.nd rfl (by first | exact Or.inl rfl | exact Or.inr rfl)) dgs_nil))) (dss_one (ds_if (dt_cmp (od_neQ hr.units) (dv 3) (dv 4)) (dss_one (ds_ret (de_cmp (od_ltA hr.units) (dv 3) (dv 4)))) dss_nil)))
    (dss_one (ds_ret de_bl)))))), fun ds R h => by
      obtain ⟨s, a, x, ms, s', a', x', ms', rfl, h1, h2, h3, h4, h⟩ := h
      unfold mkM
      simp only [dSeq, dNext, dBreak, dCont, dDrop, dRet, dRetN, dIfS, dSet, dB, dNotT, dAndT, dOrT, dNot, dAnd, dOr, dIf, dChain, dVar, dC, dOp, dUn, dNil, dCons, dCall, dTup, dLst, pyAll, dSl, dNo, dPart, dAsg, dPar, dDig, dMix, dPutD, dPutM, dM1, dFor, dItL, dItU, dItS, dItR1, dItR2, dItSc, dItZip, dLc, dYes, gdName, wipeD, asP, asB, asI, asS, asL, asU, sliceD, fCmp, fAdd, startD, fI, true_and, and_true, List.getD_cons_zero, List.getD_cons_succ, List.set_cons_zero, List.set_cons_succ, List.map_cons, List.map_nil, List.length_cons, List.length_nil, Nat.zero_add, Nat.reduceAdd, Nat.reduceSub, List.replicate, List.cons_append, List.nil_append, if_true, if_false, reduceIte, Bool.false_eq_true, Bool.not_true, Bool.not_false]
      refine ⟨_, rfl, len_str (sz h1) ⟨_, rfl, len_str (sz h3) ⟨by decide, _, rfl, _, rfl, by decide, _, rfl, len_tup (sz (by rw [List.length_map]; exact h2)) ⟨_, rfl, len_tup (sz (by rw [List.length_map]; exact h4)) ⟨by decide, by decide, _, rfl, _, rfl, by decide, by decide, by decide, ?_⟩⟩⟩⟩⟩
      refine ⟨_, rfl, _, rfl, by decide, _, rfl, _, rfl, by decide, by decide, by decide, ?_⟩
      rw [List.length_map, List.length_map]
      exact bef_loop (rowsM s a x ms s' a' x' ms') _ _ _ (rows_ok s a x ms s' a' x' ms') h⟩).mono hk
theorem ok_w_strange (T : Tx K mg) {k : Nat} (hk : 1 ≤ k) : FnG P w K mg base CX0 k T.a_w_strange T.d_w_strange ["names"] (spD ⟨K, P, w⟩ gFreeL) :=
  (okB T.F_w_strange sc_w_strange (fun ds R h => by obtain ⟨_, _, rfl, _⟩ := h; rfl) fun cdv A gd outer s H E hr => ⟨_, (dss_cons (ds_set (i := 1) sc_w_strange.nd rfl (by first | exact Or.inl rfl | exact Or.inr rfl) de_str)
    (dss_one (ds_while PassesOwn.never (dt_val de_bl) (dss_cons (ds_if (dt_cmp od_lt (de_callB cd_len (by rfl) T.n_len bt_len (da_cons (dv 1) da_nil)) de_int) (dss_one (ds_set (i := 1) sc_w_strange.nd rfl (by first | exact Or.inl rfl | exact Or.inr rfl) (de_op od_add (dv 1) de_str))) (dss_cons (ds_set (i := 2) sc_w_strange.nd rfl (by first | exact Or.inl rfl | exact Or.inr rfl) (de_rstrip (dv 1) de_str))
    (dss_cons (ds_set (i := 3) sc_w_strange.nd rfl (by first | exact Or.inl rfl | exact Or.inr rfl) de_str)
    (dss_one (ds_set (i := 1) sc_w_strange.nd rfl (by first | exact Or.inl rfl | exact Or.inr rfl) (de_op od_add (de_slice (dv 2) do_none (do_some (de_un ud_neg de_int))) (de_ix (dv 3) (de_op od_add (de_index (dv 3) (de_ix (dv 2) (de_un ud_neg de_int))) de_int))))))))
    (dss_one (ds_if (dt_cmp od_notin (dv 1) (dv 0)) (dss_one (ds_ret (dv 1))) dss_nil)))))), fun ds R h => by
      obtain ⟨ns, n, rfl, hl, hn, hin, hout, h⟩ := h
      simp only [dSeq, dNext, dBreak, dCont, dDrop, dRet, dRetN, dIfS, dSet, dB, dNotT, dAndT, dOrT, dNot, dAnd, dOr, dIf, dChain, dVar, dC, dOp, dUn, dNil, dCons, dCall, dTup, dLst, pyAll, dSl, dNo, dPart, dAsg, dPar, dDig, dMix, dPutD, dPutM, dM1, dFor, dItL, dItU, dItS, dItR1, dItR2, dItSc, dItZip, dLc, dYes, gdName, wipeD, asP, asB, asI, asS, asL, asU, sliceD, fCmp, fAdd, startD, fI, true_and, and_true, List.getD_cons_zero, List.getD_cons_succ, List.set_cons_zero, List.set_cons_succ, List.map_cons, List.map_nil, List.length_cons, List.length_nil, Nat.zero_add, Nat.reduceAdd, Nat.reduceSub, List.replicate, List.cons_append, List.nil_append, if_true, if_false, reduceIte, Bool.false_eq_true, Bool.not_true, Bool.not_false]
      refine ⟨fun m δ => ∃ j y2 y3, m + j = n ∧ δ = [.v (.p (.list (ns.map .str))), .v (.p (.str (prevN j))), y2, y3], ⟨n, 0, .un, .un, rfl, rfl⟩, fun m δ ⟨j, y2, y3, hj, e⟩ => ?_⟩
      subst e
      simp only [dSeq, dNext, dBreak, dCont, dDrop, dRet, dRetN, dIfS, dSet, dB, dNotT, dAndT, dOrT, dNot, dAnd, dOr, dIf, dChain, dVar, dC, dOp, dUn, dNil, dCons, dCall, dTup, dLst, pyAll, dSl, dNo, dPart, dAsg, dPar, dDig, dMix, dPutD, dPutM, dM1, dFor, dItL, dItU, dItS, dItR1, dItR2, dItSc, dItZip, dLc, dYes, gdName, wipeD, asP, asB, asI, asS, asL, asU, sliceD, fCmp, fAdd, startD, fI, true_and, and_true, List.getD_cons_zero, List.getD_cons_succ, List.set_cons_zero, List.set_cons_succ, List.map_cons, List.map_nil, List.length_cons, List.length_nil, Nat.zero_add, Nat.reduceAdd, Nat.reduceSub, List.replicate, List.cons_append, List.nil_append, if_true, if_false, reduceIte, Bool.false_eq_true, Bool.not_true, Bool.not_false]
      have hin' : ∀ {Z : Prop} {K : DV → Prop} (c : Str), chN j = c → ((chN j ∉ ns → K (.p (.bool true))) ∧ (chN j ∈ ns → K (.p (.bool false)))) → fIn true (.p (.str c)) (.p (.list (ns.map .str))) K := fun c e q => by
        subst e
        refine ⟨_, .inl rfl, rfl, flat_strs ns, ?_⟩
        rw [has_strs, if_pos rfl]
        by_cases hc : chN j ∈ ns
        · rw [decide_eq_true hc]; exact q.2 hc
        · rw [decide_eq_false hc]; exact q.1 hc
      have step : ∀ (N : Dn → Prop) (z2 z3 : Sl), N = (fun δ' => ∃ z2 z3, δ' = [.v (.p (.list (ns.map .str))), .v (.p (.str (chN j))), z2, z3] ∧ j < n) → ((chN j ∉ ns → R (.p (.str (chN j)))) ∧ (chN j ∈ ns → N [.v (.p (.list (ns.map .str))), .v (.p (.str (chN j))), z2, z3])) := fun N z2 z3 e => by
        have hj' : j ≤ n := by omega
        refine ⟨fun hc => ?_, fun hc => ?_⟩
        · have ej : j = n := by
            rcases Nat.lt_or_ge j n with q | q
            · exact absurd (hin j q) hc
            · omega
          rw [ej]; exact h
        · rw [e]
          refine ⟨z2, z3, rfl, ?_⟩
          rcases Nat.lt_or_ge j n with q | q
          · exact q
          · have ej : j = n := by omega
            rw [ej] at hc
            exact absurd hc hout
      refine ⟨fun δ' => ∃ z2 z3, δ' = [.v (.p (.list (ns.map .str))), .v (.p (.str (chN j))), z2, z3] ∧ j < n, fun δ' ⟨z2, z3, e, q⟩ => ⟨m - 1, by omega, j + 1, z2, z3, by omega, e⟩, ?_⟩
      have pn := prev_next j
      have hl12 : (prevN j).length ≤ 12 := by
        cases j with
        | zero => decide
        | succ j => exact (okN_of (okN_all j (by omega))).1
      refine len_str (sz hl12) (lt_int ?_)
      by_cases h12 : (prevN j).length < 12
      · rw [decide_eq_true (show ((prevN j).length : Int) < 12 by omega)]
        refine ⟨sz (Nat.add_le_add hl12 (show (Str.ofString "a").length ≤ 1 by decide)), ?_⟩
        have e : chN j = prevN j ++ Str.ofString "a" := by
          rw [← pn]
          unfold nextS
          rw [if_pos h12]
        have st := step _ y2 y3 rfl
        rw [e] at st
        exact hin' (Z := True) _ e (by rw [e]; exact st)
      · cases j with
        | zero => exact absurd (show (prevN 0).length < 12 by decide) h12
        | succ j =>
          obtain ⟨_, hl2, c, i, r, b, e1, e2, e3, e4⟩ := okN_of (okN_all j (by omega))
          rw [decide_eq_false (show ¬ ((prevN (j + 1)).length : Int) < 12 by omega)]
          have e : chN (j + 1) = cutS (Txt.rstripChars (chN j) zS) none (some (-1)) ++ ⟨#[b]⟩ := e4 h12
          refine ⟨sz hl12, sz hl2, sz hl2, c, e1, i, r, e2, by decide, b, e3, sz (Nat.add_le_add (cutS_len hl2) (Nat.le_refl 1)), ?_⟩
          have st := step _ (.v (.p (.str (Txt.rstripChars (chN j) zS)))) (.v (.p (.str ltrs))) rfl
          rw [e] at st
          exact hin' (Z := True) _ e (by rw [e]; exact st)⟩).mono hk
theorem ok_w_one (T : Tx K mg) {k : Nat} (hk : 3 ≤ k) : FnG P w K mg base CX0 k T.a_w_one T.d_w_one ["well"] (spD ⟨K, P, w⟩ gOne2) :=
  (okB T.F_w_one sc_w_one (fun ds R h => by obtain ⟨rfl, _⟩ := h; rfl) fun cdv A gd outer s H E hr => ⟨_, (dss_cons (ds_set (i := 1) sc_w_one.nd rfl (by first | exact Or.inl rfl | exact Or.inr rfl) (de_call (ok_w_choose T (k := 2) (by decide)) gd hr (by rfl) T.m_w_choose T.F_w_choose.kp T.b_w_choose pass0 (da_cons (dv 0) (da_cons (de_lst (da_cons de_str (da_cons de_str (da_cons de_str (da_cons de_str (da_cons de_str (da_cons de_str da_nil))))))) da_nil))))
    (dss_cons (ds_set (i := 2) sc_w_one.nd rfl (by first | exact Or.inl rfl | exact Or.inr rfl) (de_call (ok_w_choose T (k := 2) (by decide)) gd hr (by rfl) T.m_w_choose T.F_w_choose.kp T.b_w_choose pass0 (da_cons (dv 0) (da_cons (de_lst (da_cons (de_tup da_nil) (da_cons (de_tup (da_cons de_str da_nil)) (da_cons (de_tup (da_cons de_str da_nil)) (da_cons (de_tup (da_cons de_str (da_cons de_str da_nil))) (da_cons (de_tup (da_cons de_str (da_cons de_str da_nil))) da_nil)))))) da_nil))))
    (dss_one (ds_ret (de_tup (da_cons (de_call (ok_w_choose T (k := 2) (by decide)) gd hr (by rfl) T.m_w_choose T.F_w_choose.kp T.b_w_choose pass0 (da_cons (dv 0) (da_cons (de_lst (da_cons de_str (da_cons de_str (da_cons de_str da_nil)))) da_nil))) (da_cons (de_call (ok_w_choose T (k := 2) (by decide)) gd hr (by rfl) T.m_w_choose T.F_w_choose.kp T.b_w_choose pass0 (da_cons (dv 0) (da_cons (de_lst (da_cons de_str (da_cons de_str (da_cons de_str da_nil)))) da_nil))) (da_cons (dv 1) (da_cons (dv 2) da_nil))))))))), fun ds R h => by
      obtain ⟨rfl, h⟩ := h
      simp only [dSeq, dNext, dBreak, dCont, dDrop, dRet, dRetN, dIfS, dSet, dB, dNotT, dAndT, dOrT, dNot, dAnd, dOr, dIf, dChain, dVar, dC, dOp, dUn, dNil, dCons, dCall, dTup, dLst, pyAll, dSl, dNo, dPart, dAsg, dPar, dDig, dMix, dPutD, dPutM, dM1, dFor, dItL, dItU, dItS, dItR1, dItR2, dItSc, dItZip, dLc, dYes, gdName, wipeD, asP, asB, asI, asS, asL, asU, sliceD, fCmp, fAdd, startD, fI, true_and, and_true, List.getD_cons_zero, List.getD_cons_succ, List.set_cons_zero, List.set_cons_succ, List.map_cons, List.map_nil, List.length_cons, List.length_nil, Nat.zero_add, Nat.reduceAdd, Nat.reduceSub, List.replicate, List.cons_append, List.nil_append, if_true, if_false, reduceIte, Bool.false_eq_true, Bool.not_true, Bool.not_false]
      refine ⟨by decide, _, rfl, by decide, by decide, fun x hx => ⟨by decide, by decide, by decide, by decide, by decide, by decide, _, rfl, by decide, by decide, fun m hm => ⟨by decide, _, rfl, by decide, by decide, fun s hs => ⟨by decide, _, rfl, by decide, by decide, fun a ha => ⟨by decide, ?_⟩⟩⟩⟩⟩
      obtain ⟨x', rfl, lx⟩ := str10 (by decide +kernel) hx
      obtain ⟨s', rfl, ls⟩ := str10 (by decide +kernel) hs
      obtain ⟨a', rfl, la⟩ := str10 (by decide +kernel) ha
      obtain ⟨ms, rfl, lm⟩ := marks2 (by decide +kernel) hm
      exact h s' a' x' ms ls la lx lm⟩).mono hk
theorem law_s0b0 (T : Tx K mg) {fa : Addr} {fd : FuncData} (F : Fun K "law" "law" s_law fa fd) (cdv : Value) (A : Around) (gd : A.guards = some []) (outer : List PySem.Env) (s : Shared) (H : Hp) (E : XK) (hr : Room 3 (A.deeper (envOfC "law" (defScope s_law) s.heap.objs.size fa cdv))) : ∃ t, PS (cxOf CX0 P w K mg base ["script", "start", "well", "some", "turn", "one", "other", "names", "count", "seen", "due", "marks", "mark", "many", "sign", "line"] "law" (defScope s_law) fa cdv A outer s H E).nox ((forBody ((defBody s_law).getD 0 (.Pass ⟨0, 0, 0, 0⟩))).getD 0 (.Pass ⟨0, 0, 0, 0⟩)) (upS ⟨K, P, w⟩ t) ∧ ∀ (ns : List Int), ns.length ≤ 63 → (∀ n ∈ ns, Bd 1048576 n) → ∀ (D : DE) (δ : Dn), B0 ns δ → D.rt (.p (.bool true)) → (∀ δ', B1 ns δ' → D.nx δ') → t D δ :=
  ⟨_, (ds_set (i := 2) sc_law.nd rfl (by first | exact Or.inl rfl | exact Or.inr rfl) (de_call (ok_w_well T (k := 3) (by decide)) gd hr (by rfl) T.m_w_well T.F_w_well.kp T.b_w_well pass0 (da_cons (dv 0) (da_cons (dv 1) da_nil)))), fun ns hn hb D δ hI hT hN => by
      obtain ⟨k, y2, y3, y4, y5, y6, y7, y8, y9, y10, y11, y12, y13, y14, y15, hc, e⟩ := hI
      subst e
      exact ⟨ns, k, rfl, hn, hb, hc, hN _ ⟨_, _, _, _, _, _, _, _, _, _, _, _, _, _, rfl⟩⟩⟩
theorem law_s0b1 (T : Tx K mg) {fa : Addr} {fd : FuncData} (F : Fun K "law" "law" s_law fa fd) (cdv : Value) (A : Around) (gd : A.guards = some []) (outer : List PySem.Env) (s : Shared) (H : Hp) (E : XK) (hr : Room 3 (A.deeper (envOfC "law" (defScope s_law) s.heap.objs.size fa cdv))) : ∃ t, PS (cxOf CX0 P w K mg base ["script", "start", "well", "some", "turn", "one", "other", "names", "count", "seen", "due", "marks", "mark", "many", "sign", "line"] "law" (defScope s_law) fa cdv A outer s H E).nox ((forBody ((defBody s_law).getD 0 (.Pass ⟨0, 0, 0, 0⟩))).getD 1 (.Pass ⟨0, 0, 0, 0⟩)) (upS ⟨K, P, w⟩ t) ∧ ∀ (ns : List Int), ns.length ≤ 63 → (∀ n ∈ ns, Bd 1048576 n) → ∀ (D : DE) (δ : Dn), B1 ns δ → D.rt (.p (.bool true)) → (∀ δ', B2 ns δ' → D.nx δ') → t D δ :=
  ⟨_, (ds_setLc (i := 3) rfl sc_law.nd rfl rfl (sw_true rfl rfl rfl (by decide +kernel)) (own := [("turn", 4)]) (di_rng1 (by rfl) T.n_range (da_cons de_int da_nil)) (blkOk_by (N := ["script", "start", "well", "some", "turn", "one", "other", "names", "count", "seen", "due", "marks", "mark", "many", "sign", "line"]) (own := [("turn", 4)]) (sc := defScope s_law) (by decide +kernel)) (fun _ _ _ _ _ => (dg_name (i := 4) (by decide) sc_law.nd rfl (by first | exact Or.inl rfl | exact Or.inr rfl))) (fun _ _ _ _ _ => dts_nil) (fun _ _ _ _ _ => (de_call (ok_w_one T (k := 3) (by decide)) gd hr (by rfl) T.m_w_one T.F_w_one.kp T.b_w_one pass0 (da_cons (dv 2) da_nil)))), fun ns hn hb D δ hI hT hN => by
      obtain ⟨y1, y3, y4, y5, y6, y7, y8, y9, y10, y11, y12, y13, y14, y15, e⟩ := hI
      subst e
      refine ⟨9, rfl, by decide, by decide, by decide, lc_rel isM _ [] (fun d3 hd3 K1 hk2 => ?_) fun zs lz pz => ?_⟩
      · exact ⟨rfl, fun s a x ms hs ha hx hm => hk2 _ ⟨s, a, x, ms, rfl, hx, hm⟩⟩
      rw [List.nil_append]
      exact hN _ ⟨zs, _, _, _, _, _, _, _, _, _, _, _, _, _, pz, rfl⟩⟩
theorem law_s0b2 (T : Tx K mg) {fa : Addr} {fd : FuncData} (F : Fun K "law" "law" s_law fa fd) (cdv : Value) (A : Around) (gd : A.guards = some []) (outer : List PySem.Env) (s : Shared) (H : Hp) (E : XK) (hr : Room 3 (A.deeper (envOfC "law" (defScope s_law) s.heap.objs.size fa cdv))) : ∃ t, PS (cxOf CX0 P w K mg base ["script", "start", "well", "some", "turn", "one", "other", "names", "count", "seen", "due", "marks", "mark", "many", "sign", "line"] "law" (defScope s_law) fa cdv A outer s H E).nox ((forBody ((defBody s_law).getD 0 (.Pass ⟨0, 0, 0, 0⟩))).getD 2 (.Pass ⟨0, 0, 0, 0⟩)) (upS ⟨K, P, w⟩ t) ∧ ∀ (ns : List Int), ns.length ≤ 63 → (∀ n ∈ ns, Bd 1048576 n) → ∀ (D : DE) (δ : Dn), B2 ns δ → D.rt (.p (.bool true)) → (∀ δ', B3 ns δ' → D.nx δ') → t D δ :=
  ⟨_, (ds_for (vs := [5]) PassesOwn.never rfl (di_list (dv 3)) (dg_name (i := 5) (by decide) sc_law.nd rfl (by first | exact Or.inl rfl | exact Or.inr rfl)) (dss_one (ds_for (vs := [6]) PassesOwn.never rfl (di_list (dv 3)) (dg_name (i := 6) (by decide) sc_law.nd rfl (by first | exact Or.inl rfl | exact Or.inr rfl)) (dss_cons (ds_if (dt_not (dt_val (de_callB cd_isi (by rfl) T.n_isinstance bt_isinstance (da_cons (de_call (ok_message_key T (k := 3) (by decide)) gd hr (by rfl) T.m_message_key T.F_message_key.kp T.b_message_key pass0 (da_cons (dv 5) da_nil)) (da_cons (de_bltn (v := .ty "tuple") (u := .type "tuple") (by rfl) T.n_tuple bt_tuple rfl) da_nil))))) (dss_one (ds_ret de_bl)) dss_nil)
    (dss_cons (ds_if (dt_cmp (od_neQ hr.units) (de_cmp (od_ltA hr.units) (de_call (ok_message_key T (k := 3) (by decide)) gd hr (by rfl) T.m_message_key T.F_message_key.kp T.b_message_key pass0 (da_cons (dv 5) da_nil)) (de_call (ok_message_key T (k := 3) (by decide)) gd hr (by rfl) T.m_message_key T.F_message_key.kp T.b_message_key pass0 (da_cons (dv 6) da_nil))) (de_call (ok_w_before T (k := 3) (by decide)) gd hr (by rfl) T.m_w_before T.F_w_before.kp T.b_w_before pass0 (da_cons (dv 5) (da_cons (dv 6) da_nil)))) (dss_one (ds_ret de_bl)) dss_nil)
    (dss_one (ds_if (dt_cmp (od_neQ hr.units) (de_cmp (od_eqQ hr.units) (de_call (ok_message_key T (k := 3) (by decide)) gd hr (by rfl) T.m_message_key T.F_message_key.kp T.b_message_key pass0 (da_cons (dv 5) da_nil)) (de_call (ok_message_key T (k := 3) (by decide)) gd hr (by rfl) T.m_message_key T.F_message_key.kp T.b_message_key pass0 (da_cons (dv 6) da_nil))) (de_cmp (od_eqQ hr.units) (dv 5) (dv 6))) (dss_one (ds_ret de_bl)) dss_nil))))))), fun ns hn hb D δ hI hT hN => by
      obtain ⟨zs, y1, y4, y5, y6, y7, y8, y9, y10, y11, y12, y13, y14, y15, hc, e⟩ := hI
      subst e
      refine forD (for_inv (J3 ns zs) _ _ ⟨_, _, _, _, _, _, _, _, _, _, _, _, _, rfl⟩ (fun m1 hm1 δ1 hJ1 E1 hrt1 hnx1 _ _ => ?_) fun δ1 hJ1 => ?_)
      · obtain ⟨y1, y4, y5, y6, y7, y8, y9, y10, y11, y12, y13, y14, y15, e⟩ := hJ1
        subst e
        refine forD (for_inv (J35 ns zs m1) _ _ ⟨_, _, _, _, _, _, _, _, _, _, _, _, rfl⟩ (fun m2 hm2 δ2 hJ2 E2 hrt2 hnx2 _ _ => ?_) fun δ2 hJ2 => ?_)
        · obtain ⟨y1, y4, y6, y7, y8, y9, y10, y11, y12, y13, y14, y15, e⟩ := hJ2
          subst e
          obtain ⟨s, a, x, ms, rfl, hx, hm⟩ := hc m1 hm1
          obtain ⟨s', a', x', ms', rfl, hx', hm'⟩ := hc m2 hm2
          have bx : x.length ≤ 100 := by omega
          have bm : ms.length ≤ 100 := by omega
          have bx' : x'.length ≤ 100 := by omega
          have bm' : ms'.length ≤ 100 := by omega
          simp only [dSeq, dNext, dBreak, dCont, dDrop, dRet, dRetN, dIfS, dSet, dB, dNotT, dAndT, dOrT, dNot, dAnd, dOr, dIf, dChain, dVar, dC, dOp, dUn, dNil, dCons, dCall, dTup, dLst, pyAll, dSl, dNo, dPart, dAsg, dPar, dDig, dMix, dPutD, dPutM, dM1, dFor, dItL, dItU, dItS, dItR1, dItR2, dItSc, dItZip, dLc, dYes, gdName, wipeD, asP, asB, asI, asS, asL, asU, sliceD, fCmp, fAdd, startD, fI, true_and, and_true, List.getD_cons_zero, List.getD_cons_succ, List.set_cons_zero, List.set_cons_succ, List.map_cons, List.map_nil, List.length_cons, List.length_nil, Nat.zero_add, Nat.reduceAdd, Nat.reduceSub, List.replicate, List.cons_append, List.nil_append, if_true, if_false, reduceIte, Bool.false_eq_true, Bool.not_true, Bool.not_false]
          refine ⟨s, a, x, ms, rfl, bx, bm, isi_tuple ?_⟩
          refine ⟨s, a, x, ms, rfl, bx, bm, s', a', x', ms', rfl, bx', bm', key_alike _ _ _ _ _ _ _ _, (fun z => by unfold keyM at z; cases z), Nat.le_trans (Nat.min_le_left _ _) (key_depth _ _ _ _), ?_⟩
          refine ⟨s, a, x, ms, s', a', x', ms', rfl, bx, bm, bx', bm', rfl, rfl, Nat.zero_le _, ?_⟩
          rw [key_lt, eqv_bb, decide_eq_true rfl]
          refine ⟨s, a, x, ms, rfl, bx, bm, s', a', x', ms', rfl, bx', bm', key_plain _ _ _ _, key_plain _ _ _ _, Nat.le_trans (Nat.min_le_left _ _) (key_depth _ _ _ _), ?_⟩
          refine ⟨m_plain _ _ _ _, m_plain _ _ _ _, Nat.le_trans (Nat.min_le_left _ _) (m_depth _ _ _ _), rfl, rfl, Nat.zero_le _, ?_⟩
          rw [key_eq, eqv_bb, decide_eq_true rfl]
          exact hnx2 _ ⟨_, _, _, _, _, _, _, _, _, _, _, _, rfl⟩
        · obtain ⟨y1, y4, y6, y7, y8, y9, y10, y11, y12, y13, y14, y15, e⟩ := hJ2
          subst e
          exact hnx1 _ ⟨_, _, _, _, _, _, _, _, _, _, _, _, _, rfl⟩
      · obtain ⟨y1, y4, y5, y6, y7, y8, y9, y10, y11, y12, y13, y14, y15, e⟩ := hJ1
        subst e
        exact hN _ ⟨_, _, _, _, _, _, _, _, _, _, _, _, _, _, rfl⟩⟩
theorem law_s0b3 (T : Tx K mg) {fa : Addr} {fd : FuncData} (F : Fun K "law" "law" s_law fa fd) (cdv : Value) (A : Around) (gd : A.guards = some []) (outer : List PySem.Env) (s : Shared) (H : Hp) (E : XK) (hr : Room 3 (A.deeper (envOfC "law" (defScope s_law) s.heap.objs.size fa cdv))) : ∃ t, PS (cxOf CX0 P w K mg base ["script", "start", "well", "some", "turn", "one", "other", "names", "count", "seen", "due", "marks", "mark", "many", "sign", "line"] "law" (defScope s_law) fa cdv A outer s H E).nox ((forBody ((defBody s_law).getD 0 (.Pass ⟨0, 0, 0, 0⟩))).getD 3 (.Pass ⟨0, 0, 0, 0⟩)) (upS ⟨K, P, w⟩ t) ∧ ∀ (ns : List Int), ns.length ≤ 63 → (∀ n ∈ ns, Bd 1048576 n) → ∀ (D : DE) (δ : Dn), B3 ns δ → D.rt (.p (.bool true)) → (∀ δ', B4 ns δ' → D.nx δ') → t D δ :=
  ⟨_, (ds_setO (i := 7) sc_law.nd rfl (by first | exact Or.inl rfl | exact Or.inr rfl) (df_cat (de_lc (own := [("count", 8)]) rfl sc_law.nd (di_rng2 (by rfl) T.n_range (da_cons de_int (da_cons (de_op od_add de_int (de_call (ok_w_draw T (k := 3) (by decide)) gd hr (by rfl) T.m_w_draw T.F_w_draw.kp T.b_w_draw pass0 (da_cons (dv 2) (da_cons de_int da_nil)))) da_nil))) (blkOk_by (N := ["script", "start", "well", "some", "turn", "one", "other", "names", "count", "seen", "due", "marks", "mark", "many", "sign", "line"]) (own := [("count", 8)]) (sc := defScope s_law) (by decide +kernel)) (fun _ _ _ _ _ => (dg_name (i := 8) (by decide) sc_law.nd rfl (by first | exact Or.inl rfl | exact Or.inr rfl))) (fun _ _ _ _ _ => dts_nil) (fun _ _ _ _ _ => (de_op od_repS de_str (dv 8)))) (de_lst (da_cons de_str (da_cons de_str da_nil))))), fun ns hn hb D δ hI hT hN => by
      obtain ⟨y1, y3, y4, y5, y6, y7, y8, y9, y10, y11, y12, y13, y14, y15, e⟩ := hI
      subst e
      simp only [dSetO, fCat]
      simp only [dSeq, dNext, dBreak, dCont, dDrop, dRet, dRetN, dIfS, dSet, dB, dNotT, dAndT, dOrT, dNot, dAnd, dOr, dIf, dChain, dVar, dC, dOp, dUn, dNil, dCons, dCall, dTup, dLst, pyAll, dSl, dNo, dPart, dAsg, dPar, dDig, dMix, dPutD, dPutM, dM1, dFor, dItL, dItU, dItS, dItR1, dItR2, dItSc, dItZip, dLc, dYes, gdName, wipeD, asP, asB, asI, asS, asL, asU, sliceD, fCmp, fAdd, startD, fI, true_and, and_true, List.getD_cons_zero, List.getD_cons_succ, List.set_cons_zero, List.set_cons_succ, List.map_cons, List.map_nil, List.length_cons, List.length_nil, Nat.zero_add, Nat.reduceAdd, Nat.reduceSub, List.replicate, List.cons_append, List.nil_append, if_true, if_false, reduceIte, Bool.false_eq_true, Bool.not_true, Bool.not_false]
      refine ⟨13, rfl, by decide, by decide, fun c hc => ?_⟩
      simp only [dSeq, dNext, dBreak, dCont, dDrop, dRet, dRetN, dIfS, dSet, dB, dNotT, dAndT, dOrT, dNot, dAnd, dOr, dIf, dChain, dVar, dC, dOp, dUn, dNil, dCons, dCall, dTup, dLst, pyAll, dSl, dNo, dPart, dAsg, dPar, dDig, dMix, dPutD, dPutM, dM1, dFor, dItL, dItU, dItS, dItR1, dItR2, dItSc, dItZip, dLc, dYes, gdName, wipeD, asP, asB, asI, asS, asL, asU, sliceD, fCmp, fAdd, startD, fI, true_and, and_true, List.getD_cons_zero, List.getD_cons_succ, List.set_cons_zero, List.set_cons_succ, List.map_cons, List.map_nil, List.length_cons, List.length_nil, Nat.zero_add, Nat.reduceAdd, Nat.reduceSub, List.replicate, List.cons_append, List.nil_append, if_true, if_false, reduceIte, Bool.false_eq_true, Bool.not_true, Bool.not_false]
      refine ⟨1, 1 + (c : Int), rfl, ⟨by decide, by decide, by omega, by omega⟩, ?_⟩
      rw [show ((1 + (c : Int)) - 1).toNat = c by omega]
      refine ⟨by rw [rng_len]; exact sz (show c ≤ 13 by omega), lc_map aMul (fun d hd K1 hk => ?_) ?_⟩
      · obtain ⟨i, hi, rfl⟩ := mem_rng hd
        simp only [dSeq, dNext, dBreak, dCont, dDrop, dRet, dRetN, dIfS, dSet, dB, dNotT, dAndT, dOrT, dNot, dAnd, dOr, dIf, dChain, dVar, dC, dOp, dUn, dNil, dCons, dCall, dTup, dLst, pyAll, dSl, dNo, dPart, dAsg, dPar, dDig, dMix, dPutD, dPutM, dM1, dFor, dItL, dItU, dItS, dItR1, dItR2, dItSc, dItZip, dLc, dYes, gdName, wipeD, asP, asB, asI, asS, asL, asU, sliceD, fCmp, fAdd, startD, fI, true_and, and_true, List.getD_cons_zero, List.getD_cons_succ, List.set_cons_zero, List.set_cons_succ, List.map_cons, List.map_nil, List.length_cons, List.length_nil, Nat.zero_add, Nat.reduceAdd, Nat.reduceSub, List.replicate, List.cons_append, List.nil_append, if_true, if_false, reduceIte, Bool.false_eq_true, Bool.not_true, Bool.not_false]
        exact ⟨by decide, by omega, by omega, hk⟩
      · refine ⟨by decide, by rw [List.length_map, rng_len]; exact sz (show c + 2 ≤ 20 by omega), ?_⟩
        rw [nm_eq]
        exact hN _ ⟨c, _, _, _, _, _, _, _, _, _, _, _, _, _, by omega, rfl⟩⟩
theorem law_s0b4 (T : Tx K mg) {fa : Addr} {fd : FuncData} (F : Fun K "law" "law" s_law fa fd) (cdv : Value) (A : Around) (gd : A.guards = some []) (outer : List PySem.Env) (s : Shared) (H : Hp) (E : XK) (hr : Room 3 (A.deeper (envOfC "law" (defScope s_law) s.heap.objs.size fa cdv))) : ∃ t, PS (cxOf CX0 P w K mg base ["script", "start", "well", "some", "turn", "one", "other", "names", "count", "seen", "due", "marks", "mark", "many", "sign", "line"] "law" (defScope s_law) fa cdv A outer s H E).nox ((forBody ((defBody s_law).getD 0 (.Pass ⟨0, 0, 0, 0⟩))).getD 4 (.Pass ⟨0, 0, 0, 0⟩)) (upS ⟨K, P, w⟩ t) ∧ ∀ (ns : List Int), ns.length ≤ 63 → (∀ n ∈ ns, Bd 1048576 n) → ∀ (D : DE) (δ : Dn), B4 ns δ → D.rt (.p (.bool true)) → (∀ δ', B5 ns δ' → D.nx δ') → t D δ :=
  ⟨_, (ds_if (dt_cmp (od_eqQ hr.units) (de_call (ok_w_draw T (k := 3) (by decide)) gd hr (by rfl) T.m_w_draw T.F_w_draw.kp T.b_w_draw pass0 (da_cons (dv 2) (da_cons de_int da_nil))) de_int) (dss_one (ds_setO (i := 7) sc_law.nd rfl (by first | exact Or.inl rfl | exact Or.inr rfl) (df_catO (pv 7) (de_lst (da_cons de_str (da_cons de_str da_nil)))))) dss_nil), fun ns hn hb D δ hI hT hN => by
      obtain ⟨c, y1, y3, y4, y5, y6, y8, y9, y10, y11, y12, y13, y14, y15, hc, e⟩ := hI
      subst e
      simp only [dSeq, dNext, dBreak, dCont, dDrop, dRet, dRetN, dIfS, dSet, dB, dNotT, dAndT, dOrT, dNot, dAnd, dOr, dIf, dChain, dVar, dC, dOp, dUn, dNil, dCons, dCall, dTup, dLst, pyAll, dSl, dNo, dPart, dAsg, dPar, dDig, dMix, dPutD, dPutM, dM1, dFor, dItL, dItU, dItS, dItR1, dItR2, dItSc, dItZip, dLc, dYes, gdName, wipeD, asP, asB, asI, asS, asL, asU, sliceD, fCmp, fAdd, startD, fI, true_and, and_true, List.getD_cons_zero, List.getD_cons_succ, List.set_cons_zero, List.set_cons_succ, List.map_cons, List.map_nil, List.length_cons, List.length_nil, Nat.zero_add, Nat.reduceAdd, Nat.reduceSub, List.replicate, List.cons_append, List.nil_append, if_true, if_false, reduceIte, Bool.false_eq_true, Bool.not_true, Bool.not_false]
      refine ⟨2, rfl, by decide, by decide, fun z hz => ⟨rfl, rfl, Nat.zero_le _, ?_⟩⟩
      rw [if_neg Bool.false_ne_true, eqv_int]
      by_cases h0 : (z : Int) = 0
      · rw [decide_eq_true h0]
        refine ⟨by decide, by rw [List.length_map]; exact sz (Nat.add_le_add_right (nm_len c false hc).1 2), ?_⟩
        rw [nm_eq2]
        exact hN _ ⟨c, true, _, _, _, _, _, _, _, _, _, _, _, _, _, hc, rfl⟩
      · rw [decide_eq_false h0]
        exact hN _ ⟨c, false, _, _, _, _, _, _, _, _, _, _, _, _, _, hc, rfl⟩⟩
theorem law_s0b5 (T : Tx K mg) {fa : Addr} {fd : FuncData} (F : Fun K "law" "law" s_law fa fd) (cdv : Value) (A : Around) (gd : A.guards = some []) (outer : List PySem.Env) (s : Shared) (H : Hp) (E : XK) (hr : Room 3 (A.deeper (envOfC "law" (defScope s_law) s.heap.objs.size fa cdv))) : ∃ t, PS (cxOf CX0 P w K mg base ["script", "start", "well", "some", "turn", "one", "other", "names", "count", "seen", "due", "marks", "mark", "many", "sign", "line"] "law" (defScope s_law) fa cdv A outer s H E).nox ((forBody ((defBody s_law).getD 0 (.Pass ⟨0, 0, 0, 0⟩))).getD 5 (.Pass ⟨0, 0, 0, 0⟩)) (upS ⟨K, P, w⟩ t) ∧ ∀ (ns : List Int), ns.length ≤ 63 → (∀ n ∈ ns, Bd 1048576 n) → ∀ (D : DE) (δ : Dn), B5 ns δ → D.rt (.p (.bool true)) → (∀ δ', B6 ns δ' → D.nx δ') → t D δ :=
  ⟨_, (ds_if (dt_cmp (od_eqQ hr.units) (de_call (ok_w_draw T (k := 3) (by decide)) gd hr (by rfl) T.m_w_draw T.F_w_draw.kp T.b_w_draw pass0 (da_cons (dv 2) (da_cons de_int da_nil))) de_int) (dss_one (ds_pop (i := 7) (pv 7) (de_call (ok_w_draw T (k := 3) (by decide)) gd hr (by rfl) T.m_w_draw T.F_w_draw.kp T.b_w_draw pass0 (da_cons (dv 2) (da_cons (de_lenO (i := 7) (pv 7) (by rfl) T.n_len) da_nil))) (fun ha => ps_expr (pe_bm PySem.F.plainAttrs_list PySem.F.slot_list_pop PySem.F.type_list_pop mt_popAt (pv 7) ha)))) dss_nil), fun ns hn hb D δ hI hT hN => by
      obtain ⟨c, b, y1, y3, y4, y5, y6, y8, y9, y10, y11, y12, y13, y14, y15, hc, e⟩ := hI
      subst e
      simp only [dSeq, dNext, dBreak, dCont, dDrop, dRet, dRetN, dIfS, dSet, dB, dNotT, dAndT, dOrT, dNot, dAnd, dOr, dIf, dChain, dVar, dC, dOp, dUn, dNil, dCons, dCall, dTup, dLst, pyAll, dSl, dNo, dPart, dAsg, dPar, dDig, dMix, dPutD, dPutM, dM1, dFor, dItL, dItU, dItS, dItR1, dItR2, dItSc, dItZip, dLc, dYes, gdName, wipeD, asP, asB, asI, asS, asL, asU, sliceD, fCmp, fAdd, startD, fI, true_and, and_true, List.getD_cons_zero, List.getD_cons_succ, List.set_cons_zero, List.set_cons_succ, List.map_cons, List.map_nil, List.length_cons, List.length_nil, Nat.zero_add, Nat.reduceAdd, Nat.reduceSub, List.replicate, List.cons_append, List.nil_append, if_true, if_false, reduceIte, Bool.false_eq_true, Bool.not_true, Bool.not_false]
      refine ⟨3, rfl, by decide, by decide, fun z hz => ⟨rfl, rfl, Nat.zero_le _, ?_⟩⟩
      rw [if_neg Bool.false_ne_true, eqv_int]
      obtain ⟨l1, l2⟩ := nm_len c b hc
      by_cases h0 : (z : Int) = 0
      · rw [decide_eq_true h0]
        refine ⟨by rw [List.length_map]; exact sz l1, _, rfl, by rw [List.length_map]; omega, by rw [List.length_map]; omega, fun k hk => ?_⟩
        rw [List.length_map] at hk
        have hk' : k < (nmS c b).length := by omega
        refine ⟨k, seqIx (by rw [List.length_map]; exact hk'), by rw [List.length_map]; exact hk', by omega, by omega, ?_⟩
        rw [erase_strs]
        obtain ⟨n, hf⟩ := fam1 (b := b) hc hk'
        exact hN _ ⟨_, n, _, _, _, _, _, _, _, _, _, _, _, _, _, hf, rfl⟩
      · rw [decide_eq_false h0]
        obtain ⟨n, hf⟩ := fam0 (b := b) hc
        exact hN _ ⟨_, n, _, _, _, _, _, _, _, _, _, _, _, _, _, hf, rfl⟩⟩
theorem law_s0b6 (T : Tx K mg) {fa : Addr} {fd : FuncData} (F : Fun K "law" "law" s_law fa fd) (cdv : Value) (A : Around) (gd : A.guards = some []) (outer : List PySem.Env) (s : Shared) (H : Hp) (E : XK) (hr : Room 3 (A.deeper (envOfC "law" (defScope s_law) s.heap.objs.size fa cdv))) : ∃ t, PS (cxOf CX0 P w K mg base ["script", "start", "well", "some", "turn", "one", "other", "names", "count", "seen", "due", "marks", "mark", "many", "sign", "line"] "law" (defScope s_law) fa cdv A outer s H E).nox ((forBody ((defBody s_law).getD 0 (.Pass ⟨0, 0, 0, 0⟩))).getD 6 (.Pass ⟨0, 0, 0, 0⟩)) (upS ⟨K, P, w⟩ t) ∧ ∀ (ns : List Int), ns.length ≤ 63 → (∀ n ∈ ns, Bd 1048576 n) → ∀ (D : DE) (δ : Dn), B6 ns δ → D.rt (.p (.bool true)) → (∀ δ', B7 ns δ' → D.nx δ') → t D δ :=
  ⟨_, (ds_frz (i := 7) (ds_set (i := 9) sc_law.nd rfl (by first | exact Or.inl rfl | exact Or.inr rfl) (de_callTy cd_list (by rfl) T.n_list bt_list (da_cons (dv 7) da_nil)))), fun ns hn hb D δ hI hT hN => by
      obtain ⟨L, n, y1, y3, y4, y5, y6, y8, y9, y10, y11, y12, y13, y14, y15, hc, e⟩ := hI
      subst e
      exact ⟨_, .inl rfl, hN _ ⟨L, n, _, _, _, _, _, _, _, _, _, _, _, _, hc, rfl⟩⟩⟩
theorem law_s0b7 (T : Tx K mg) {fa : Addr} {fd : FuncData} (F : Fun K "law" "law" s_law fa fd) (cdv : Value) (A : Around) (gd : A.guards = some []) (outer : List PySem.Env) (s : Shared) (H : Hp) (E : XK) (hr : Room 3 (A.deeper (envOfC "law" (defScope s_law) s.heap.objs.size fa cdv))) : ∃ t, PS (cxOf CX0 P w K mg base ["script", "start", "well", "some", "turn", "one", "other", "names", "count", "seen", "due", "marks", "mark", "many", "sign", "line"] "law" (defScope s_law) fa cdv A outer s H E).nox ((forBody ((defBody s_law).getD 0 (.Pass ⟨0, 0, 0, 0⟩))).getD 7 (.Pass ⟨0, 0, 0, 0⟩)) (upS ⟨K, P, w⟩ t) ∧ ∀ (ns : List Int), ns.length ≤ 63 → (∀ n ∈ ns, Bd 1048576 n) → ∀ (D : DE) (δ : Dn), B7 ns δ → D.rt (.p (.bool true)) → (∀ δ', B8 ns δ' → D.nx δ') → t D δ :=
  ⟨_, (ds_set (i := 10) sc_law.nd rfl (by first | exact Or.inl rfl | exact Or.inr rfl) (de_call (ok_w_strange T (k := 3) (by decide)) gd hr (by rfl) T.m_w_strange T.F_w_strange.kp T.b_w_strange pass0 (da_cons (dv 7) da_nil))), fun ns hn hb D δ hI hT hN => by
      obtain ⟨L, n, y1, y3, y4, y5, y6, y8, y10, y11, y12, y13, y14, y15, hc, e⟩ := hI
      subst e
      obtain ⟨c1, c2, c3, c4⟩ := id hc
      simp only [dSeq, dNext, dBreak, dCont, dDrop, dRet, dRetN, dIfS, dSet, dB, dNotT, dAndT, dOrT, dNot, dAnd, dOr, dIf, dChain, dVar, dC, dOp, dUn, dNil, dCons, dCall, dTup, dLst, pyAll, dSl, dNo, dPart, dAsg, dPar, dDig, dMix, dPutD, dPutM, dM1, dFor, dItL, dItU, dItS, dItR1, dItR2, dItSc, dItZip, dLc, dYes, gdName, wipeD, asP, asB, asI, asS, asL, asU, sliceD, fCmp, fAdd, startD, fI, true_and, and_true, List.getD_cons_zero, List.getD_cons_succ, List.set_cons_zero, List.set_cons_succ, List.map_cons, List.map_nil, List.length_cons, List.length_nil, Nat.zero_add, Nat.reduceAdd, Nat.reduceSub, List.replicate, List.cons_append, List.nil_append, if_true, if_false, reduceIte, Bool.false_eq_true, Bool.not_true, Bool.not_false]
      exact ⟨L, n, rfl, by omega, c2, c3, c4, hN _ ⟨L, n, _, _, _, _, _, _, _, _, _, _, _, hc, rfl⟩⟩⟩
theorem law_s0b8 (T : Tx K mg) {fa : Addr} {fd : FuncData} (F : Fun K "law" "law" s_law fa fd) (cdv : Value) (A : Around) (gd : A.guards = some []) (outer : List PySem.Env) (s : Shared) (H : Hp) (E : XK) (hr : Room 3 (A.deeper (envOfC "law" (defScope s_law) s.heap.objs.size fa cdv))) : ∃ t, PS (cxOf CX0 P w K mg base ["script", "start", "well", "some", "turn", "one", "other", "names", "count", "seen", "due", "marks", "mark", "many", "sign", "line"] "law" (defScope s_law) fa cdv A outer s H E).nox ((forBody ((defBody s_law).getD 0 (.Pass ⟨0, 0, 0, 0⟩))).getD 8 (.Pass ⟨0, 0, 0, 0⟩)) (upS ⟨K, P, w⟩ t) ∧ ∀ (ns : List Int), ns.length ≤ 63 → (∀ n ∈ ns, Bd 1048576 n) → ∀ (D : DE) (δ : Dn), B8 ns δ → D.rt (.p (.bool true)) → (∀ δ', B9 ns δ' → D.nx δ') → t D δ :=
  ⟨_, (ds_if (dw_or (dt_cmp (od_neQ hr.units) (de_call (ok_strange_name T (k := 3) (by decide)) gd hr (by rfl) T.m_strange_name T.F_strange_name.kp T.b_strange_name pass0 (da_cons (dv 7) da_nil)) (dv 10)) (dw_or (dt_cmp (od_neQ hr.units) (de_call (ok_strange_name T (k := 3) (by decide)) gd hr (by rfl) T.m_strange_name T.F_strange_name.kp T.b_strange_name pass0 (da_cons (de_callTy cd_tuple (by rfl) T.n_tuple bt_tuple (da_cons (de_rev (dv 7) (do_some (de_un ud_neg de_int))) da_nil)) da_nil)) (dv 10)) (dw_or1 (dt_cmp (od_neQ hr.units) (dv 7) (dv 9))))).pt (dss_one (ds_ret de_bl)) dss_nil), fun ns hn hb D δ hI hT hN => by
      obtain ⟨L, n, y1, y3, y4, y5, y6, y8, y11, y12, y13, y14, y15, hc, e⟩ := hI
      subst e
      obtain ⟨c1, c2, c3, c4⟩ := id hc
      simp only [dSeq, dNext, dBreak, dCont, dDrop, dRet, dRetN, dIfS, dSet, dB, dNotT, dAndT, dOrT, dNot, dAnd, dOr, dIf, dChain, dVar, dC, dOp, dUn, dNil, dCons, dCall, dTup, dLst, pyAll, dSl, dNo, dPart, dAsg, dPar, dDig, dMix, dPutD, dPutM, dM1, dFor, dItL, dItU, dItS, dItR1, dItR2, dItSc, dItZip, dLc, dYes, gdName, wipeD, asP, asB, asI, asS, asL, asU, sliceD, fCmp, fAdd, startD, fI, true_and, and_true, List.getD_cons_zero, List.getD_cons_succ, List.set_cons_zero, List.set_cons_succ, List.map_cons, List.map_nil, List.length_cons, List.length_nil, Nat.zero_add, Nat.reduceAdd, Nat.reduceSub, List.replicate, List.cons_append, List.nil_append, if_true, if_false, reduceIte, Bool.false_eq_true, Bool.not_true, Bool.not_false]
      refine ⟨L, n, .inl rfl, by omega, c2, c3, c4, rfl, rfl, Nat.zero_le _, ?_⟩
      rw [eqv_str]
      simp only [dRev]
      simp only [dSeq, dNext, dBreak, dCont, dDrop, dRet, dRetN, dIfS, dSet, dB, dNotT, dAndT, dOrT, dNot, dAnd, dOr, dIf, dChain, dVar, dC, dOp, dUn, dNil, dCons, dCall, dTup, dLst, pyAll, dSl, dNo, dPart, dAsg, dPar, dDig, dMix, dPutD, dPutM, dM1, dFor, dItL, dItU, dItS, dItR1, dItR2, dItSc, dItZip, dLc, dYes, gdName, wipeD, asP, asB, asI, asS, asL, asU, sliceD, fCmp, fAdd, startD, fI, true_and, and_true, List.getD_cons_zero, List.getD_cons_succ, List.set_cons_zero, List.set_cons_succ, List.map_cons, List.map_nil, List.length_cons, List.length_nil, Nat.zero_add, Nat.reduceAdd, Nat.reduceSub, List.replicate, List.cons_append, List.nil_append, if_true, if_false, reduceIte, Bool.false_eq_true, Bool.not_true, Bool.not_false]
      refine ⟨_, .inl rfl, ?_⟩
      rw [← List.map_reverse]
      refine ⟨L.reverse, n, .inr rfl, by rw [List.length_reverse]; omega, c2, fun m hm => List.mem_reverse.mpr (c3 m hm), fun z => c4 (List.mem_reverse.mp z), rfl, rfl, Nat.zero_le _, ?_⟩
      rw [eqv_str]
      refine ⟨plain_strs L, plain_strs L, Nat.le_trans (Nat.min_le_left _ _) (by rw [depth_strs]; decide), ?_⟩
      rw [show PyData.eqv (.list (L.map .str)) (.list (L.map .str)) = true by rw [eqv_strs]; exact decide_eq_true rfl]
      exact hN _ ⟨_, _, _, _, _, _, _, _, _, _, _, _, _, _, rfl⟩⟩
theorem law_s0b9 (T : Tx K mg) {fa : Addr} {fd : FuncData} (F : Fun K "law" "law" s_law fa fd) (cdv : Value) (A : Around) (gd : A.guards = some []) (outer : List PySem.Env) (s : Shared) (H : Hp) (E : XK) (hr : Room 3 (A.deeper (envOfC "law" (defScope s_law) s.heap.objs.size fa cdv))) : ∃ t, PS (cxOf CX0 P w K mg base ["script", "start", "well", "some", "turn", "one", "other", "names", "count", "seen", "due", "marks", "mark", "many", "sign", "line"] "law" (defScope s_law) fa cdv A outer s H E).nox ((forBody ((defBody s_law).getD 0 (.Pass ⟨0, 0, 0, 0⟩))).getD 9 (.Pass ⟨0, 0, 0, 0⟩)) (upS ⟨K, P, w⟩ t) ∧ ∀ (ns : List Int), ns.length ≤ 63 → (∀ n ∈ ns, Bd 1048576 n) → ∀ (D : DE) (δ : Dn), B9 ns δ → D.rt (.p (.bool true)) → (∀ δ', B10 ns δ' → D.nx δ') → t D δ :=
  ⟨_, (ds_set (i := 11) sc_law.nd rfl (by first | exact Or.inl rfl | exact Or.inr rfl) (de_call (ok_w_choose T (k := 3) (by decide)) gd hr (by rfl) T.m_w_choose T.F_w_choose.kp T.b_w_choose pass0 (da_cons (dv 2) (da_cons (de_lst (da_cons (de_tup da_nil) (da_cons (de_tup (da_cons de_str da_nil)) (da_cons (de_tup (da_cons de_str (da_cons de_str da_nil))) (da_cons (de_tup (da_cons de_str (da_cons de_str (da_cons de_str da_nil)))) da_nil))))) da_nil)))), fun ns hn hb D δ hI hT hN => by
      obtain ⟨y1, y3, y4, y5, y6, y7, y8, y9, y10, y11, y12, y13, y14, y15, e⟩ := hI
      subst e
      simp only [dSeq, dNext, dBreak, dCont, dDrop, dRet, dRetN, dIfS, dSet, dB, dNotT, dAndT, dOrT, dNot, dAnd, dOr, dIf, dChain, dVar, dC, dOp, dUn, dNil, dCons, dCall, dTup, dLst, pyAll, dSl, dNo, dPart, dAsg, dPar, dDig, dMix, dPutD, dPutM, dM1, dFor, dItL, dItU, dItS, dItR1, dItR2, dItSc, dItZip, dLc, dYes, gdName, wipeD, asP, asB, asI, asS, asL, asU, sliceD, fCmp, fAdd, startD, fI, true_and, and_true, List.getD_cons_zero, List.getD_cons_succ, List.set_cons_zero, List.set_cons_succ, List.map_cons, List.map_nil, List.length_cons, List.length_nil, Nat.zero_add, Nat.reduceAdd, Nat.reduceSub, List.replicate, List.cons_append, List.nil_append, if_true, if_false, reduceIte, Bool.false_eq_true, Bool.not_true, Bool.not_false]
      refine ⟨by decide, by decide, by decide, by decide, by decide, _, rfl, by decide, by decide, fun m hm => ?_⟩
      obtain ⟨ms, h1, rfl⟩ := List.mem_map.mp (show m ∈ mks4.map (fun ms => PyData.tuple (ms.map .str)) from hm)
      exact hN _ ⟨ms, _, _, _, _, _, _, _, _, _, _, _, _, _, h1, rfl⟩⟩
theorem law_s0b10 (T : Tx K mg) {fa : Addr} {fd : FuncData} (F : Fun K "law" "law" s_law fa fd) (cdv : Value) (A : Around) (gd : A.guards = some []) (outer : List PySem.Env) (s : Shared) (H : Hp) (E : XK) (hr : Room 3 (A.deeper (envOfC "law" (defScope s_law) s.heap.objs.size fa cdv))) : ∃ t, PS (cxOf CX0 P w K mg base ["script", "start", "well", "some", "turn", "one", "other", "names", "count", "seen", "due", "marks", "mark", "many", "sign", "line"] "law" (defScope s_law) fa cdv A outer s H E).nox ((forBody ((defBody s_law).getD 0 (.Pass ⟨0, 0, 0, 0⟩))).getD 10 (.Pass ⟨0, 0, 0, 0⟩)) (upS ⟨K, P, w⟩ t) ∧ ∀ (ns : List Int), ns.length ≤ 63 → (∀ n ∈ ns, Bd 1048576 n) → ∀ (D : DE) (δ : Dn), B10 ns δ → D.rt (.p (.bool true)) → (∀ δ', B11 ns δ' → D.nx δ') → t D δ :=
  ⟨_, (ds_set (i := 12) sc_law.nd rfl (by first | exact Or.inl rfl | exact Or.inr rfl) (de_call (ok_w_choose T (k := 3) (by decide)) gd hr (by rfl) T.m_w_choose T.F_w_choose.kp T.b_w_choose pass0 (da_cons (dv 2) (da_cons (de_lst (da_cons de_str (da_cons de_str (da_cons de_str da_nil)))) da_nil)))), fun ns hn hb D δ hI hT hN => by
      obtain ⟨ms, y1, y3, y4, y5, y6, y7, y8, y9, y10, y12, y13, y14, y15, hc, e⟩ := hI
      subst e
      simp only [dSeq, dNext, dBreak, dCont, dDrop, dRet, dRetN, dIfS, dSet, dB, dNotT, dAndT, dOrT, dNot, dAnd, dOr, dIf, dChain, dVar, dC, dOp, dUn, dNil, dCons, dCall, dTup, dLst, pyAll, dSl, dNo, dPart, dAsg, dPar, dDig, dMix, dPutD, dPutM, dM1, dFor, dItL, dItU, dItS, dItR1, dItR2, dItSc, dItZip, dLc, dYes, gdName, wipeD, asP, asB, asI, asS, asL, asU, sliceD, fCmp, fAdd, startD, fI, true_and, and_true, List.getD_cons_zero, List.getD_cons_succ, List.set_cons_zero, List.set_cons_succ, List.map_cons, List.map_nil, List.length_cons, List.length_nil, Nat.zero_add, Nat.reduceAdd, Nat.reduceSub, List.replicate, List.cons_append, List.nil_append, if_true, if_false, reduceIte, Bool.false_eq_true, Bool.not_true, Bool.not_false]
      refine ⟨by decide, _, rfl, by decide, by decide, fun m hm => ?_⟩
      obtain ⟨mk, h1, rfl⟩ := List.mem_map.mp (show m ∈ mk3.map PyData.str from hm)
      exact hN _ ⟨ms, mk, _, _, _, _, _, _, _, _, _, _, _, _, _, ⟨hc, h1⟩, rfl⟩⟩
theorem law_s0b11 (T : Tx K mg) {fa : Addr} {fd : FuncData} (F : Fun K "law" "law" s_law fa fd) (cdv : Value) (A : Around) (gd : A.guards = some []) (outer : List PySem.Env) (s : Shared) (H : Hp) (E : XK) (hr : Room 3 (A.deeper (envOfC "law" (defScope s_law) s.heap.objs.size fa cdv))) : ∃ t, PS (cxOf CX0 P w K mg base ["script", "start", "well", "some", "turn", "one", "other", "names", "count", "seen", "due", "marks", "mark", "many", "sign", "line"] "law" (defScope s_law) fa cdv A outer s H E).nox ((forBody ((defBody s_law).getD 0 (.Pass ⟨0, 0, 0, 0⟩))).getD 11 (.Pass ⟨0, 0, 0, 0⟩)) (upS ⟨K, P, w⟩ t) ∧ ∀ (ns : List Int), ns.length ≤ 63 → (∀ n ∈ ns, Bd 1048576 n) → ∀ (D : DE) (δ : Dn), B11 ns δ → D.rt (.p (.bool true)) → (∀ δ', B12 ns δ' → D.nx δ') → t D δ :=
  ⟨_, (ds_if (dt_cmp (od_neQ hr.units) (de_callB (cd_repr gd hr) (by rfl) T.n_repr bt_repr (da_cons (de_call (ok_with_mark T (k := 3) (by decide)) gd hr (by rfl) T.m_with_mark T.F_with_mark.kp T.b_with_mark pass0 (da_cons (dv 11) (da_cons (dv 12) da_nil))) da_nil)) (de_callB (cd_repr gd hr) (by rfl) T.n_repr bt_repr (da_cons (de_callTy cd_tuple (by rfl) T.n_tuple bt_tuple (da_cons (de_callB (cd_sortK rfl hr) (by rfl) T.n_sorted bt_sorted (da_cons (de_callTy (cd_set rfl) (by rfl) T.n_set bt_set (da_cons (de_op od_add (de_callTy cd_list (by rfl) T.n_list bt_list (da_cons (dv 11) da_nil)) (de_lst (da_cons (dv 12) da_nil))) da_nil)) da_nil)) da_nil)) da_nil))) (dss_one (ds_ret de_bl)) dss_nil), fun ns hn hb D δ hI hT hN => by
      obtain ⟨ms, mk, y1, y2, y3, y4, y5, y6, y7, y8, y9, y10, y13, y14, y15, hc, e⟩ := hI
      subst e
      obtain ⟨h1, h2⟩ := hc
      obtain ⟨w1, w2, w3, w4⟩ := wm_of (wm_all h1 h2)
      have lm : ms.length ≤ 3 := of_decide_eq_true (List.all_eq_true.mp (show mks4.all (fun ms => decide (ms.length ≤ 3)) = true by decide) ms h1)
      have one : ∀ zs, RisS zs → (∀ x, x ∈ zs ↔ x ∈ ms ++ [mk]) → zs = sU (ms ++ [mk]) := fun zs hr hm => risS_one hr w1 fun x => (hm x).trans (w2 x).symm
      simp only [dSeq, dNext, dBreak, dCont, dDrop, dRet, dRetN, dIfS, dSet, dB, dNotT, dAndT, dOrT, dNot, dAnd, dOr, dIf, dChain, dVar, dC, dOp, dUn, dNil, dCons, dCall, dTup, dLst, pyAll, dSl, dNo, dPart, dAsg, dPar, dDig, dMix, dPutD, dPutM, dM1, dFor, dItL, dItU, dItS, dItR1, dItR2, dItSc, dItZip, dLc, dYes, gdName, wipeD, asP, asB, asI, asS, asL, asU, sliceD, fCmp, fAdd, startD, fI, true_and, and_true, List.getD_cons_zero, List.getD_cons_succ, List.set_cons_zero, List.set_cons_succ, List.map_cons, List.map_nil, List.length_cons, List.length_nil, Nat.zero_add, Nat.reduceAdd, Nat.reduceSub, List.replicate, List.cons_append, List.nil_append, if_true, if_false, reduceIte, Bool.false_eq_true, Bool.not_true, Bool.not_false]
      refine ⟨ms, mk, rfl, by omega, fun zs hr1 hm1 hz1 => ?_⟩
      rw [one zs hr1 hm1]
      refine ⟨_, rfl, w3, _, .inr rfl, by decide, by rw [List.length_map]; exact sz (Nat.add_le_add_right lm 1), _, (ms ++ [mk]).map Sum.inr, rfl, ?_, by rw [List.length_map, List.length_append]; exact Nat.lt_of_le_of_lt (Nat.add_le_add_right (Nat.add_le_add_right lm 1) 1) (by decide), ms ++ [mk], rfl, fun zs2 hr2 hm2 hz2 => ?_⟩
      · show ms.map .str ++ [.str mk] = List.map keyD ((ms ++ [mk]).map Sum.inr)
        rw [List.map_map, List.map_append]
        rfl
      · rw [one zs2 hr2 hm2]
        refine ⟨_, .inl rfl, _, rfl, w3, rfl, rfl, Nat.zero_le _, ?_⟩
        rw [eqv_str]
        exact hN _ ⟨mk, _, _, _, _, _, _, _, _, _, _, _, _, _, _, h2, rfl⟩⟩
theorem law_s0b12 (T : Tx K mg) {fa : Addr} {fd : FuncData} (F : Fun K "law" "law" s_law fa fd) (cdv : Value) (A : Around) (gd : A.guards = some []) (outer : List PySem.Env) (s : Shared) (H : Hp) (E : XK) (hr : Room 3 (A.deeper (envOfC "law" (defScope s_law) s.heap.objs.size fa cdv))) : ∃ t, PS (cxOf CX0 P w K mg base ["script", "start", "well", "some", "turn", "one", "other", "names", "count", "seen", "due", "marks", "mark", "many", "sign", "line"] "law" (defScope s_law) fa cdv A outer s H E).nox ((forBody ((defBody s_law).getD 0 (.Pass ⟨0, 0, 0, 0⟩))).getD 12 (.Pass ⟨0, 0, 0, 0⟩)) (upS ⟨K, P, w⟩ t) ∧ ∀ (ns : List Int), ns.length ≤ 63 → (∀ n ∈ ns, Bd 1048576 n) → ∀ (D : DE) (δ : Dn), B12 ns δ → D.rt (.p (.bool true)) → (∀ δ', B13 ns δ' → D.nx δ') → t D δ :=
  ⟨_, (ds_set (i := 13) sc_law.nd rfl (by first | exact Or.inl rfl | exact Or.inr rfl) (de_callTy cd_tuple (by rfl) T.n_tuple bt_tuple (da_cons (de_lc (own := [("sign", 14)]) rfl sc_law.nd (di_str de_str) (blkOk_by (N := ["script", "start", "well", "some", "turn", "one", "other", "names", "count", "seen", "due", "marks", "mark", "many", "sign", "line"]) (own := [("sign", 14)]) (sc := defScope s_law) (by decide +kernel)) (fun _ _ _ _ _ => (dg_name (i := 14) (by decide) sc_law.nd rfl (by first | exact Or.inl rfl | exact Or.inr rfl))) (fun _ _ _ _ _ => dts_nil) (fun _ _ _ _ _ => (de_op od_add de_str (dv 14)))) da_nil))), fun ns hn hb D δ hI hT hN => by
      obtain ⟨mk, y1, y2, y3, y4, y5, y6, y7, y8, y9, y10, y11, y13, y14, y15, hc, e⟩ := hI
      subst e
      simp only [dSeq, dNext, dBreak, dCont, dDrop, dRet, dRetN, dIfS, dSet, dB, dNotT, dAndT, dOrT, dNot, dAnd, dOr, dIf, dChain, dVar, dC, dOp, dUn, dNil, dCons, dCall, dTup, dLst, pyAll, dSl, dNo, dPart, dAsg, dPar, dDig, dMix, dPutD, dPutM, dM1, dFor, dItL, dItU, dItS, dItR1, dItR2, dItSc, dItZip, dLc, dYes, gdName, wipeD, asP, asB, asI, asS, asL, asU, sliceD, fCmp, fAdd, startD, fI, true_and, and_true, List.getD_cons_zero, List.getD_cons_succ, List.set_cons_zero, List.set_cons_succ, List.map_cons, List.map_nil, List.length_cons, List.length_nil, Nat.zero_add, Nat.reduceAdd, Nat.reduceSub, List.replicate, List.cons_append, List.nil_append, if_true, if_false, reduceIte, Bool.false_eq_true, Bool.not_true, Bool.not_false]
      refine ⟨by decide, lc_map catB (fun d hd K1 hk => ?_) ?_⟩
      · obtain ⟨c, hc2, rfl⟩ := mem_signs hd
        simp only [dSeq, dNext, dBreak, dCont, dDrop, dRet, dRetN, dIfS, dSet, dB, dNotT, dAndT, dOrT, dNot, dAnd, dOr, dIf, dChain, dVar, dC, dOp, dUn, dNil, dCons, dCall, dTup, dLst, pyAll, dSl, dNo, dPart, dAsg, dPar, dDig, dMix, dPutD, dPutM, dM1, dFor, dItL, dItU, dItS, dItR1, dItR2, dItSc, dItZip, dLc, dYes, gdName, wipeD, asP, asB, asI, asS, asL, asU, sliceD, fCmp, fAdd, startD, fI, true_and, and_true, List.getD_cons_zero, List.getD_cons_succ, List.set_cons_zero, List.set_cons_succ, List.map_cons, List.map_nil, List.length_cons, List.length_nil, Nat.zero_add, Nat.reduceAdd, Nat.reduceSub, List.replicate, List.cons_append, List.nil_append, if_true, if_false, reduceIte, Bool.false_eq_true, Bool.not_true, Bool.not_false]
        exact ⟨(show 1 + 1 ≤ sizeLine by decide), hk⟩
      · rw [str_cat_many]
        exact ⟨_, .inl rfl, hN _ ⟨mk, _, _, _, _, _, _, _, _, _, _, _, _, _, hc, rfl⟩⟩⟩
theorem law_s0b13 (T : Tx K mg) {fa : Addr} {fd : FuncData} (F : Fun K "law" "law" s_law fa fd) (cdv : Value) (A : Around) (gd : A.guards = some []) (outer : List PySem.Env) (s : Shared) (H : Hp) (E : XK) (hr : Room 3 (A.deeper (envOfC "law" (defScope s_law) s.heap.objs.size fa cdv))) : ∃ t, PS (cxOf CX0 P w K mg base ["script", "start", "well", "some", "turn", "one", "other", "names", "count", "seen", "due", "marks", "mark", "many", "sign", "line"] "law" (defScope s_law) fa cdv A outer s H E).nox ((forBody ((defBody s_law).getD 0 (.Pass ⟨0, 0, 0, 0⟩))).getD 13 (.Pass ⟨0, 0, 0, 0⟩)) (upS ⟨K, P, w⟩ t) ∧ ∀ (ns : List Int), ns.length ≤ 63 → (∀ n ∈ ns, Bd 1048576 n) → ∀ (D : DE) (δ : Dn), B13 ns δ → D.rt (.p (.bool true)) → (∀ δ', JA ns δ' → D.nx δ') → t D δ :=
  ⟨_, (ds_if (dt_cmp (od_neQ hr.units) (de_call (ok_with_mark T (k := 3) (by decide)) gd hr (by rfl) T.m_with_mark T.F_with_mark.kp T.b_with_mark pass0 (da_cons (dv 13) (da_cons (dv 12) da_nil))) (de_callTy cd_tuple (by rfl) T.n_tuple bt_tuple (da_cons (de_callB cd_sortL (by rfl) T.n_sorted bt_sorted (da_cons (de_op od_add (de_callTy cd_list (by rfl) T.n_list bt_list (da_cons (dv 13) da_nil)) (de_lst (da_cons (dv 12) da_nil))) da_nil)) da_nil))) (dss_one (ds_ret de_bl)) dss_nil), fun ns hn hb D δ hI hT hN => by
      obtain ⟨mk, y1, y2, y3, y4, y5, y6, y7, y8, y9, y10, y11, y14, y15, hc, e⟩ := hI
      subst e
      obtain ⟨w0, nd⟩ := wm_many hc
      obtain ⟨w1, w2, w3, w4⟩ := wm_of w0
      simp only [dSeq, dNext, dBreak, dCont, dDrop, dRet, dRetN, dIfS, dSet, dB, dNotT, dAndT, dOrT, dNot, dAnd, dOr, dIf, dChain, dVar, dC, dOp, dUn, dNil, dCons, dCall, dTup, dLst, pyAll, dSl, dNo, dPart, dAsg, dPar, dDig, dMix, dPutD, dPutM, dM1, dFor, dItL, dItU, dItS, dItR1, dItR2, dItSc, dItZip, dLc, dYes, gdName, wipeD, asP, asB, asI, asS, asL, asU, sliceD, fCmp, fAdd, startD, fI, true_and, and_true, List.getD_cons_zero, List.getD_cons_succ, List.set_cons_zero, List.set_cons_succ, List.map_cons, List.map_nil, List.length_cons, List.length_nil, Nat.zero_add, Nat.reduceAdd, Nat.reduceSub, List.replicate, List.cons_append, List.nil_append, if_true, if_false, reduceIte, Bool.false_eq_true, Bool.not_true, Bool.not_false]
      refine ⟨manyS, mk, rfl, by decide, fun zs hr1 hm1 hz1 => ?_⟩
      refine ⟨_, .inr rfl, by decide, (show 8 + 1 ≤ sizeLine by decide), manyS ++ [mk], by rw [List.map_append]; rfl, by rw [List.length_append]; exact (show 8 + 1 < 64 by decide), fun ys hp hs => ⟨_, .inl rfl, ?_⟩⟩
      have ey : ys = zs := risS_one (risB_iff.mp (sorted_ris hs (hp.nodup_iff.mpr nd))) hr1 fun x => (hp.mem_iff).trans (hm1 x).symm
      rw [ey]
      refine ⟨plain_strsT zs, plain_strsT zs, Nat.le_trans (Nat.min_le_left _ _) (by rw [depth_strsT]; decide), ?_⟩
      rw [show PyData.eqv (.tuple (zs.map .str)) (.tuple (zs.map .str)) = true by rw [PyData.eqv, eqvAll_strs]; exact decide_eq_true rfl]
      exact hN _ ⟨_, _, _, _, _, _, _, _, _, _, _, _, _, _, _, rfl⟩⟩
theorem law_s0 (T : Tx K mg) {fa : Addr} {fd : FuncData} (F : Fun K "law" "law" s_law fa fd) (cdv : Value) (A : Around) (gd : A.guards = some []) (outer : List PySem.Env) (s : Shared) (H : Hp) (E : XK) (hr : Room 3 (A.deeper (envOfC "law" (defScope s_law) s.heap.objs.size fa cdv))) : ∃ t, PS (cxOf CX0 P w K mg base ["script", "start", "well", "some", "turn", "one", "other", "names", "count", "seen", "due", "marks", "mark", "many", "sign", "line"] "law" (defScope s_law) fa cdv A outer s H E).nox ((defBody s_law).getD 0 (.Pass ⟨0, 0, 0, 0⟩)) (upS ⟨K, P, w⟩ t) ∧ ∀ (ns : List Int), ns.length ≤ 63 → (∀ n ∈ ns, Bd 1048576 n) → ∀ (D : DE) (δ : Dn), JA ns δ → D.rt (.p (.bool true)) → (∀ δ', JA ns δ' → D.nx δ') → t D δ := by
  obtain ⟨t0, p0, r0⟩ := law_s0b0 (base := base) T F cdv A gd outer s H E hr
  obtain ⟨t1, p1, r1⟩ := law_s0b1 (base := base) T F cdv A gd outer s H E hr
  obtain ⟨t2, p2, r2⟩ := law_s0b2 (base := base) T F cdv A gd outer s H E hr
  obtain ⟨t3, p3, r3⟩ := law_s0b3 (base := base) T F cdv A gd outer s H E hr
  obtain ⟨t4, p4, r4⟩ := law_s0b4 (base := base) T F cdv A gd outer s H E hr
  obtain ⟨t5, p5, r5⟩ := law_s0b5 (base := base) T F cdv A gd outer s H E hr
  obtain ⟨t6, p6, r6⟩ := law_s0b6 (base := base) T F cdv A gd outer s H E hr
  obtain ⟨t7, p7, r7⟩ := law_s0b7 (base := base) T F cdv A gd outer s H E hr
  obtain ⟨t8, p8, r8⟩ := law_s0b8 (base := base) T F cdv A gd outer s H E hr
  obtain ⟨t9, p9, r9⟩ := law_s0b9 (base := base) T F cdv A gd outer s H E hr
  obtain ⟨t10, p10, r10⟩ := law_s0b10 (base := base) T F cdv A gd outer s H E hr
  obtain ⟨t11, p11, r11⟩ := law_s0b11 (base := base) T F cdv A gd outer s H E hr
  obtain ⟨t12, p12, r12⟩ := law_s0b12 (base := base) T F cdv A gd outer s H E hr
  obtain ⟨t13, p13, r13⟩ := law_s0b13 (base := base) T F cdv A gd outer s H E hr
  exact ⟨_, (ds_for (vs := [1]) PassesOwn.never rfl (di_rng1 (by rfl) T.n_range (da_cons (de_callB (cd_max rfl) (by rfl) T.n_max bt_max (da_cons de_int (da_cons (de_callB (cd_min rfl) (by rfl) T.n_min bt_min (da_cons de_int (da_cons (de_callB cd_lenS (by rfl) T.n_len bt_len (da_cons (dv 0) da_nil)) da_nil))) da_nil))) da_nil)) (dg_name (i := 1) (by decide) sc_law.nd rfl (by first | exact Or.inl rfl | exact Or.inr rfl)) (dss_cons p0 (dss_cons p1 (dss_cons p2 (dss_cons p3 (dss_cons p4 (dss_cons p5 (dss_cons p6 (dss_cons p7 (dss_cons p8 (dss_cons p9 (dss_cons p10 (dss_cons p11 (dss_cons p12 (dss_one p13))))))))))))))), fun ns hn hb D δ hI hT hN => by
      obtain ⟨y1, y2, y3, y4, y5, y6, y7, y8, y9, y10, y11, y12, y13, y14, y15, e⟩ := hI
      subst e
      refine ⟨ns, rfl, _, _, rfl, _, _, rfl, _, rfl, by split <;> split <;> omega, by split <;> split <;> omega, for_inv (JA ns) _ _ ⟨_, _, _, _, _, _, _, _, _, _, _, _, _, _, _, rfl⟩ (fun d hd δ' hJ E' hrt hnx _ _ => ?_) hN⟩
      obtain ⟨y1, y2, y3, y4, y5, y6, y7, y8, y9, y10, y11, y12, y13, y14, y15, e⟩ := hJ
      subst e
      obtain ⟨k, hk, rfl⟩ := mem_rng hd
      have k5 : k ≤ 63 := by
        revert hk
        split <;> split <;> omega
      have hT2 : E'.rt (.p (.bool true)) := by rw [hrt]; exact hT
      rw [Int.zero_add]
      have h0 : B0 ns [.v (.scr ns), .v (.p (.int ((k : Nat) : Int))), y2, y3, y4, y5, y6, y7, y8, y9, y10, y11, y12, y13, y14, y15] := ⟨k, _, _, _, _, _, _, _, _, _, _, _, _, _, _, k5, rfl⟩
      exact r0 ns hn hb _ _ h0 hT2 fun _ h1 => r1 ns hn hb _ _ h1 hT2 fun _ h2 => r2 ns hn hb _ _ h2 hT2 fun _ h3 => r3 ns hn hb _ _ h3 hT2 fun _ h4 => r4 ns hn hb _ _ h4 hT2 fun _ h5 => r5 ns hn hb _ _ h5 hT2 fun _ h6 => r6 ns hn hb _ _ h6 hT2 fun _ h7 => r7 ns hn hb _ _ h7 hT2 fun _ h8 => r8 ns hn hb _ _ h8 hT2 fun _ h9 => r9 ns hn hb _ _ h9 hT2 fun _ h10 => r10 ns hn hb _ _ h10 hT2 fun _ h11 => r11 ns hn hb _ _ h11 hT2 fun _ h12 => r12 ns hn hb _ _ h12 hT2 fun _ h13 => r13 ns hn hb _ _ h13 hT2 hnx⟩
theorem law_s1 (T : Tx K mg) {fa : Addr} {fd : FuncData} (F : Fun K "law" "law" s_law fa fd) (cdv : Value) (A : Around) (gd : A.guards = some []) (outer : List PySem.Env) (s : Shared) (H : Hp) (E : XK) (hr : Room 3 (A.deeper (envOfC "law" (defScope s_law) s.heap.objs.size fa cdv))) : ∃ t, PS (cxOf CX0 P w K mg base ["script", "start", "well", "some", "turn", "one", "other", "names", "count", "seen", "due", "marks", "mark", "many", "sign", "line"] "law" (defScope s_law) fa cdv A outer s H E).nox ((defBody s_law).getD 1 (.Pass ⟨0, 0, 0, 0⟩)) (upS ⟨K, P, w⟩ t) ∧ ∀ (ns : List Int), ns.length ≤ 63 → (∀ n ∈ ns, Bd 1048576 n) → ∀ (D : DE) (δ : Dn), JA ns δ → D.rt (.p (.bool true)) → (∀ δ', JL ns δ' → D.nx δ') → t D δ :=
  ⟨_, (ds_set (i := 15) sc_law.nd rfl (by first | exact Or.inl rfl | exact Or.inr rfl) (de_op od_add (de_lc (own := [("count", 8)]) rfl sc_law.nd (di_rng2 (by rfl) T.n_range (da_cons de_int (da_cons de_int da_nil))) (blkOk_by (N := ["script", "start", "well", "some", "turn", "one", "other", "names", "count", "seen", "due", "marks", "mark", "many", "sign", "line"]) (own := [("count", 8)]) (sc := defScope s_law) (by decide +kernel)) (fun _ _ _ _ _ => (dg_name (i := 8) (by decide) sc_law.nd rfl (by first | exact Or.inl rfl | exact Or.inr rfl))) (fun _ _ _ _ _ => dts_nil) (fun _ _ _ _ _ => (de_op od_repS de_str (dv 8)))) (de_lc (own := [("sign", 14)]) rfl sc_law.nd (di_str de_str) (blkOk_by (N := ["script", "start", "well", "some", "turn", "one", "other", "names", "count", "seen", "due", "marks", "mark", "many", "sign", "line"]) (own := [("sign", 14)]) (sc := defScope s_law) (by decide +kernel)) (fun _ _ _ _ _ => (dg_name (i := 14) (by decide) sc_law.nd rfl (by first | exact Or.inl rfl | exact Or.inr rfl))) (fun _ _ _ _ _ => dts_nil) (fun _ _ _ _ _ => (de_op od_add de_str (dv 14)))))), fun ns hn hb D δ hI hT hN => by
      obtain ⟨y1, y2, y3, y4, y5, y6, y7, y8, y9, y10, y11, y12, y13, y14, y15, e⟩ := hI
      subst e
      simp only [dSeq, dNext, dBreak, dCont, dDrop, dRet, dRetN, dIfS, dSet, dB, dNotT, dAndT, dOrT, dNot, dAnd, dOr, dIf, dChain, dVar, dC, dOp, dUn, dNil, dCons, dCall, dTup, dLst, pyAll, dSl, dNo, dPart, dAsg, dPar, dDig, dMix, dPutD, dPutM, dM1, dFor, dItL, dItU, dItS, dItR1, dItR2, dItSc, dItZip, dLc, dYes, gdName, wipeD, asP, asB, asI, asS, asL, asU, sliceD, fCmp, fAdd, startD, fI, true_and, and_true, List.getD_cons_zero, List.getD_cons_succ, List.set_cons_zero, List.set_cons_succ, List.map_cons, List.map_nil, List.length_cons, List.length_nil, Nat.zero_add, Nat.reduceAdd, Nat.reduceSub, List.replicate, List.cons_append, List.nil_append, if_true, if_false, reduceIte, Bool.false_eq_true, Bool.not_true, Bool.not_false]
      refine ⟨1, 13, rfl, by decide, ?_⟩
      rw [show ((13 : Int) - 1).toNat = 12 from rfl]
      refine ⟨by decide, lc_map aMul (fun d hd K1 hk => ?_) ?_⟩
      · obtain ⟨i, hi, rfl⟩ := mem_rng hd
        simp only [dSeq, dNext, dBreak, dCont, dDrop, dRet, dRetN, dIfS, dSet, dB, dNotT, dAndT, dOrT, dNot, dAnd, dOr, dIf, dChain, dVar, dC, dOp, dUn, dNil, dCons, dCall, dTup, dLst, pyAll, dSl, dNo, dPart, dAsg, dPar, dDig, dMix, dPutD, dPutM, dM1, dFor, dItL, dItU, dItS, dItR1, dItR2, dItSc, dItZip, dLc, dYes, gdName, wipeD, asP, asB, asI, asS, asL, asU, sliceD, fCmp, fAdd, startD, fI, true_and, and_true, List.getD_cons_zero, List.getD_cons_succ, List.set_cons_zero, List.set_cons_succ, List.map_cons, List.map_nil, List.length_cons, List.length_nil, Nat.zero_add, Nat.reduceAdd, Nat.reduceSub, List.replicate, List.cons_append, List.nil_append, if_true, if_false, reduceIte, Bool.false_eq_true, Bool.not_true, Bool.not_false]
        exact ⟨by decide, by omega, by omega, hk⟩
      · refine ⟨by decide, lc_map catA (fun d hd K1 hk => ?_) ?_⟩
        · obtain ⟨c, hc2, rfl⟩ := mem_signs hd
          simp only [dSeq, dNext, dBreak, dCont, dDrop, dRet, dRetN, dIfS, dSet, dB, dNotT, dAndT, dOrT, dNot, dAnd, dOr, dIf, dChain, dVar, dC, dOp, dUn, dNil, dCons, dCall, dTup, dLst, pyAll, dSl, dNo, dPart, dAsg, dPar, dDig, dMix, dPutD, dPutM, dM1, dFor, dItL, dItU, dItS, dItR1, dItR2, dItSc, dItZip, dLc, dYes, gdName, wipeD, asP, asB, asI, asS, asL, asU, sliceD, fCmp, fAdd, startD, fI, true_and, and_true, List.getD_cons_zero, List.getD_cons_succ, List.set_cons_zero, List.set_cons_succ, List.map_cons, List.map_nil, List.length_cons, List.length_nil, Nat.zero_add, Nat.reduceAdd, Nat.reduceSub, List.replicate, List.cons_append, List.nil_append, if_true, if_false, reduceIte, Bool.false_eq_true, Bool.not_true, Bool.not_false]
          exact ⟨(show 11 + 1 ≤ sizeLine by decide), hk⟩
        · refine ⟨(show 12 + 25 ≤ sizeLine by decide), ?_⟩
          rw [line_eq]
          exact hN _ ⟨_, _, _, _, _, _, _, _, _, _, _, _, _, _, rfl⟩⟩
theorem law_s2 (T : Tx K mg) {fa : Addr} {fd : FuncData} (F : Fun K "law" "law" s_law fa fd) (cdv : Value) (A : Around) (gd : A.guards = some []) (outer : List PySem.Env) (s : Shared) (H : Hp) (E : XK) (hr : Room 3 (A.deeper (envOfC "law" (defScope s_law) s.heap.objs.size fa cdv))) : ∃ t, PS (cxOf CX0 P w K mg base ["script", "start", "well", "some", "turn", "one", "other", "names", "count", "seen", "due", "marks", "mark", "many", "sign", "line"] "law" (defScope s_law) fa cdv A outer s H E).nox ((defBody s_law).getD 2 (.Pass ⟨0, 0, 0, 0⟩)) (upS ⟨K, P, w⟩ t) ∧ ∀ (ns : List Int), ns.length ≤ 63 → (∀ n ∈ ns, Bd 1048576 n) → ∀ (D : DE) (δ : Dn), JL ns δ → D.rt (.p (.bool true)) → (∀ δ', JA ns δ' → D.nx δ') → t D δ :=
  ⟨_, (ds_if (dw_or (dt_cmp (od_neQ hr.units) (de_call (ok_strange_name T (k := 3) (by decide)) gd hr (by rfl) T.m_strange_name T.F_strange_name.kp T.b_strange_name pass0 (da_cons (dv 15) da_nil)) de_str) (dw_or1 (dt_cmp (od_neQ hr.units) (de_call (ok_strange_name T (k := 3) (by decide)) gd hr (by rfl) T.m_strange_name T.F_strange_name.kp T.b_strange_name pass0 (da_cons (de_op od_add (dv 15) (de_lst (da_cons de_str da_nil))) da_nil)) de_str))).pt (dss_one (ds_ret de_bl)) dss_nil), fun ns hn hb D δ hI hT hN => by
      obtain ⟨y1, y2, y3, y4, y5, y6, y7, y8, y9, y10, y11, y12, y13, y14, e⟩ := hI
      subst e
      obtain ⟨⟨c1, c2, c3, c4⟩, e1⟩ := frB_of (show frB lineS 37 (sO "aaaaaaaaaab") = true by decide +kernel)
      obtain ⟨⟨d1, d2, d3, d4⟩, e2⟩ := frB_of (show frB (lineS ++ [sO "aaaaaaaaaab"]) 38 (sO "aaaaaaaaaaba") = true by decide +kernel)
      simp only [dSeq, dNext, dBreak, dCont, dDrop, dRet, dRetN, dIfS, dSet, dB, dNotT, dAndT, dOrT, dNot, dAnd, dOr, dIf, dChain, dVar, dC, dOp, dUn, dNil, dCons, dCall, dTup, dLst, pyAll, dSl, dNo, dPart, dAsg, dPar, dDig, dMix, dPutD, dPutM, dM1, dFor, dItL, dItU, dItS, dItR1, dItR2, dItSc, dItZip, dLc, dYes, gdName, wipeD, asP, asB, asI, asS, asL, asU, sliceD, fCmp, fAdd, startD, fI, true_and, and_true, List.getD_cons_zero, List.getD_cons_succ, List.set_cons_zero, List.set_cons_succ, List.map_cons, List.map_nil, List.length_cons, List.length_nil, Nat.zero_add, Nat.reduceAdd, Nat.reduceSub, List.replicate, List.cons_append, List.nil_append, if_true, if_false, reduceIte, Bool.false_eq_true, Bool.not_true, Bool.not_false]
      refine ⟨lineS, 37, .inl rfl, by omega, c2, c3, c4, rfl, rfl, Nat.zero_le _, ?_⟩
      rw [e1, eqv_str]
      refine ⟨by decide, by rw [List.length_map]; exact sz (Nat.add_le_add_right c1 1), lineS ++ [sO "aaaaaaaaaab"], 38, .inl (by rw [List.map_append]; rfl), by omega, d2, d3, d4, rfl, rfl, Nat.zero_le _, ?_⟩
      rw [e2, eqv_str]
      exact hN _ ⟨_, _, _, _, _, _, _, _, _, _, _, _, _, _, _, rfl⟩⟩
theorem law_s3 (T : Tx K mg) {fa : Addr} {fd : FuncData} (F : Fun K "law" "law" s_law fa fd) (cdv : Value) (A : Around) (gd : A.guards = some []) (outer : List PySem.Env) (s : Shared) (H : Hp) (E : XK) (hr : Room 3 (A.deeper (envOfC "law" (defScope s_law) s.heap.objs.size fa cdv))) : ∃ t, PS (cxOf CX0 P w K mg base ["script", "start", "well", "some", "turn", "one", "other", "names", "count", "seen", "due", "marks", "mark", "many", "sign", "line"] "law" (defScope s_law) fa cdv A outer s H E).nox ((defBody s_law).getD 3 (.Pass ⟨0, 0, 0, 0⟩)) (upS ⟨K, P, w⟩ t) ∧ ∀ (ns : List Int), ns.length ≤ 63 → (∀ n ∈ ns, Bd 1048576 n) → ∀ (D : DE) (δ : Dn), JA ns δ → D.rt (.p (.bool true)) → t D δ :=
  ⟨_, (ds_ret (de_and (de_cmp (od_eqW hr.units) (de_call (ok_strange_name T (k := 3) (by decide)) gd hr (by rfl) T.m_strange_name T.F_strange_name.kp T.b_strange_name pass0 (da_cons (de_lst da_nil) da_nil)) de_str) (de_one (de_cmp (od_eqW hr.units) (de_call (ok_strange_name T (k := 3) (by decide)) gd hr (by rfl) T.m_strange_name T.F_strange_name.kp T.b_strange_name pass0 (da_cons (de_lst (da_cons de_str da_nil)) da_nil)) de_str)))), fun ns hn hb D δ hI hT => by
      obtain ⟨y1, y2, y3, y4, y5, y6, y7, y8, y9, y10, y11, y12, y13, y14, y15, e⟩ := hI
      subst e
      obtain ⟨⟨c1, c2, c3, c4⟩, e1⟩ := frB_of (show frB [] 0 (sO "a") = true by decide +kernel)
      obtain ⟨⟨d1, d2, d3, d4⟩, e2⟩ := frB_of (show frB [sO "a"] 1 (sO "aa") = true by decide +kernel)
      simp only [dSeq, dNext, dBreak, dCont, dDrop, dRet, dRetN, dIfS, dSet, dB, dNotT, dAndT, dOrT, dNot, dAnd, dOr, dIf, dChain, dVar, dC, dOp, dUn, dNil, dCons, dCall, dTup, dLst, pyAll, dSl, dNo, dPart, dAsg, dPar, dDig, dMix, dPutD, dPutM, dM1, dFor, dItL, dItU, dItS, dItR1, dItR2, dItSc, dItZip, dLc, dYes, gdName, wipeD, asP, asB, asI, asS, asL, asU, sliceD, fCmp, fAdd, startD, fI, true_and, and_true, List.getD_cons_zero, List.getD_cons_succ, List.set_cons_zero, List.set_cons_succ, List.map_cons, List.map_nil, List.length_cons, List.length_nil, Nat.zero_add, Nat.reduceAdd, Nat.reduceSub, List.replicate, List.cons_append, List.nil_append, if_true, if_false, reduceIte, Bool.false_eq_true, Bool.not_true, Bool.not_false]
      refine ⟨by decide, [], 0, .inl rfl, by decide, c2, c3, c4, ?_⟩
      rw [e1]
      refine ⟨by decide, [sO "a"], 1, .inl rfl, by decide, d2, d3, d4, ?_⟩
      rw [e2]
      exact hT⟩
theorem ok_law (T : Tx K mg) {fa : Addr} {fd : FuncData} (F : Fun K "law" "law" s_law fa fd) : FnG P w K mg base CX0 4 fa fd ["script"] (spD ⟨K, P, w⟩ fLaw) :=
  okB F sc_law (fun ds R h => by obtain ⟨_, rfl, _⟩ := h; rfl) fun cdv A gd outer s H E hr => by
    obtain ⟨t0, p0, r0⟩ := law_s0 (base := base) T F cdv A gd outer s H E hr
    obtain ⟨t1, p1, r1⟩ := law_s1 (base := base) T F cdv A gd outer s H E hr
    obtain ⟨t2, p2, r2⟩ := law_s2 (base := base) T F cdv A gd outer s H E hr
    obtain ⟨t3, p3, r3⟩ := law_s3 (base := base) T F cdv A gd outer s H E hr
    exact ⟨_, (dss_cons p0 (dss_cons p1 (dss_cons p2 (dss_one p3)))), fun ds R h => by
      obtain ⟨ns, rfl, hn, hb, h⟩ := h
      have h0 : JA ns (startD ["script", "start", "well", "some", "turn", "one", "other", "names", "count", "seen", "due", "marks", "mark", "many", "sign", "line"] [.scr ns]) := ⟨_, _, _, _, _, _, _, _, _, _, _, _, _, _, _, rfl⟩
      exact r0 ns hn hb _ _ h0 h fun _ h1 => r1 ns hn hb _ _ h1 h fun _ h2 => r2 ns hn hb _ _ h2 h fun _ h3 => r3 ns hn hb _ _ h3 h⟩
end
theorem all_mk {l : PySem.W.OpenLaw} {w : World} {K : PySem.W.Frag} {h : Heap} {mg : Str → Option Value} {fa : Addr} (X : K.In h) (G : h.Ns mainGlobals mg) (hfa : mg "law" = some (.ref fa))
    {f0 : Addr} {od0 an0 : Option Addr} {sl0 : Array (Option Value)} {oc0 kV0 dc0 pm0 cd0 ct0 : Value}
    (a0 : PySem.W.nsIn K mainGlobals "message_key" = some (some (.ref f0))) (l0 : K.lookup f0 = some ⟨oc0, od0, .func (PySem.W.fnOf "message_key" "message_key" (defArgs s_message_key) (defBody s_message_key) (defScope s_message_key) .none kV0 dc0 pm0 an0 cd0 ct0), sl0⟩) (c0 : PySem.W.codeIn K cd0 "message_key" = true) (k0 : PySem.W.keepIn K (.ref f0) = true)
    {f1 : Addr} {od1 an1 : Option Addr} {sl1 : Array (Option Value)} {oc1 kV1 dc1 pm1 cd1 ct1 : Value}
    (a1 : PySem.W.nsIn K mainGlobals "next_name" = some (some (.ref f1))) (l1 : K.lookup f1 = some ⟨oc1, od1, .func (PySem.W.fnOf "next_name" "next_name" (defArgs s_next_name) (defBody s_next_name) (defScope s_next_name) .none kV1 dc1 pm1 an1 cd1 ct1), sl1⟩) (c1 : PySem.W.codeIn K cd1 "next_name" = true) (k1 : PySem.W.keepIn K (.ref f1) = true)
    {f2 : Addr} {od2 an2 : Option Addr} {sl2 : Array (Option Value)} {oc2 kV2 dc2 pm2 cd2 ct2 : Value}
    (a2 : PySem.W.nsIn K mainGlobals "strange_name" = some (some (.ref f2))) (l2 : K.lookup f2 = some ⟨oc2, od2, .func (PySem.W.fnOf "strange_name" "strange_name" (defArgs s_strange_name) (defBody s_strange_name) (defScope s_strange_name) .none kV2 dc2 pm2 an2 cd2 ct2), sl2⟩) (c2 : PySem.W.codeIn K cd2 "strange_name" = true) (k2 : PySem.W.keepIn K (.ref f2) = true)
    {f3 : Addr} {od3 an3 : Option Addr} {sl3 : Array (Option Value)} {oc3 kV3 dc3 pm3 cd3 ct3 : Value}
    (a3 : PySem.W.nsIn K mainGlobals "with_mark" = some (some (.ref f3))) (l3 : K.lookup f3 = some ⟨oc3, od3, .func (PySem.W.fnOf "with_mark" "with_mark" (defArgs s_with_mark) (defBody s_with_mark) (defScope s_with_mark) .none kV3 dc3 pm3 an3 cd3 ct3), sl3⟩) (c3 : PySem.W.codeIn K cd3 "with_mark" = true) (k3 : PySem.W.keepIn K (.ref f3) = true)
    {f4 : Addr} {od4 an4 : Option Addr} {sl4 : Array (Option Value)} {oc4 kV4 dc4 pm4 cd4 ct4 : Value}
    (a4 : PySem.W.nsIn K mainGlobals "_law_well" = some (some (.ref f4))) (l4 : K.lookup f4 = some ⟨oc4, od4, .func (PySem.W.fnOf "_law_well" "_law_well" (defArgs s_w_well) (defBody s_w_well) (defScope s_w_well) .none kV4 dc4 pm4 an4 cd4 ct4), sl4⟩) (c4 : PySem.W.codeIn K cd4 "_law_well" = true) (k4 : PySem.W.keepIn K (.ref f4) = true)
    {f5 : Addr} {od5 an5 : Option Addr} {sl5 : Array (Option Value)} {oc5 kV5 dc5 pm5 cd5 ct5 : Value}
    (a5 : PySem.W.nsIn K mainGlobals "_law_draw" = some (some (.ref f5))) (l5 : K.lookup f5 = some ⟨oc5, od5, .func (PySem.W.fnOf "_law_draw" "_law_draw" (defArgs s_w_draw) (defBody s_w_draw) (defScope s_w_draw) .none kV5 dc5 pm5 an5 cd5 ct5), sl5⟩) (c5 : PySem.W.codeIn K cd5 "_law_draw" = true) (k5 : PySem.W.keepIn K (.ref f5) = true)
    {f6 : Addr} {od6 an6 : Option Addr} {sl6 : Array (Option Value)} {oc6 kV6 dc6 pm6 cd6 ct6 : Value}
    (a6 : PySem.W.nsIn K mainGlobals "_law_choose" = some (some (.ref f6))) (l6 : K.lookup f6 = some ⟨oc6, od6, .func (PySem.W.fnOf "_law_choose" "_law_choose" (defArgs s_w_choose) (defBody s_w_choose) (defScope s_w_choose) .none kV6 dc6 pm6 an6 cd6 ct6), sl6⟩) (c6 : PySem.W.codeIn K cd6 "_law_choose" = true) (k6 : PySem.W.keepIn K (.ref f6) = true)
    {f7 : Addr} {od7 an7 : Option Addr} {sl7 : Array (Option Value)} {oc7 kV7 dc7 pm7 cd7 ct7 : Value}
    (a7 : PySem.W.nsIn K mainGlobals "_law_before" = some (some (.ref f7))) (l7 : K.lookup f7 = some ⟨oc7, od7, .func (PySem.W.fnOf "_law_before" "_law_before" (defArgs s_w_before) (defBody s_w_before) (defScope s_w_before) .none kV7 dc7 pm7 an7 cd7 ct7), sl7⟩) (c7 : PySem.W.codeIn K cd7 "_law_before" = true) (k7 : PySem.W.keepIn K (.ref f7) = true)
    {f8 : Addr} {od8 an8 : Option Addr} {sl8 : Array (Option Value)} {oc8 kV8 dc8 pm8 cd8 ct8 : Value}
    (a8 : PySem.W.nsIn K mainGlobals "_law_strange" = some (some (.ref f8))) (l8 : K.lookup f8 = some ⟨oc8, od8, .func (PySem.W.fnOf "_law_strange" "_law_strange" (defArgs s_w_strange) (defBody s_w_strange) (defScope s_w_strange) .none kV8 dc8 pm8 an8 cd8 ct8), sl8⟩) (c8 : PySem.W.codeIn K cd8 "_law_strange" = true) (k8 : PySem.W.keepIn K (.ref f8) = true)
    {f9 : Addr} {od9 an9 : Option Addr} {sl9 : Array (Option Value)} {oc9 kV9 dc9 pm9 cd9 ct9 : Value}
    (a9 : PySem.W.nsIn K mainGlobals "_law_one" = some (some (.ref f9))) (l9 : K.lookup f9 = some ⟨oc9, od9, .func (PySem.W.fnOf "_law_one" "_law_one" (defArgs s_w_one) (defBody s_w_one) (defScope s_w_one) .none kV9 dc9 pm9 an9 cd9 ct9), sl9⟩) (c9 : PySem.W.codeIn K cd9 "_law_one" = true) (k9 : PySem.W.keepIn K (.ref f9) = true)
    {f10 : Addr} {od10 an10 : Option Addr} {sl10 : Array (Option Value)} {oc10 kV10 dc10 pm10 cd10 ct10 : Value}
    (a10 : PySem.W.nsIn K mainGlobals "law" = some (some (.ref f10))) (l10 : K.lookup f10 = some ⟨oc10, od10, .func (PySem.W.fnOf "law" "law" (defArgs s_law) (defBody s_law) (defScope s_law) .none kV10 dc10 pm10 an10 cd10 ct10), sl10⟩) (c10 : PySem.W.codeIn K cd10 "law" = true) (k10 : PySem.W.keepIn K (.ref f10) = true)
    (z0 : PySem.W.nsIn K mainGlobals "int" = some none)
    (z1 : PySem.W.nsIn K mainGlobals "isinstance" = some none)
    (z2 : PySem.W.nsIn K mainGlobals "len" = some none)
    (z3 : PySem.W.nsIn K mainGlobals "list" = some none)
    (z4 : PySem.W.nsIn K mainGlobals "max" = some none)
    (z5 : PySem.W.nsIn K mainGlobals "min" = some none)
    (z6 : PySem.W.nsIn K mainGlobals "range" = some none)
    (z7 : PySem.W.nsIn K mainGlobals "repr" = some none)
    (z8 : PySem.W.nsIn K mainGlobals "set" = some none)
    (z9 : PySem.W.nsIn K mainGlobals "sorted" = some none)
    (z10 : PySem.W.nsIn K mainGlobals "tuple" = some none)
    {tk0 : Tok} (y0 : PySem.W.nsIn K mainGlobals "LETTERS" = some (some (.str "abcdefghijklmnopqrstuvwxyz" tk0)))
    {tk1 : Tok} (y1 : PySem.W.nsIn K mainGlobals "MOST_LETTERS" = some (some (.int 12 tk1)))
    (off : K.lookup sysModules = none) :
    K.lookup sysModules = none ∧ ∃ fd : FuncData, (∀ (s : Shared) (u : Value), BindsTo s fd ⟨[u], []⟩ [("script", u)]) ∧ ∀ base : Heap, K.In base → base.Ns mainGlobals mg → FnG l.prog w K mg base CX0 4 fa fd ["script"] (spD ⟨K, l.prog, w⟩ fLaw) := by
  have e := hfa.symm.trans (PySem.W.mg_of X G a10)
  cases e
  have F0 := fun_mk (st := s_message_key) l0 c0 k0
  have F1 := fun_mk (st := s_next_name) l1 c1 k1
  have F2 := fun_mk (st := s_strange_name) l2 c2 k2
  have F3 := fun_mk (st := s_with_mark) l3 c3 k3
  have F4 := fun_mk (st := s_w_well) l4 c4 k4
  have F5 := fun_mk (st := s_w_draw) l5 c5 k5
  have F6 := fun_mk (st := s_w_choose) l6 c6 k6
  have F7 := fun_mk (st := s_w_before) l7 c7 k7
  have F8 := fun_mk (st := s_w_strange) l8 c8 k8
  have F9 := fun_mk (st := s_w_one) l9 c9 k9
  have F10 := fun_mk (st := s_law) l10 c10 k10
  have T : Tx K mg := ⟨f0, _, F0, F0.binds (ps := ["message"]) (fun _ _ _ _ _ _ us hl => match us, hl with | [_], _ => rfl), PySem.W.mg_of X G a0,
    f1, _, F1, F1.binds (ps := ["name"]) (fun _ _ _ _ _ _ us hl => match us, hl with | [_], _ => rfl), PySem.W.mg_of X G a1,
    f2, _, F2, F2.binds (ps := ["names"]) (fun _ _ _ _ _ _ us hl => match us, hl with | [_], _ => rfl), PySem.W.mg_of X G a2,
    f3, _, F3, F3.binds (ps := ["marks", "mark"]) (fun _ _ _ _ _ _ us hl => match us, hl with | [_, _], _ => rfl), PySem.W.mg_of X G a3,
    f4, _, F4, F4.binds (ps := ["script", "start"]) (fun _ _ _ _ _ _ us hl => match us, hl with | [_, _], _ => rfl), PySem.W.mg_of X G a4,
    f5, _, F5, F5.binds (ps := ["well", "many"]) (fun _ _ _ _ _ _ us hl => match us, hl with | [_, _], _ => rfl), PySem.W.mg_of X G a5,
    f6, _, F6, F6.binds (ps := ["well", "things"]) (fun _ _ _ _ _ _ us hl => match us, hl with | [_, _], _ => rfl), PySem.W.mg_of X G a6,
    f7, _, F7, F7.binds (ps := ["one", "other"]) (fun _ _ _ _ _ _ us hl => match us, hl with | [_, _], _ => rfl), PySem.W.mg_of X G a7,
    f8, _, F8, F8.binds (ps := ["names"]) (fun _ _ _ _ _ _ us hl => match us, hl with | [_], _ => rfl), PySem.W.mg_of X G a8,
    f9, _, F9, F9.binds (ps := ["well"]) (fun _ _ _ _ _ _ us hl => match us, hl with | [_], _ => rfl), PySem.W.mg_of X G a9,
    PySem.W.mg_none_of X G z0,
    PySem.W.mg_none_of X G z1,
    PySem.W.mg_none_of X G z2,
    PySem.W.mg_none_of X G z3,
    PySem.W.mg_none_of X G z4,
    PySem.W.mg_none_of X G z5,
    PySem.W.mg_none_of X G z6,
    PySem.W.mg_none_of X G z7,
    PySem.W.mg_none_of X G z8,
    PySem.W.mg_none_of X G z9,
    PySem.W.mg_none_of X G z10,
    _, PySem.W.mg_of X G y0,
    _, PySem.W.mg_of X G y1⟩
  exact ⟨off, PySem.W.fnOf "law" "law" (defArgs s_law) (defBody s_law) (defScope s_law) .none kV10 dc10 pm10 an10 cd10 ct10, fun s v => .of_eq rfl, fun base _ _ => ok_law T F10⟩
end MR
open PySem PySem.W PyProof.Rows
set_option maxHeartbeats 0 in
theorem PySem.Challenge.cw_mailrings_k02_order_and_strange_names_holds : PySem.Challenge.rw_mailrings_k02_order_and_strange_names.Holds := by
  w_on; o_law; k_head; (case hw => w_witness2)
  k_fill
  refine MR.walk_G (l := PySem.Challenge.rw_mailrings_k02_order_and_strange_names) (k := 4) rfl rfl (by decide +kernel) ⟨rfl, by decide, by decide⟩ (fun w h Y => PySem.W.kIn_of Y) ?F
  case F =>
    intro w mg fa h KX G hmg
    refine' MR.all_mk KX G hmg ?a0 ?l0 ?c0 ?k0 ?a1 ?l1 ?c1 ?k1 ?a2 ?l2 ?c2 ?k2 ?a3 ?l3 ?c3 ?k3 ?a4 ?l4 ?c4 ?k4 ?a5 ?l5 ?c5 ?k5 ?a6 ?l6 ?c6 ?k6 ?a7 ?l7 ?c7 ?k7 ?a8 ?l8 ?c8 ?k8 ?a9 ?l9 ?c9 ?k9 ?a10 ?l10 ?c10 ?k10 ?z0 ?z1 ?z2 ?z3 ?z4 ?z5 ?z6 ?z7 ?z8 ?z9 ?z10 ?y0 ?y1 ?off
    (case a0 => k_is); (case l0 => k_is); (case c0 => k_is); (case k0 => k_is); (case a1 => k_is); (case l1 => k_is); (case c1 => k_is); (case k1 => k_is); (case a2 => k_is); (case l2 => k_is); (case c2 => k_is); (case k2 => k_is); (case a3 => k_is); (case l3 => k_is); (case c3 => k_is); (case k3 => k_is); (case a4 => k_is); (case l4 => k_is); (case c4 => k_is); (case k4 => k_is); (case a5 => k_is); (case l5 => k_is); (case c5 => k_is); (case k5 => k_is); (case a6 => k_is); (case l6 => k_is); (case c6 => k_is); (case k6 => k_is); (case a7 => k_is); (case l7 => k_is); (case c7 => k_is); (case k7 => k_is); (case a8 => k_is); (case l8 => k_is); (case c8 => k_is); (case k8 => k_is); (case a9 => k_is); (case l9 => k_is); (case c9 => k_is); (case k9 => k_is); (case a10 => k_is); (case l10 => k_is); (case c10 => k_is); (case k10 => k_is); (case z0 => k_is); (case z1 => k_is); (case z2 => k_is); (case z3 => k_is); (case z4 => k_is); (case z5 => k_is); (case z6 => k_is); (case z7 => k_is); (case z8 => k_is); (case z9 => k_is); (case z10 => k_is); (case y0 => k_is); (case y1 => k_is)
    (case off => rfl)

