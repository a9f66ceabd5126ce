import PyProof.Rows.All
import Wide.All
import OpenK.AllK
import Wide.FinOn
import HandS.SetFor
import HandS.SetKeys
import KE.SortData
import PyProof.StrWalks
import PyProof.EnumMake
import HandS.ForMost
import HandS.TupAny
import HandS.IsInst
import HandS.Zip
import HandS.TupMul
import PyProof.ReprRoads
import PyProof.CallFns
import KE.KxIndex
import HandS.EndBits
import KE.DataEq
import PyProof.ReprLen
import KE.DataCmp
import HandS.StrMore
import HandS.Replace
import HandS.Star
import HandS.Style
import HandS.ForDict
import KE.KDictSum
import PySem.Challenge.RW_mailrings_k25_lists_and_aliases
set_option Elab.async false
set_option linter.all false
set_option maxRecDepth 100000
set_option autoImplicit false
/-! Sets of numbers and texts: made from lists, tuples, texts; sorted. -/
namespace MR
open PySem PySem.Spec PyProof.Rows L2
def kOf (v : Value) : Option Key := match v with
  | .int k _ => some (.inl k)
  | .str x _ => some (.inr x)
  | _ => none
def hasK (ks : List Key) (j : Key) : Bool := ks.any fun i => decide (i = j)
theorem hasK_iff {ks : List Key} {j : Key} : hasK ks j = true ↔ j ∈ ks := by
  unfold hasK
  rw [List.any_eq_true]
  exact ⟨fun ⟨x, hx, e⟩ => of_decide_eq_true e ▸ hx, fun h => ⟨j, h, decide_eq_true rfl⟩⟩
def GoodK (w : World) (e : Int × Value) : Prop := ∃ k, kOf e.2 = some k ∧ e.1 = keyH w k
theorem kOf_is {k : Key} {v : Value} : keyIs k v = true ↔ kOf v = some k := by
  constructor
  · intro h
    rcases keyIs_shape h with ⟨i, t, rfl, rfl⟩ | ⟨x, t, rfl, rfl⟩ <;> rfl
  · intro h
    cases v with
    | int i t =>
      cases h
      exact keyIs_int i t
    | str x t =>
      cases h
      exact keyIs_str x t
    | _ => cases h
theorem kOf_scan {k : Key} {v : Value} (h : kOf v = some k) : v.scannable = true := by
  cases v with
  | int i t => rfl
  | str x t => rfl
  | _ => cases h
/-- the set of keys at a: S its members, n their number; its table rises and can be walked -/
def SetG (w : World) (h : Heap) (a : Addr) (S : Key → Bool) (n : Nat) : Prop :=
  ∃ ob el ep tb, h.get? a = some ob ∧ ob.ExactSet ∧ ob.data = .set el ep tb ∧ (∀ x ∈ el.toList, GoodK w x) ∧ (el.toList.map fun x => kOf x.2).Nodup ∧
    (∀ k, S k = true ↔ some k ∈ el.toList.map fun x => kOf x.2) ∧ el.size < scanBound ∧ tb.fits el.size = true ∧ el.size = n ∧ Ris tb.place.toList ∧ (w.params.followText "set-order" = true ∨ tb.led = true)
section
variable {P : Program} {w : World} {h h' : Heap} {a : Addr} {S : Key → Bool} {n : Nat}
theorem SetG.keeps (R : SetG w h a S n) (k : ∀ ob, h.get? a = some ob → h'.get? a = some ob) : SetG w h' a S n := let ⟨ob, el, ep, tb, e, r⟩ := R; ⟨ob, el, ep, tb, k ob e, r⟩
theorem SetG.same {T : Key → Bool} (R : SetG w h a S n) (e : ∀ k, T k = S k) : SetG w h a T n := by
  rw [show T = S from funext e]
  exact R
theorem goodK_elems {l : List (Int × Value)} (g : ∀ e ∈ l, GoodK w e) : ElemsOf (mixKind P w) l := fun e he => by
  obtain ⟨k, h1, h2⟩ := g e he
  exact ⟨⟨k, kOf_is.mpr h1, h2⟩, kOf_scan h1⟩
theorem goodK_mem {l : List (Int × Value)} (k : Key) : some k ∈ (l.map fun e => kOf e.2) ↔ ∃ e ∈ l, (mixKind P w).is k e.2 = true := by
  rw [List.mem_map]
  exact ⟨fun ⟨e, he, q⟩ => ⟨e, he, kOf_is.mpr q⟩, fun ⟨e, he, q⟩ => ⟨e, he, kOf_is.mp q⟩⟩
theorem SetG.toOf (R : SetG w h a S n) : h.SetOf (mixKind P w) a S n := by
  obtain ⟨ob, el, ep, tb, ho, hx, hd, g, _, hm, hb, hf, hn, _⟩ := R
  exact ⟨ob, el, ep, tb, ho, hx, hd, goodK_elems g, fun k => (hm k).trans (goodK_mem k), hb, hf, hn⟩
end
section
variable {P : Program} {w : World} {A : Around} {E : Value → Shared → Prop} {s : Shared} {a : Addr} {S : Key → Bool} {n : Nat}
/-- what storing an added key ends with -/
theorem setG_tail {gv : Bool → Sem Unit} (hgv : ∀ (b : Bool) (s₁ : Shared) (Q' : Unit → Shared → Prop), Q' () s₁ → wpAny (model P w) A (gv b) Q' E s₁)
    {ob : Obj} {el : Array (Int × Value)} {ep : Nat} {tb : SetTable} (ho : s.heap.get? a = some ob) (hx : ob.ExactSet) (hd : ob.data = .set el ep tb) {el1 : Array (Int × Value)} {t2 : SetTable} {T : Key → Bool}
    (g1 : ∀ x ∈ el1.toList, GoodK w x) (nd1 : (el1.toList.map fun x => kOf x.2).Nodup) (m1 : ∀ k, T k = true ↔ some k ∈ el1.toList.map fun x => kOf x.2) (hb1 : el1.size < scanBound) (hf2 : t2.fits el1.size = true) (hr : Ris t2.place.toList)
    (hl : w.params.followText "set-order" = true ∨ t2.led = true) {was : Bool} {R : Option Bool → Shared → Prop} (hR : ∀ h', Heap.SameBut a s.heap h' → SetG w h' a T el1.size → R (some true) { s with heap := h' }) :
    wpAny (model P w) A (do
        storeSet a el1 t2
        if (!was && t2.tooFull) = true then do
            gv (relayAll t2 el1 (SetTable.grown el1.size)).2.2
            storeSet a (relayAll t2 el1 (SetTable.grown el1.size)).1 (relayAll t2 el1 (SetTable.grown el1.size)).2.1
            pure (some true)
          else pure (some true)) R E s := by
  refine wpAny_bind (wpAny_storeSet_of ho hd ?_ (fits_of_scanBound hb1))
  have at1 := store_at (es' := el1) (t' := t2) ho hd
  have same1 := Heap.SameBut.update s.heap a (Obj.putSet el1 t2)
  split
  · have perm := relayAll_perm t2 el1 (SetTable.grown el1.size)
    have fit3 := relayAll_fits t2 el1 (SetTable.grown el1.size)
    have ris3 := relayAll_ris t2 el1 (SetTable.grown el1.size)
    have led3 := relayAll_led t2 el1 (SetTable.grown el1.size)
    generalize relayAll t2 el1 (SetTable.grown el1.size) = Z at perm fit3 ris3 led3 ⊢
    obtain ⟨el2, t3, gave⟩ := Z
    dsimp only at perm fit3 ris3 led3 ⊢
    have size2 : el2.size = el1.size := by rw [← Array.length_toList, perm.length_eq, Array.length_toList]
    have bound2 : el2.size < scanBound := size2 ▸ hb1
    refine wpAny_bind (hgv _ _ _ (wpAny_bind (wpAny_storeSet_of at1 rfl ?_ (fits_of_scanBound bound2))))
    have at2 := store_at (es' := el2) (t' := t3) at1 rfl
    refine wpAny_pure (hR _ (same1.trans (Heap.SameBut.update _ a _)) ?_)
    exact ⟨_, el2, _, t3, at2, hx, rfl, fun x q => g1 x (perm.mem_iff.mp q), (perm.map _).nodup_iff.mpr nd1, fun k => (m1 k).trans (perm.map _).mem_iff.symm, bound2, fit3, size2, ris3, hl.imp id fun z => by rw [led3]; exact z⟩
  · exact wpAny_pure (hR _ same1 ⟨_, el1, _, t2, at1, hx, rfl, g1, nd1, m1, hb1, hf2, rfl, hr, hl⟩)
theorem setG_add {k : Key} {v : Value} {Q : Bool → Shared → Prop} (hv : kOf v = some k) (R : SetG w s.heap a S n) (room : n + 1 < scanBound)
    (hQ : ∀ h', Heap.SameBut a s.heap h' → SetG w h' a (fun j => S j || decide (j = k)) (if S k = true then n else n + 1) → Q (!S k) { s with heap := h' }) :
    wpAny (model P w) A (setAddHashed a v ((mixKind P w).hash k)) Q E s := by
  obtain ⟨ob, el, ep, tb, ho, hx, hd, g, nd, hm, hb, hf, hn, hr, hl⟩ := R
  have isk : (mixKind P w).is k v = true := kOf_is.mpr hv
  have scn : v.scannable = true := kOf_scan hv
  have elems : ElemsOf (mixKind P w) el.toList := goodK_elems g
  unfold setAddHashed setAddHashedIn
  refine wpAny_holding (wpAny_bind (wpAny_setState_of ho hd hf ?_))
  dsimp only
  rw [byScan_of scn hb elems]
  simp only [↓reduceIte]
  unfold setAddByScan
  refine wpAny_bind (wpAny_bind (wpAny_rule (wpAny_bind (wpAny_setScan_of isk ho hd hf elems ?_))))
  cases found : List.findIdx? (fun e => (mixKind P w).is k e.2) el.toList with
  | some j =>
    dsimp only
    obtain ⟨hj, pj, _⟩ := List.findIdx?_eq_some_iff_getElem.mp found
    have inS : S k = true := (hm k).2 ((goodK_mem (P := P) (w := w) k).2 ⟨el.toList[j], List.getElem_mem hj, pj⟩)
    refine wpAny_pure (wpAny_pure ?_)
    have q := hQ s.heap (Heap.SameBut.refl a s.heap) ⟨ob, el, ep, tb, ho, hx, hd, g, nd, fun i => by
      rw [Bool.or_eq_true, decide_eq_true_eq, ← hm i]
      exact ⟨fun z => z.elim id fun e => e ▸ inS, .inl⟩, hb, hf, by rw [if_pos inS]; exact hn, hr, hl⟩
    rw [inS] at q
    exact q
  | none =>
    dsimp only
    have notin : some k ∉ el.toList.map fun e => kOf e.2 := fun z => by
      obtain ⟨e, he, q⟩ := (goodK_mem (P := P) (w := w) k).1 z
      have c := List.findIdx?_eq_none_iff.mp found e he
      rw [q] at c
      cases c
    have offS : S k = false := Bool.eq_false_iff.mpr fun q => notin ((hm k).1 q)
    have give : ∀ (b : Bool) {s₁ : Shared} {Q' : Unit → Shared → Prop}, Q' () s₁ → wpAny (model P w) A (match b with | true => rule "set.scan.the-table-gave-way" | false => pure ()) Q' E s₁ := fun b s₁ Q' q => by
      cases b
      · exact wpAny_pure q
      · exact wpAny_rule q
    have perm := layNew_perm tb el ((mixKind P w).hash k) v
    have fit1 := layNew_fits tb el ((mixKind P w).hash k) v
    have ris1 := layNew_ris tb el ((mixKind P w).hash k) v hr
    have led1 := layNew_led tb el ((mixKind P w).hash k) v
    generalize layNew tb el ((mixKind P w).hash k) v = Z at perm fit1 ris1 led1 ⊢
    obtain ⟨el1, t1, was, gave⟩ := Z
    dsimp only at perm fit1 ris1 led1 ⊢
    rw [Array.toList_push] at perm
    have front : el1.toList.Perm (((mixKind P w).hash k, v) :: el.toList) := perm.trans (List.perm_append_singleton _ _)
    have keys : (el1.toList.map fun e => kOf e.2).Perm (some k :: el.toList.map fun e => kOf e.2) := by
      have q := front.map fun (e : Int × Value) => kOf e.2
      rw [List.map_cons] at q
      rw [← hv]
      exact q
    have good1 : ∀ e ∈ el1.toList, GoodK w e := fun e he => by
      rcases List.mem_cons.mp (front.mem_iff.mp he) with z | z
      · rw [z]
        exact ⟨k, hv, rfl⟩
      · exact g e z
    have nd1 : (el1.toList.map fun e => kOf e.2).Nodup := keys.nodup_iff.mpr (List.nodup_cons.mpr ⟨notin, nd⟩)
    have mem1 : ∀ i, (S i || decide (i = k)) = true ↔ some i ∈ el1.toList.map fun e => kOf e.2 := fun i => by
      rw [Bool.or_eq_true, decide_eq_true_eq, hm i, keys.mem_iff, List.mem_cons]
      exact ⟨fun z => z.elim .inr fun e => .inl (by rw [e]), fun z => z.elim (fun e => .inr (Option.some.inj e)) .inl⟩
    have size1 : el1.size = n + 1 := by rw [← Array.length_toList, front.length_eq, List.length_cons, Array.length_toList, hn]
    have bound1 : el1.size < scanBound := size1 ▸ room
    have ledd : w.params.followText "set-order" = true ∨ t1.led = true := hl.imp id fun z => by rw [led1]; exact z
    have last : ∀ h', Heap.SameBut a s.heap h' → SetG w h' a (fun j => S j || decide (j = k)) el1.size → Q true { s with heap := h' } := fun h' sb r => by
      have q := hQ h' sb
      rw [offS] at q
      rw [size1] at r
      exact q r
    refine wpAny_bind (give _ ?_)
    split
    · refine wpAny_bind ?_
      rw [hashByValue_scannable 8 scn]
      refine wpAny_pure (setG_tail (fun b s₁ Q' q => ?_) ho hx hd good1 nd1 mem1 bound1 ?_ ?_ ?_ fun h' sb r => ?_)
      · cases b
        · exact wpAny_pure q
        · exact wpAny_rule q
      · first | (split <;> first | exact fit1 | exact SetTable.fits_plain_off fit1) | exact fit1
      · first | (split <;> exact ris1) | exact ris1
      · first | (split <;> exact ledd) | exact ledd
      · dsimp only
        exact wpAny_pure (last h' sb r)
    · refine wpAny_bind (wpAny_pure ?_)
      simp only [↓reduceIte]
      refine setG_tail (fun b s₁ Q' q => ?_) ho hx hd good1 nd1 mem1 bound1 fit1 ris1 ledd fun h' sb r => ?_
      · cases b
        · exact wpAny_pure q
        · exact wpAny_rule q
      · dsimp only
        exact wpAny_pure (last h' sb r)
def newSetObj (w : World) : Obj := { cls := .type "set", dict := none, data := .set #[] 0 (.fresh 0 0 (!w.params.followText "set-order")) }
theorem setG_empty {h : Heap} {a : Addr} {T : Key → Bool} (ho : h.get? a = some (newSetObj w)) (e : ∀ k, T k = false) : SetG w h a T 0 := by
  refine ⟨_, #[], 0, _, ho, ⟨rfl, rfl, rfl⟩, rfl, (fun e he => by simp at he), (by simp), (fun k => by rw [e k]; simp), (by decide), (by rfl), rfl, List.Pairwise.nil, ?_⟩
  show _ ∨ (!w.params.followText "set-order") = true
  cases w.params.followText "set-order"
  · exact .inr rfl
  · exact .inl rfl
/-- the loop by which an iterator's items come in -/
theorem setG_loop {I : Addr} {fp wr : List Addr} {G : Array GenState → Array GenState → Prop} {n : Nat} {Pv : Nat → Value → Prop} {St : Nat → Shared → Prop} {R : Result → Shared → Prop} (W : WalksS P w A.in1 I fp wr G n Pv St) (D : Addr) (hD : D ∉ fp)
    (ks : List Key) (hn : n = ks.length) (hb : ks.length + 1 < scanBound) (hval : ∀ i v, Pv i v → ∃ k, ks[i]? = some k ∧ kOf v = some k) :
    ∀ (m i : Nat) (s : Shared), n - i = m → i ≤ n → St i s → (∃ c, c ≤ i ∧ SetG w s.heap D (fun j => hasK (ks.take i) j) c) →
      (∀ s' c, Moved (D :: wr) G s s' → c ≤ n → SetG w s'.heap D (fun j => hasK ks j) c → R (.ok (.ret .none)) s') → codeAny (model P w) A (.builtin "set.update.loop" ⟨[.ref D, .ref I], []⟩) R s := by
  have hDw : D ∉ wr := fun z => hD (W.sub _ z)
  have sub : ∀ b ∈ wr, b ∈ D :: wr := fun _ z => List.mem_cons_of_mem _ z
  intro m
  induction m with
  | zero =>
    intro i s hm hi st ⟨c, hc, hS⟩ hR
    obtain rfl : i = n := by omega
    refine codeAny_builtin F.entry_set_update_loop ?_
    rw [Around.under_plainId F.plain_set_update_loop _]
    show wpAny _ A.in1 (pyNext (.ref I) >>= _) _ _ s
    refine wpAny_bind (W.done s _ _ st fun s2 mv => ?_)
    show wpAny _ A.in1 (ret Value.none) _ _ s2
    rw [List.take_of_length_le (show ks.length ≤ i by omega)] at hS
    exact wpAny_pure (hR s2 c (mv.mono sub) hc (hS.keeps fun ob e => mv.heap D ob hDw e))
  | succ m ih =>
    intro i s hm hi st ⟨c, hc, hS⟩ hR
    have lt : i < n := by omega
    refine codeAny_builtin F.entry_set_update_loop ?_
    rw [Around.under_plainId F.plain_set_update_loop _]
    show wpAny _ A.in1 (pyNext (.ref I) >>= _) _ _ s
    refine wpAny_bind (W.item i s _ _ lt st fun v s2 pv st2 mv => ?_)
    obtain ⟨k, hk, kv⟩ := hval i v pv
    have hS2 : SetG w s2.heap D (fun j => hasK (ks.take i) j) c := hS.keeps fun ob e => mv.heap D ob hDw e
    show wpAny _ A.in1 (holding [v] (setAdd D v) >>= _) _ _ s2
    refine wpAny_bind (wpAny_holding ?_)
    unfold setAdd
    refine wpAny_holding (wpAny_bind ((mixKind P w).pyHash (k := k) (kOf_is.mpr kv) ?_))
    refine setG_add (s := { s2 with toks := s2.toks + 1 }) kv hS2 (by omega) fun h' sb hS3 => ?_
    have hS4 : SetG w h' D (fun j => hasK (ks.take (i + 1)) j) (if hasK (ks.take i) k = true then c else c + 1) := hS3.same fun j => by
      rw [List.take_add_one, hk]
      unfold hasK
      rw [List.any_append]
      congr 1
      show (decide (k = j) || false) = decide (j = k)
      rw [Bool.or_false]
      exact decide_eq_decide.mpr ⟨Eq.symm, Eq.symm⟩
    have hc4 : (if hasK (ks.take i) k = true then c else c + 1) ≤ i + 1 := by split <;> omega
    have other : ∀ b ob, b ≠ D → s2.heap.get? b = some ob → h'.get? b = some ob := fun b ob nb e => (sb.2 b nb).trans e
    refine wpAny_pure ⟨plainId_quiet F.plain_set_update_loop _, ih (i + 1) _ (by omega) lt (W.frame _ s2 _ _ st2 (Nat.le_succ _) fun b hbf ob e => other b ob (fun z => hD (z ▸ hbf)) e) ⟨_, hc4, hS4⟩ fun s3 c3 mv3 hc3 hS5 => ?_⟩
    exact hR s3 c3 (Moved.trans W.gtrans ((mv.mono sub).then_heap (Nat.le_succ _) fun b ob hbn e => other b ob (fun z => hbn (z ▸ List.mem_cons_self)) e) mv3) hc3 hS5
theorem code_new1 (v : Value) {Q₁ : Value → Shared → Prop} (h : Q₁ (.ref s.heap.objs.size) { s with heap := s.heap.push (newSetObj w) }) : codeAny (model P w) A (.call (.builtin "set.__new__") ⟨[.type "set", v], []⟩) (wants Q₁ E) s := code_set_led1 v h
end
end MR

namespace MR
open PySem PySem.Spec PyProof.Rows L2
section
variable {P : Program} {w : World} {A : Around} {E : Value → Shared → Prop} {s : Shared} {a : Addr} {S : Key → Bool} {n : Nat}

set_option maxHeartbeats 3200000 in
theorem call_set_list {l : Addr} {items : Array Value} (ks : List Key) {Q : Value → Shared → Prop} (hh : A.handled = none) (hl : s.heap.IsList l items) (hsz : items.size = ks.length) (hit : ∀ (i : Nat) (v : Value), items[i]? = some v → ∃ k, ks[i]? = some k ∧ kOf v = some k) (hb : ks.length + 1 < scanBound)
    (h : ∀ (h' : Heap) (tk c : Nat), SetG w h' s.heap.objs.size (fun j => hasK ks j) c → c ≤ ks.length → (∀ b o, s.heap.get? b = some o → h'.get? b = some o) → Q (.ref s.heap.objs.size) { s with heap := h', toks := tk }) :
    wpAny (model P w) A (call (.type "set") [.ref l]) Q E s := by
  obtain ⟨c0, tl, hmro⟩ := F.called_set.mro
  have is_made := F.called_set.made
  have is_sub := F.called_set.sub
  refine wpAny_call (codeAny_of_tree (?_ : wpAny _ _ (callAny (.type "set") _) _ _ _))
  refine wpAny_pure ⟨Code.quiet_builtin _ (by decide +kernel), codeAny_builtin F.entry_type_call ?_⟩
  rw [Around.under_plain (weight_type_call_type "set" [.ref l] []) rfl]
  have f1 := F.called_set.notType
  have f2 := F.called_set.canCreate
  have f3 := F.typeCall_set_1 (.ref l)
  repeat (any_goals (first | assumption | wp_step))
  refine codeAny_mono (code_new1 (.ref l) (E := E) (Q₁ := fun ob s₁ => ob = .ref s.heap.objs.size ∧ s₁ = { s with heap := s.heap.push (newSetObj w) }) ⟨rfl, rfl⟩) fun res s₁ hr => ?_
  cases res with
  | error e => exact hr
  | ok fl =>
    cases fl with
    | ret obj =>
      obtain ⟨rfl, rfl⟩ := hr
      have at0 : (s.heap.push (newSetObj w)).get? s.heap.objs.size = some (newSetObj w) := Heap.get?_push_size _ rfl
      have ty0 : Shared.TypeIs { s with heap := s.heap.push (newSetObj w) } (.ref s.heap.objs.size) "set" := ⟨_, at0, rfl⟩
      have li := F.called_set.init.lookup
      have bi := F.called_set.init.bind (.ref s.heap.objs.size)
      repeat (any_goals (first | assumption | wp_step))
      refine codeAny_mono (codeAny_call_builtin (R := wants (fun r s₂ => r = .none ∧ ∃ h' tk c, s₂ = { s with heap := h', toks := tk } ∧ SetG w h' s.heap.objs.size (fun j => hasK ks j) c ∧ c ≤ ks.length ∧
          ∀ b o, s.heap.get? b = some o → h'.get? b = some o) E) F.called_set.init.plain F.entry_set_init (check_set_init_1 ty0 ?_)) fun res₂ s₂ hr₂ => ?_
      · obtain ⟨ol, hol, hcl, nl, hdl⟩ := hl
        obtain ⟨ocls, odict, odata, oslots⟩ := ol
        simp only at hcl hdl
        subst hcl; subst hdl
        have at1 : (s.heap.push (newSetObj w)).get? l = some { cls := .type "list", dict := odict, data := .seq items nl, slots := oslots } := Heap.get?_push_of_some _ hol
        have seq1 : (s.heap.push (newSetObj w)).IsList l items := ⟨_, at1, rfl, nl, rfl⟩
        have n1 := F.sub_list_set
        have n2 := F.sub_list_frozenset
        have n3 : (Value.type "list" == Value.type "dict") = false := by decide
        unfold Builtin.«set.__init__» noKeywords Builtin.Frozenset.updateFrom
        generalize hPI : pyIter = PI
        wp_walk
        subst hPI
        refine wpAny_pyIter_list seq1 ?_
        refine wpAny_bind (wpAny_runValue ?_)
        have hh3 : A.in1.in1.in1.handled = none := by simp [hh]
        have sz1 : (s.heap.push (newSetObj w)).objs.size = s.heap.objs.size + 1 := Heap.size_push ..
        have lS : l < s.heap.objs.size := Heap.lt_size hol
        have apart : l ≠ (s.heap.push (newSetObj w)).objs.size := Nat.ne_of_lt (by rw [sz1]; exact Nat.lt_succ_of_lt lS)
        refine setG_loop ((Walks.list hh3 _ l apart items).toS) s.heap.objs.size (by rw [sz1]; simp only [List.mem_cons, List.not_mem_nil, or_false, not_or]; exact ⟨Nat.ne_of_lt (Nat.lt_succ_self _), Nat.ne_of_gt lS⟩) ks hsz hb hit (items.size - 0) 0 _ (by omega) (Nat.zero_le _) ⟨⟨_, Heap.get?_push_size _ rfl, rfl, rfl⟩, (seq1.push _)⟩ ?hS0 ?hR
        case hS0 => exact ⟨0, Nat.le_refl 0, setG_empty (Heap.get?_push_of_some _ at0) fun k => by unfold hasK; rw [List.take_zero]; rfl⟩
        case hR =>
          intro s3 c3 mv hc3 hS3
          obtain ⟨h3, g3, d3, tk3, os3⟩ := s3
          obtain rfl : g3 = s.gens := mv.gens
          obtain rfl : d3 = s.drawn := mv.drawn
          obtain rfl : os3 = s.os := mv.os
          refine wpAny_pure (?_ : wpAny _ _ (ret Value.none) _ _ _)
          refine wpAny_pure ⟨rfl, h3, tk3, c3, rfl, hS3, (by rw [← hsz]; exact hc3), fun b o e => ?_⟩
          have lt0 : b < s.heap.objs.size := Heap.lt_size e
          refine mv.heap b o (fun z => ?_) (Heap.get?_push_of_some _ (Heap.get?_push_of_some _ e))
          simp only [List.mem_cons, List.not_mem_nil, or_false] at z
          rcases z with z | z
          · exact absurd lt0 (by rw [z]; exact Nat.lt_irrefl _)
          · exact absurd lt0 (by rw [z, sz1]; exact Nat.not_lt_of_le (Nat.le_succ _))
      · cases res₂ with
        | error e => exact hr₂
        | ok fl₂ =>
          cases fl₂ with
          | ret r =>
            obtain ⟨rfl, h3, tk3, c3, rfl, hS3, hc3, hk3⟩ := hr₂
            repeat (any_goals (first | assumption | wp_step))
            exact h _ _ _ hS3 hc3 hk3
          | _ => exact hr₂.elim
    | _ => exact hr.elim
end
end MR

namespace MR
open PySem PySem.Spec PyProof.Rows L2
section
variable {P : Program} {w : World} {A : Around} {E : Value → Shared → Prop} {s : Shared} {a : Addr} {S : Key → Bool} {n : Nat}

set_option maxHeartbeats 3200000 in
theorem call_set_tuple {l : Addr} {items : Array Value} (ks : List Key) {Q : Value → Shared → Prop} (hh : A.handled = none) (hl : s.heap.IsTuple l items) (hsz : items.size = ks.length) (hit : ∀ (i : Nat) (v : Value), items[i]? = some v → ∃ k, ks[i]? = some k ∧ kOf v = some k) (hb : ks.length + 1 < scanBound)
    (h : ∀ (h' : Heap) (tk c : Nat), SetG w h' s.heap.objs.size (fun j => hasK ks j) c → c ≤ ks.length → (∀ b o, s.heap.get? b = some o → h'.get? b = some o) → Q (.ref s.heap.objs.size) { s with heap := h', toks := tk }) :
    wpAny (model P w) A (call (.type "set") [.ref l]) Q E s := by
  obtain ⟨c0, tl, hmro⟩ := F.called_set.mro
  have is_made := F.called_set.made
  have is_sub := F.called_set.sub
  refine wpAny_call (codeAny_of_tree (?_ : wpAny _ _ (callAny (.type "set") _) _ _ _))
  refine wpAny_pure ⟨Code.quiet_builtin _ (by decide +kernel), codeAny_builtin F.entry_type_call ?_⟩
  rw [Around.under_plain (weight_type_call_type "set" [.ref l] []) rfl]
  have f1 := F.called_set.notType
  have f2 := F.called_set.canCreate
  have f3 := F.typeCall_set_1 (.ref l)
  repeat (any_goals (first | assumption | wp_step))
  refine codeAny_mono (code_new1 (.ref l) (E := E) (Q₁ := fun ob s₁ => ob = .ref s.heap.objs.size ∧ s₁ = { s with heap := s.heap.push (newSetObj w) }) ⟨rfl, rfl⟩) fun res s₁ hr => ?_
  cases res with
  | error e => exact hr
  | ok fl =>
    cases fl with
    | ret obj =>
      obtain ⟨rfl, rfl⟩ := hr
      have at0 : (s.heap.push (newSetObj w)).get? s.heap.objs.size = some (newSetObj w) := Heap.get?_push_size _ rfl
      have ty0 : Shared.TypeIs { s with heap := s.heap.push (newSetObj w) } (.ref s.heap.objs.size) "set" := ⟨_, at0, rfl⟩
      have li := F.called_set.init.lookup
      have bi := F.called_set.init.bind (.ref s.heap.objs.size)
      repeat (any_goals (first | assumption | wp_step))
      refine codeAny_mono (codeAny_call_builtin (R := wants (fun r s₂ => r = .none ∧ ∃ h' tk c, s₂ = { s with heap := h', toks := tk } ∧ SetG w h' s.heap.objs.size (fun j => hasK ks j) c ∧ c ≤ ks.length ∧
          ∀ b o, s.heap.get? b = some o → h'.get? b = some o) E) F.called_set.init.plain F.entry_set_init (check_set_init_1 ty0 ?_)) fun res₂ s₂ hr₂ => ?_
      · obtain ⟨ol, hol, hcl, nl, hdl⟩ := hl
        obtain ⟨ocls, odict, odata, oslots⟩ := ol
        simp only at hcl hdl
        subst hcl; subst hdl
        have at1 : (s.heap.push (newSetObj w)).get? l = some { cls := .type "tuple", dict := odict, data := .seq items nl, slots := oslots } := Heap.get?_push_of_some _ hol
        have seq1 : (s.heap.push (newSetObj w)).IsTuple l items := ⟨_, at1, rfl, nl, rfl⟩
        have n1 := F.sub_tuple_set
        have n2 := F.sub_tuple_frozenset
        have n3 : (Value.type "tuple" == Value.type "dict") = false := by decide
        unfold Builtin.«set.__init__» noKeywords Builtin.Frozenset.updateFrom
        generalize hPI : pyIter = PI
        wp_walk
        subst hPI
        refine wpAny_pyIter_tuple seq1 ?_
        refine wpAny_bind (wpAny_runValue ?_)
        have hh3 : A.in1.in1.in1.handled = none := by simp [hh]
        have sz1 : (s.heap.push (newSetObj w)).objs.size = s.heap.objs.size + 1 := Heap.size_push ..
        have lS : l < s.heap.objs.size := Heap.lt_size hol
        have apart : l ≠ (s.heap.push (newSetObj w)).objs.size := Nat.ne_of_lt (by rw [sz1]; exact Nat.lt_succ_of_lt lS)
        refine setG_loop ((Walks.tuple hh3 _ l apart items).toS) s.heap.objs.size (by rw [sz1]; simp only [List.mem_cons, List.not_mem_nil, or_false, not_or]; exact ⟨Nat.ne_of_lt (Nat.lt_succ_self _), Nat.ne_of_gt lS⟩) ks hsz hb hit (items.size - 0) 0 _ (by omega) (Nat.zero_le _) ⟨⟨_, Heap.get?_push_size _ rfl, rfl, rfl⟩, (seq1.push _)⟩ ?hS0 ?hR
        case hS0 => exact ⟨0, Nat.le_refl 0, setG_empty (Heap.get?_push_of_some _ at0) fun k => by unfold hasK; rw [List.take_zero]; rfl⟩
        case hR =>
          intro s3 c3 mv hc3 hS3
          obtain ⟨h3, g3, d3, tk3, os3⟩ := s3
          obtain rfl : g3 = s.gens := mv.gens
          obtain rfl : d3 = s.drawn := mv.drawn
          obtain rfl : os3 = s.os := mv.os
          refine wpAny_pure (?_ : wpAny _ _ (ret Value.none) _ _ _)
          refine wpAny_pure ⟨rfl, h3, tk3, c3, rfl, hS3, (by rw [← hsz]; exact hc3), fun b o e => ?_⟩
          have lt0 : b < s.heap.objs.size := Heap.lt_size e
          refine mv.heap b o (fun z => ?_) (Heap.get?_push_of_some _ (Heap.get?_push_of_some _ e))
          simp only [List.mem_cons, List.not_mem_nil, or_false] at z
          rcases z with z | z
          · exact absurd lt0 (by rw [z]; exact Nat.lt_irrefl _)
          · exact absurd lt0 (by rw [z, sz1]; exact Nat.not_lt_of_le (Nat.le_succ _))
      · cases res₂ with
        | error e => exact hr₂
        | ok fl₂ =>
          cases fl₂ with
          | ret r =>
            obtain ⟨rfl, h3, tk3, c3, rfl, hS3, hc3, hk3⟩ := hr₂
            repeat (any_goals (first | assumption | wp_step))
            exact h _ _ _ hS3 hc3 hk3
          | _ => exact hr₂.elim
    | _ => exact hr.elim
end
end MR

namespace MR
open PySem PySem.Spec PyProof.Rows L2
section
variable {P : Program} {w : World} {A : Around} {E : Value → Shared → Prop} {s : Shared} {a : Addr} {S : Key → Bool} {n : Nat}

set_option maxHeartbeats 3200000 in
theorem call_set_ascii {x : Str} {t : Tok} (ks : List Key) {Q : Value → Shared → Prop} (hh : A.handled = none) (ha : x.cps.all (· < 128) = true) (hks : ks = x.cps.toList.map fun c => Sum.inr ⟨#[c]⟩) (hb : ks.length + 1 < scanBound)
    (h : ∀ (h' : Heap) (tk c : Nat), SetG w h' s.heap.objs.size (fun j => hasK ks j) c → c ≤ ks.length → (∀ b o, s.heap.get? b = some o → h'.get? b = some o) → Q (.ref s.heap.objs.size) { s with heap := h', toks := tk }) :
    wpAny (model P w) A (call (.type "set") [.str x t]) Q E s := by
  obtain ⟨c0, tl, hmro⟩ := F.called_set.mro
  have is_made := F.called_set.made
  have is_sub := F.called_set.sub
  refine wpAny_call (codeAny_of_tree (?_ : wpAny _ _ (callAny (.type "set") _) _ _ _))
  refine wpAny_pure ⟨Code.quiet_builtin _ (by decide +kernel), codeAny_builtin F.entry_type_call ?_⟩
  rw [Around.under_plain (weight_type_call_type "set" [.str x t] []) rfl]
  have f1 := F.called_set.notType
  have f2 := F.called_set.canCreate
  have f3 := F.typeCall_set_1 (.str x t)
  repeat (any_goals (first | assumption | wp_step))
  refine codeAny_mono (code_new1 (.str x t) (E := E) (Q₁ := fun ob s₁ => ob = .ref s.heap.objs.size ∧ s₁ = { s with heap := s.heap.push (newSetObj w) }) ⟨rfl, rfl⟩) fun res s₁ hr => ?_
  cases res with
  | error e => exact hr
  | ok fl =>
    cases fl with
    | ret obj =>
      obtain ⟨rfl, rfl⟩ := hr
      have at0 : (s.heap.push (newSetObj w)).get? s.heap.objs.size = some (newSetObj w) := Heap.get?_push_size _ rfl
      have ty0 : Shared.TypeIs { s with heap := s.heap.push (newSetObj w) } (.ref s.heap.objs.size) "set" := ⟨_, at0, rfl⟩
      have li := F.called_set.init.lookup
      have bi := F.called_set.init.bind (.ref s.heap.objs.size)
      repeat (any_goals (first | assumption | wp_step))
      refine codeAny_mono (codeAny_call_builtin (R := wants (fun r s₂ => r = .none ∧ ∃ h' tk c, s₂ = { s with heap := h', toks := tk } ∧ SetG w h' s.heap.objs.size (fun j => hasK ks j) c ∧ c ≤ ks.length ∧
          ∀ b o, s.heap.get? b = some o → h'.get? b = some o) E) F.called_set.init.plain F.entry_set_init (check_set_init_1 ty0 ?_)) fun res₂ s₂ hr₂ => ?_
      · skip
        have n1 := F.sub_str_set
        have n2 := F.sub_str_frozenset
        have n3 : (Value.type "str" == Value.type "dict") = false := by decide
        unfold Builtin.«set.__init__» noKeywords Builtin.Frozenset.updateFrom
        generalize hPI : pyIter = PI
        wp_walk
        subst hPI
        refine wpAny_pyIter_ascii ha ?_
        refine wpAny_bind (wpAny_runValue ?_)
        have hh3 : A.in1.in1.in1.handled = none := by simp [hh]
        have sz1 : (s.heap.push (newSetObj w)).objs.size = s.heap.objs.size + 1 := Heap.size_push ..

        refine setG_loop ((Walks.strAscii hh3 _ x t).toS) s.heap.objs.size (by rw [sz1]; simp only [List.mem_cons, List.not_mem_nil, or_false]; exact Nat.ne_of_lt (Nat.lt_succ_self _)) ks (by rw [hks, List.length_map, Array.length_toList]) hb (fun i v ⟨c, t2, e1, e2⟩ => ⟨.inr ⟨#[c]⟩, by rw [hks, List.getElem?_map, Array.getElem?_toList, e1]; rfl, by rw [e2]; rfl⟩) (x.cps.size - 0) 0 _ (by omega) (Nat.zero_le _) ⟨_, Heap.get?_push_size _ rfl, rfl, rfl⟩ ?hS0 ?hR
        case hS0 => exact ⟨0, Nat.le_refl 0, setG_empty (Heap.get?_push_of_some _ at0) fun k => by unfold hasK; rw [List.take_zero]; rfl⟩
        case hR =>
          intro s3 c3 mv hc3 hS3
          obtain ⟨h3, g3, d3, tk3, os3⟩ := s3
          obtain rfl : g3 = s.gens := mv.gens
          obtain rfl : d3 = s.drawn := mv.drawn
          obtain rfl : os3 = s.os := mv.os
          refine wpAny_pure (?_ : wpAny _ _ (ret Value.none) _ _ _)
          refine wpAny_pure ⟨rfl, h3, tk3, c3, rfl, hS3, (by rw [hks, List.length_map, Array.length_toList]; exact hc3), fun b o e => ?_⟩
          have lt0 : b < s.heap.objs.size := Heap.lt_size e
          refine mv.heap b o (fun z => ?_) (Heap.get?_push_of_some _ (Heap.get?_push_of_some _ e))
          simp only [List.mem_cons, List.not_mem_nil, or_false] at z
          rcases z with z | z
          · exact absurd lt0 (by rw [z]; exact Nat.lt_irrefl _)
          · exact absurd lt0 (by rw [z, sz1]; exact Nat.not_lt_of_le (Nat.le_succ _))
      · cases res₂ with
        | error e => exact hr₂
        | ok fl₂ =>
          cases fl₂ with
          | ret r =>
            obtain ⟨rfl, h3, tk3, c3, rfl, hS3, hc3, hk3⟩ := hr₂
            repeat (any_goals (first | assumption | wp_step))
            exact h _ _ _ hS3 hc3 hk3
          | _ => exact hr₂.elim
    | _ => exact hr.elim
end
end MR

namespace MR
open PySem PySem.Spec PyProof.Rows L2
section
variable {P : Program} {w : World} {A : Around} {E : Value → Shared → Prop} {s : Shared} {a : Addr} {S : Key → Bool} {n : Nat}

set_option maxHeartbeats 3200000 in
theorem call_set_wide {x : Str} {t : Tok} (ks : List Key) {Q : Value → Shared → Prop} (hh : A.handled = none) (ha : x.cps.all (· < 128) = false) (hks : ks = x.cps.toList.map fun c => Sum.inr ⟨#[c]⟩) (hb : ks.length + 1 < scanBound)
    (h : ∀ (h' : Heap) (tk c : Nat), SetG w h' s.heap.objs.size (fun j => hasK ks j) c → c ≤ ks.length → (∀ b o, s.heap.get? b = some o → h'.get? b = some o) → Q (.ref s.heap.objs.size) { s with heap := h', toks := tk }) :
    wpAny (model P w) A (call (.type "set") [.str x t]) Q E s := by
  obtain ⟨c0, tl, hmro⟩ := F.called_set.mro
  have is_made := F.called_set.made
  have is_sub := F.called_set.sub
  refine wpAny_call (codeAny_of_tree (?_ : wpAny _ _ (callAny (.type "set") _) _ _ _))
  refine wpAny_pure ⟨Code.quiet_builtin _ (by decide +kernel), codeAny_builtin F.entry_type_call ?_⟩
  rw [Around.under_plain (weight_type_call_type "set" [.str x t] []) rfl]
  have f1 := F.called_set.notType
  have f2 := F.called_set.canCreate
  have f3 := F.typeCall_set_1 (.str x t)
  repeat (any_goals (first | assumption | wp_step))
  refine codeAny_mono (code_new1 (.str x t) (E := E) (Q₁ := fun ob s₁ => ob = .ref s.heap.objs.size ∧ s₁ = { s with heap := s.heap.push (newSetObj w) }) ⟨rfl, rfl⟩) fun res s₁ hr => ?_
  cases res with
  | error e => exact hr
  | ok fl =>
    cases fl with
    | ret obj =>
      obtain ⟨rfl, rfl⟩ := hr
      have at0 : (s.heap.push (newSetObj w)).get? s.heap.objs.size = some (newSetObj w) := Heap.get?_push_size _ rfl
      have ty0 : Shared.TypeIs { s with heap := s.heap.push (newSetObj w) } (.ref s.heap.objs.size) "set" := ⟨_, at0, rfl⟩
      have li := F.called_set.init.lookup
      have bi := F.called_set.init.bind (.ref s.heap.objs.size)
      repeat (any_goals (first | assumption | wp_step))
      refine codeAny_mono (codeAny_call_builtin (R := wants (fun r s₂ => r = .none ∧ ∃ h' tk c, s₂ = { s with heap := h', toks := tk } ∧ SetG w h' s.heap.objs.size (fun j => hasK ks j) c ∧ c ≤ ks.length ∧
          ∀ b o, s.heap.get? b = some o → h'.get? b = some o) E) F.called_set.init.plain F.entry_set_init (check_set_init_1 ty0 ?_)) fun res₂ s₂ hr₂ => ?_
      · skip
        have n1 := F.sub_str_set
        have n2 := F.sub_str_frozenset
        have n3 : (Value.type "str" == Value.type "dict") = false := by decide
        unfold Builtin.«set.__init__» noKeywords Builtin.Frozenset.updateFrom
        generalize hPI : pyIter = PI
        wp_walk
        subst hPI
        refine wpAny_pyIter_wide ha ?_
        refine wpAny_bind (wpAny_runValue ?_)
        have hh3 : A.in1.in1.in1.handled = none := by simp [hh]
        have sz1 : (s.heap.push (newSetObj w)).objs.size = s.heap.objs.size + 1 := Heap.size_push ..

        refine setG_loop ((Walks.strWide hh3 _ x t).toS) s.heap.objs.size (by rw [sz1]; simp only [List.mem_cons, List.not_mem_nil, or_false]; exact Nat.ne_of_lt (Nat.lt_succ_self _)) ks (by rw [hks, List.length_map, Array.length_toList]) hb (fun i v ⟨c, t2, e1, e2⟩ => ⟨.inr ⟨#[c]⟩, by rw [hks, List.getElem?_map, Array.getElem?_toList, e1]; rfl, by rw [e2]; rfl⟩) (x.cps.size - 0) 0 _ (by omega) (Nat.zero_le _) ⟨_, Heap.get?_push_size _ rfl, rfl, rfl⟩ ?hS0 ?hR
        case hS0 => exact ⟨0, Nat.le_refl 0, setG_empty (Heap.get?_push_of_some _ at0) fun k => by unfold hasK; rw [List.take_zero]; rfl⟩
        case hR =>
          intro s3 c3 mv hc3 hS3
          obtain ⟨h3, g3, d3, tk3, os3⟩ := s3
          obtain rfl : g3 = s.gens := mv.gens
          obtain rfl : d3 = s.drawn := mv.drawn
          obtain rfl : os3 = s.os := mv.os
          refine wpAny_pure (?_ : wpAny _ _ (ret Value.none) _ _ _)
          refine wpAny_pure ⟨rfl, h3, tk3, c3, rfl, hS3, (by rw [hks, List.length_map, Array.length_toList]; exact hc3), fun b o e => ?_⟩
          have lt0 : b < s.heap.objs.size := Heap.lt_size e
          refine mv.heap b o (fun z => ?_) (Heap.get?_push_of_some _ (Heap.get?_push_of_some _ e))
          simp only [List.mem_cons, List.not_mem_nil, or_false] at z
          rcases z with z | z
          · exact absurd lt0 (by rw [z]; exact Nat.lt_irrefl _)
          · exact absurd lt0 (by rw [z, sz1]; exact Nat.not_lt_of_le (Nat.le_succ _))
      · cases res₂ with
        | error e => exact hr₂
        | ok fl₂ =>
          cases fl₂ with
          | ret r =>
            obtain ⟨rfl, h3, tk3, c3, rfl, hS3, hc3, hk3⟩ := hr₂
            repeat (any_goals (first | assumption | wp_step))
            exact h _ _ _ hS3 hc3 hk3
          | _ => exact hr₂.elim
    | _ => exact hr.elim
end
end MR

namespace MR
open PySem PySem.Spec PyProof.Rows L2
section
variable {P : Program} {w : World} {A : Around} {E : Value → Shared → Prop} {s : Shared} {a : Addr} {S : Key → Bool} {n : Nat}

def txtOf (v : Value) : Str := match v with
  | .str x _ => x
  | _ => Str.empty
/-- the texts of a set, sorted -/
theorem sorted_setG {n : Nat} {Q : Value → Shared → Prop} (R : SetG w s.heap a S n) (hh : A.handled = none) (hu : A.units + 64 < cLine) (hs : ∀ k, S k = true → ∃ x, k = Sum.inr x)
    (hQ : ∀ s' p (out : Array Value) (c : Nat) (xs : List Str), (∀ b o, s.heap.get? b = some o → s'.heap.get? b = some o) → s'.gens = s.gens → s'.os = s.os → s.heap.objs.size ≤ p →
      s'.heap.get? p = some (seqObj "list" out c) → PySem.W.EachIs (fun v x => ∃ t, v = Value.str x t) out.toList xs → (∃ ys : List Str, xs = ys.mergeSort (PySem.W.dataLe false PyData.str) ∧ ys.length ≤ sizeLine ∧ ys.Nodup ∧ (∀ x, x ∈ ys ↔ S (Sum.inr x) = true)) → Q (.ref p) s') :
    wpAny (model P w) A (call (.builtin "sorted") [.ref a]) Q E s := by
  obtain ⟨ob, el, ep, tb, ho, hx, hd, g, nd, hm, hb, hf, hn, hr, hl⟩ := R
  refine Calls.call_function_entry kind_sorted plain_sorted entry_sorted (args_sorted1 _) ?_
  unfold Builtin.«sorted»
  refine wpAny_bind (m := checkCount "sorted" 1 1 _) (wpAny_pure (wpAny_bind (collect_set (A := A.in1) hh ⟨ob, ho, hx.1, hd⟩ hf hb hr hl fun s1 vs k1 hz g1 o1 pm => ?_)))
  have texts : ∀ v ∈ vs, ∃ x t, v = Value.str x t := fun v hv => by
    obtain ⟨e, he, q⟩ := List.mem_map.mp (pm.mem_iff.mp hv)
    obtain ⟨k, hk, _⟩ := g e he
    obtain ⟨x, rfl⟩ := hs k ((hm k).2 (List.mem_map.mpr ⟨e, he, hk⟩))
    rw [q] at hk
    cases v with
    | str y t =>
      cases hk
      exact ⟨_, t, rfl⟩
    | int i t => cases hk
    | _ => cases hk
  have vl : vs.length ≤ sizeLine := by
    rw [pm.length_eq, List.length_map, Array.length_toList]
    exact fits_of_scanBound hb
  have each : PySem.W.EachIs (fun v x => ∃ t, v = Value.str x t) vs (vs.map txtOf) := by
    clear pm hz g1 o1 vl k1
    induction vs with
    | nil => exact .nil
    | cons v l ih =>
      obtain ⟨x, t, rfl⟩ := texts v List.mem_cons_self
      exact .cons ⟨t, rfl⟩ (ih fun u hu => texts u (List.mem_cons_of_mem _ hu))
  refine wpAny_bind (wpAny_newList ?_ vl)
  have at1 : (s1.heap.push (seqObj "list" vs.toArray 0)).get? s1.heap.objs.size = some (seqObj "list" vs.toArray 0) := Heap.get?_push_size _ rfl
  have er : PySem.W.EachIs (fun v x => ∃ as, Reads (s1.heap.push (seqObj "list" vs.toArray 0)) v (PyData.str x) as ∧ s1.heap.objs.size ∉ as) vs (vs.map txtOf) := each.mono fun v x ⟨t, e⟩ => by
    rw [e]
    exact ⟨[], .str x t, List.not_mem_nil⟩
  refine wpAny_bind (wpAny_holding (PySem.W.list_sort_data (A := A.in1) (s := { s1 with heap := s1.heap.push (seqObj "list" vs.toArray 0) }) at1 each er (PySem.W.AllAlike.of fun _ _ => rfl) (PySem.W.Sortable.others fun _ => ⟨fun z => (nomatch z), fun _ z => (nomatch z)⟩)
    (by rw [List.length_map]; exact vl) (fun x _ => by show A.units + 1 + 1 + 0 < cLine; omega) fun out hlen eo => ?_))
  obtain ⟨c, hc⟩ := sortedHeap_at (vs := vs) (out := out.toArray) at1
  refine wpAny_pure ⟨_, rfl, hQ _ s1.heap.objs.size out.toArray c _ (fun b u e => ?_) g1 o1 hz hc (by rw [List.toList_toArray]; exact eo) ⟨_, rfl, by rw [List.length_map]; exact vl, ?_, fun x => ?_⟩⟩
  · have q := k1 b u e
    have lt := Heap.lt_size q
    show (sortedHeap (s1.heap.push (seqObj "list" vs.toArray 0)) s1.heap.objs.size vs out.toArray).get? b = some u
    rw [sortedHeap_old (Nat.ne_of_lt lt) (by rw [size_push']; exact Nat.lt_succ_of_lt lt)]
    exact Heap.get?_push_of_some _ q
  · have nk : (vs.map kOf).Nodup := by
      have q := (pm.map kOf).nodup_iff
      rw [List.map_map] at q
      exact q.mpr nd
    have e : vs.map kOf = (vs.map txtOf).map fun x => some (Sum.inr x : Key) := by
      rw [List.map_map]
      refine List.map_congr_left fun v hv => ?_
      obtain ⟨x, t, rfl⟩ := texts v hv
      rfl
    rw [e] at nk
    exact List.Pairwise.of_map _ (fun a b h z => h (by rw [z])) nk
  · rw [hm, List.mem_map, List.mem_map]
    constructor
    · rintro ⟨v, hv, rfl⟩
      obtain ⟨e, he, q⟩ := List.mem_map.mp (pm.mem_iff.mp hv)
      obtain ⟨y, t, rfl⟩ := texts v hv
      exact ⟨e, he, by rw [q]; rfl⟩
    · rintro ⟨e, he, q⟩
      have hv : e.2 ∈ vs := pm.mem_iff.mpr (List.mem_map.mpr ⟨e, he, rfl⟩)
      obtain ⟨y, t, ey⟩ := texts _ hv
      refine ⟨e.2, hv, ?_⟩
      rw [ey] at q ⊢
      cases q
      rfl
end
end MR

/-! The data layer: what a program does with values that read as data, without addresses. -/
namespace MR
open PySem PySem.Spec PyProof.Rows L2

/-- a key as data -/
def keyD : Key → PyData
  | .inl i => .int i
  | .inr x => .str x
/-- of at most n bits -/
def Bd (n : Nat) (i : Int) : Prop := ∃ b : Nat, 0 < b ∧ b ≤ n ∧ i.natAbs < 2 ^ b
/-- the well of drawn numbers: the one object that the defs change -/
def Well (o : HO) : Prop := ∃ i j : Int, o = .lst [.int i, .int j] ∧ 0 ≤ i ∧ Bd 2000000 i ∧ 0 ≤ j ∧ j < 4294967296
/-- no list of two whole numbers: no well -/
def noP (xs : List V) : Prop := ∀ i j : Int, xs ≠ [.int i, .int j]
def nP (ds : List PyData) : Bool := match ds with
  | [.int _, .int _] => false
  | _ => true
structure LstAt (H : Hp) (a : Addr) (xs : List V) : Prop where
  at_ : H a = some (.lst xs)
  np : noP xs

mutual
/-- the value v reads as the data d -/
def Rp (K : PySem.W.Frag) (H : Hp) : PyData → V → Prop
  | .none, v => v = .non
  | .bool b, v => v = .bl b
  | .int i, v => v = .int i
  | .str x, v => v = .str x
  | .list ds, v => ∃ a xs, v = .ref a ∧ LstAt H a xs ∧ RpA K H ds xs
  | .tuple ds, v => ∃ a xs, v = .ref a ∧ SqT K H a xs ∧ RpA K H ds xs
  | .dict kvs, v => ∃ a es, v = .ref a ∧ H a = some (.dK es) ∧ ¬ Well (.dK es) ∧ RpK K H kvs es
def RpA (K : PySem.W.Frag) (H : Hp) : List PyData → List V → Prop
  | [], vs => vs = []
  | d :: ds, vs => ∃ v r, vs = v :: r ∧ Rp K H d v ∧ RpA K H ds r
def RpK (K : PySem.W.Frag) (H : Hp) : List (PyData × PyData) → List (Key × V) → Prop
  | [], es => es = []
  | (k, d) :: r, es => ∃ k' v q, es = (k', v) :: q ∧ k = keyD k' ∧ Rp K H d v ∧ RpK K H r q
end

/-! ### what may change: the wells alone -/
def Ext (H H' : Hp) : Prop := ∀ a o, H a = some o → H' a = some o ∨ (Well o ∧ ∃ o', H' a = some o' ∧ Well o')
def hide (P : Addr → Bool) (H : Hp) : Hp := fun a => if P a = true then none else H a
theorem Ext.refl (H : Hp) : Ext H H := fun _ _ h => .inl h
theorem Ext.trans {H H1 H2 : Hp} (x : Ext H H1) (y : Ext H1 H2) : Ext H H2 := fun a o h => by
  rcases x a o h with h1 | ⟨w, o1, h1, w1⟩
  · exact y a o h1
  · rcases y a o1 h1 with h2 | ⟨_, o2, h2, w2⟩
    · exact .inr ⟨w, o1, h2, w1⟩
    · exact .inr ⟨w, o2, h2, w2⟩
theorem Ext.same {H H' : Hp} (x : Same H H') : Ext H H' := fun a o h => .inl (x a o h)
theorem Ext.new {H : Hp} {p : Addr} {o : HO} (h : H p = none) : Ext H (upd H p o) := fun a u e => .inl (by
  rw [upd_ne (ne_of_none e h)]
  exact e)
theorem Ext.none {H H' : Hp} {p : Addr} (x : Ext H H') (h : H' p = Option.none) : H p = Option.none := by
  cases q : H p with
  | none => rfl
  | some o =>
    rcases x p o q with z | ⟨_, _, z, _⟩ <;> (rw [z] at h; cases h)
theorem Ext.some {H H' : Hp} {p : Addr} (x : Ext H H') (h : H p ≠ Option.none) : H' p ≠ Option.none := fun z => h (x.none z)
theorem Ext.hide {H H' : Hp} (P : Addr → Bool) (x : Ext H H') : Ext (hide P H) (hide P H') := fun a o h => by
  unfold MR.hide at h ⊢
  split at h
  · cases h
  · rename_i n
    rw [if_neg n]
    exact x a o h
theorem hide_ext (P : Addr → Bool) (H : Hp) : Ext (hide P H) H := fun a o h => by
  unfold hide at h
  split at h
  · cases h
  · exact .inl h
theorem hide_less {P P' : Addr → Bool} (H : Hp) (h : ∀ a, P a = true → P' a = true) : Ext (hide P' H) (hide P H) := fun a o e => by
  unfold hide at e ⊢
  split at e
  · cases e
  · rename_i n
    rw [if_neg (fun z => n (h a z))]
    exact .inl e
theorem hide_at {P : Addr → Bool} {H : Hp} {a : Addr} (h : P a = false) : hide P H a = H a := by
  unfold hide
  rw [h, if_neg Bool.false_ne_true]
/-- what is private stands there; the table of modules is private to all -/
def Dom (P : Addr → Bool) (H : Hp) : Prop := P sysModules = true ∧ ∀ a, P a = true → H a ≠ none
theorem hide_off (H : Hp) : hide (fun _ => false) H = H := funext fun a => hide_at rfl
theorem Ext.lst {H H' : Hp} {a : Addr} {xs : List V} (x : Ext H H') (h : LstAt H a xs) : LstAt H' a xs := by
  refine ⟨?_, h.np⟩
  rcases x a _ h.at_ with z | ⟨⟨i, j, z, _⟩, _⟩
  · exact z
  · cases z
    exact absurd rfl (h.np i j)
theorem hide_some {P : Addr → Bool} {H : Hp} {a : Addr} {o : HO} (h : hide P H a = some o) : H a = some o := by
  unfold hide at h
  split at h
  · cases h
  · exact h
/-- the script's list: frozen or written -/
def SqF (K : PySem.W.Frag) (H : Hp) (a : Addr) (xs : List V) : Prop := SqL K H a xs ∧ ((∃ o, H a = some (.frz o (.lst xs))) ∨ ∀ H' : Hp, SqL K H' a xs)
theorem Ext.seqL {K : PySem.W.Frag} {H H' : Hp} {a : Addr} {xs : List V} (x : Ext H H') (h : SqF K H a xs) : SqF K H' a xs := by
  rcases h with ⟨_, ⟨o, h⟩ | h⟩
  · rcases x a _ h with z | ⟨⟨_, _, z, _⟩, _⟩
    · exact ⟨.inl (.inr ⟨o, z⟩), .inl ⟨o, z⟩⟩
    · cases z
  · exact ⟨h H', .inr h⟩
theorem Ext.seqT {K : PySem.W.Frag} {H H' : Hp} {a : Addr} {xs : List V} (x : Ext H H') (h : SqT K H a xs) : SqT K H' a xs := by
  rcases h with (h | ⟨o, h⟩) | h
  · rcases x a _ h with z | ⟨⟨_, _, z, _⟩, _⟩
    · exact .inl (.inl z)
    · cases z
  · rcases x a _ h with z | ⟨⟨_, _, z, _⟩, _⟩
    · exact .inl (.inr ⟨o, z⟩)
    · cases z
  · exact .inr h
mutual
theorem Rp.ext {K : PySem.W.Frag} {H H' : Hp} (x : Ext H H') : ∀ {d : PyData} {v : V}, Rp K H d v → Rp K H' d v
  | .none, _, h => h
  | .bool _, _, h => h
  | .int _, _, h => h
  | .str _, _, h => h
  | .list _, _, ⟨a, xs, e, q, r⟩ => ⟨a, xs, e, x.lst q, RpA.ext x r⟩
  | .tuple _, _, ⟨a, xs, e, q, r⟩ => ⟨a, xs, e, x.seqT q, RpA.ext x r⟩
  | .dict _, _, ⟨a, es, e, q, n, r⟩ => ⟨a, es, e, (x a _ q).resolve_right fun z => n z.1, n, RpK.ext x r⟩
theorem RpA.ext {K : PySem.W.Frag} {H H' : Hp} (x : Ext H H') : ∀ {ds : List PyData} {vs : List V}, RpA K H ds vs → RpA K H' ds vs
  | [], _, h => h
  | _ :: _, _, ⟨v, r, e, h, t⟩ => ⟨v, r, e, Rp.ext x h, RpA.ext x t⟩
theorem RpK.ext {K : PySem.W.Frag} {H H' : Hp} (x : Ext H H') : ∀ {ds : List (PyData × PyData)} {vs : List (Key × V)}, RpK K H ds vs → RpK K H' ds vs
  | [], _, h => h
  | (_, _) :: _, _, ⟨k, v, q, e, ek, h, t⟩ => ⟨k, v, q, e, ek, Rp.ext x h, RpK.ext x t⟩
end
theorem RpA.len {K : PySem.W.Frag} {H : Hp} : ∀ {ds : List PyData} {vs : List V}, RpA K H ds vs → ds.length = vs.length
  | [], vs, h => by rw [show vs = [] from h]; rfl
  | _ :: _, _, ⟨v, r, e, _, t⟩ => by rw [e, List.length_cons, List.length_cons, RpA.len t]
theorem RpA.app {K : PySem.W.Frag} {H : Hp} : ∀ {ds es : List PyData} {vs us : List V}, RpA K H ds vs → RpA K H es us → RpA K H (ds ++ es) (vs ++ us)
  | [], _, vs, _, h, q => by rw [show vs = [] from h]; exact q
  | _ :: _, _, _, _, ⟨v, r, e, h, t⟩, q => ⟨v, _, by rw [e]; rfl, h, RpA.app t q⟩
theorem RpA.get {K : PySem.W.Frag} {H : Hp} : ∀ {ds : List PyData} {vs : List V} {i : Nat} {d : PyData}, RpA K H ds vs → ds[i]? = some d → ∃ v, vs[i]? = some v ∧ Rp K H d v
  | [], _, _, _, _, e => by cases e
  | _ :: _, _, 0, _, ⟨v, r, q, h, t⟩, e => by
    cases e
    exact ⟨v, by rw [q]; rfl, h⟩
  | _ :: _, _, i + 1, _, ⟨v, r, q, h, t⟩, e => by
    obtain ⟨u, e1, e2⟩ := RpA.get (i := i) t e
    exact ⟨u, by rw [q]; exact e1, e2⟩
theorem RpA.back {K : PySem.W.Frag} {H : Hp} {ds : List PyData} {vs : List V} {i : Nat} {v : V} (h : RpA K H ds vs) (e : vs[i]? = some v) : ∃ d, ds[i]? = some d ∧ Rp K H d v := by
  have hi : i < ds.length := by
    rw [h.len]
    exact (List.getElem?_eq_some_iff.mp e).1
  obtain ⟨u, e1, e2⟩ := h.get (List.getElem?_eq_getElem hi)
  rw [e] at e1
  cases e1
  exact ⟨_, List.getElem?_eq_getElem hi, e2⟩
theorem RpA.take {K : PySem.W.Frag} {H : Hp} : ∀ {ds : List PyData} {vs : List V} (n : Nat), RpA K H ds vs → RpA K H (ds.take n) (vs.take n)
  | _, _, 0, _ => rfl
  | [], vs, n + 1, h => by rw [show vs = [] from h]; rfl
  | _ :: _, _, n + 1, ⟨v, r, e, h, t⟩ => ⟨v, r.take n, by rw [e]; rfl, h, RpA.take n t⟩
theorem RpA.drop {K : PySem.W.Frag} {H : Hp} : ∀ {ds : List PyData} {vs : List V} (n : Nat), RpA K H ds vs → RpA K H (ds.drop n) (vs.drop n)
  | _, _, 0, h => h
  | [], vs, n + 1, h => by rw [show vs = [] from h]; rfl
  | _ :: _, _, n + 1, ⟨v, r, e, h, t⟩ => by rw [e]; exact RpA.drop n t

theorem noP_of {K : PySem.W.Frag} {H : Hp} {ds : List PyData} {xs : List V} (r : RpA K H ds xs) (h : nP ds = true) : noP xs := fun i j e => by
  subst e
  have l := r.len
  match ds, l with
  | [d, d'], _ =>
    obtain ⟨v, q, e1, r1, w, q2, e2, r2, e3⟩ := r
    have e3' : q2 = [] := e3
    subst e2 e3'
    cases e1
    cases d <;> cases d' <;> first | (cases h; done) | (cases r1; done) | (cases r2; done) | (obtain ⟨_, _, z, _⟩ := r1; cases z; done) | (obtain ⟨_, _, z, _⟩ := r2; cases z; done)
/-! ### slots -/
/-- what a slot alone holds but lists: a house (its class, its object, its dict), a dict with text keys -/
inductive OD where
  | hs (C a d : Addr) (es : List (Str × PyData)) | dc (d : Addr) (es : List (Str × PyData))
def OD.as : OD → List Addr
  | .hs _ a d _ => [a, d]
  | .dc d _ => [d]
def OD.at_ : OD → Addr
  | .hs _ a _ _ => a
  | .dc d _ => d
/-- data, or what is no data: the well, a set of keys (by its members), a value by itself -/
inductive DV where
  | p (d : PyData) | well | set (ks : List Key) | scr (ns : List Int) | raw (v : V) | hs (C : Addr) (es : List (Str × PyData)) | hd (es : List (Str × PyData)) | rt (o : OD) (z : Option PyData)
/-- entries: text keys with data -/
abbrev Ents := List (Str × PyData)
def RpE (K : PySem.W.Frag) (H : Hp) : Ents → List (Key × V) → Prop
  | [], kvs => kvs = []
  | (n, d) :: es, kvs => ∃ v q, kvs = (.inr n, v) :: q ∧ Rp K H d v ∧ RpE K H es q
theorem RpE.ext {K : PySem.W.Frag} {H H' : Hp} (x : Ext H H') : ∀ {es : Ents} {kvs : List (Key × V)}, RpE K H es kvs → RpE K H' es kvs
  | [], _, h => h
  | (_, _) :: _, _, ⟨v, q, e, h, t⟩ => ⟨v, q, e, Rp.ext x h, RpE.ext x t⟩
/-- the written part, the program, the world -/
structure Ky where
  K : PySem.W.Frag
  P : Program
  w : World
def Cx.ky (X : Cx) : Ky := ⟨X.K, X.prog, X.w⟩
/-- a set of keys, as an object -/
def SetGO (w : World) (a : Addr) (S : Key → Bool) (n : Nat) : HO := .ext fun h => SetG w h a S n
def OdRd (κ : Ky) (Hh H : Hp) : OD → Prop
  | .hs C a d es => ∃ dx vm kvs, H a = some (.ins C dx [("_entries", .ref d), ("memory", vm)]) ∧ H d = some (.dK kvs) ∧ RpE κ.K Hh es kvs
  | .dc d es => ∃ kvs, H d = some (.dK kvs) ∧ RpE κ.K Hh es kvs
def mem (as : List Addr) : Addr → Bool := fun b => decide (b ∈ as)
def Rv (κ : Ky) (H : Hp) : DV → V → Prop
  | .p d, v => Rp κ.K H d v
  | .well, v => ∃ a o, v = .ref a ∧ H a = some o ∧ Well o
  | .set ks, v => ∃ a n, v = .ref a ∧ H a = some (SetGO κ.w a (hasK ks) n)
  | .scr ns, v => ∃ a, v = .ref a ∧ SqF κ.K H a (ns.map V.int)
  | .raw u, v => v = u
  | .hs C es, v => ∃ a d dx vm od kvs, v = .ref a ∧ H a = some (.ins C dx [("_entries", .ref d), ("memory", vm)]) ∧ H d = some (.frz od (.dK kvs)) ∧ RpE κ.K H es kvs
  | .hd es, v => ∃ d od kvs, v = .ref d ∧ H d = some (.frz od (.dK kvs)) ∧ RpE κ.K H es kvs
  | .rt o z, v => OdRd κ (hide (mem o.as) H) H o ∧ (match z with | some z => Rp κ.K (hide (mem o.as) H) z v | none => v = .ref o.at_)
def odK : HO → Prop
  | .ins _ _ _ => True
  | .dK _ => True
  | _ => False
theorem OdRd.mono {κ : Ky} {Hh Hh' H H' : Hp} {o : OD} (r : OdRd κ Hh H o) (hk : ∀ b u, b ∈ o.as → H b = some u → odK u → H' b = some u) (x : Ext Hh Hh') : OdRd κ Hh' H' o := by
  cases o with
  | hs C a d es =>
    obtain ⟨dx, vm, kvs, h1, h2, r⟩ := r
    exact ⟨dx, vm, kvs, hk a _ List.mem_cons_self h1 trivial, hk d _ (List.mem_cons_of_mem _ List.mem_cons_self) h2 trivial, r.ext x⟩
  | dc d es =>
    obtain ⟨kvs, h2, r⟩ := r
    exact ⟨kvs, hk d _ List.mem_cons_self h2 trivial, r.ext x⟩
theorem OdRd.kinds {κ : Ky} {Hh H : Hp} {o : OD} (r : OdRd κ Hh H o) {b : Addr} (m : b ∈ o.as) : ∃ u, H b = some u ∧ odK u := by
  cases o with
  | hs C a d es =>
    obtain ⟨dx, vm, kvs, h1, h2, r⟩ := r
    rcases List.mem_cons.mp m with z | z
    · rw [z]; exact ⟨_, h1, trivial⟩
    · rw [List.mem_singleton.mp z]; exact ⟨_, h2, trivial⟩
  | dc d es =>
    obtain ⟨kvs, h2, r⟩ := r
    rw [List.mem_singleton.mp m]
    exact ⟨_, h2, trivial⟩
theorem Ext.keep {H H' : Hp} {a : Addr} {o : HO} (x : Ext H H') (h : H a = Option.some o) (n : ¬ Well o) : H' a = Option.some o := (x a o h).resolve_right fun z => n z.1
theorem Rv.ext {κ : Ky} {H H' : Hp} (x : Ext H H') : ∀ {d : DV} {v : V}, Rv κ H d v → Rv κ H' d v
  | .p _, _, h => Rp.ext x h
  | .well, _, ⟨a, o, e, h, w⟩ => by
    rcases x a o h with z | ⟨_, o', z, w'⟩
    · exact ⟨a, o, e, z, w⟩
    · exact ⟨a, o', e, z, w'⟩
  | .set _, _, ⟨a, n, e, h⟩ => ⟨a, n, e, (x a _ h).resolve_right fun ⟨⟨_, _, z, _⟩, _⟩ => by cases z⟩
  | .scr _, _, ⟨a, e, h⟩ => ⟨a, e, x.seqL h⟩
  | .raw _, _, h => h
  | .hs _ _, _, ⟨a, d, dx, vm, od, kvs, e, h1, h2, r⟩ => ⟨a, d, dx, vm, od, kvs, e, x.keep h1 (fun ⟨_, _, z, _⟩ => by cases z), x.keep h2 (fun ⟨_, _, z, _⟩ => by cases z), r.ext x⟩
  | .hd _, _, ⟨d, od, kvs, e, h2, r⟩ => ⟨d, od, kvs, e, x.keep h2 (fun ⟨_, _, z, _⟩ => by cases z), r.ext x⟩
  | .rt o z, _, ⟨r, q⟩ => ⟨r.mono (fun b u _ h k => x.keep h fun ⟨_, _, z, _⟩ => by rw [z] at k; exact k) (x.hide _), by
    cases z with
    | none => exact q
    | some z => exact Rp.ext (x.hide _) q⟩
/-- a slot: nothing, data, a list that this slot alone holds -/
inductive Sl where
  | un | v (d : DV) | own (ds : List PyData) | od (o : OD)
abbrev Dn := List Sl
abbrev Sg := L2.St
def oor (P L : Addr → Bool) : Addr → Bool := fun a => P a || L a
/-- what stays as it is through a def: its heap at the entry, what is private to the callers, what else is to be kept (as what, where) -/
structure Sc where
  H0 : Hp
  P : Addr → Bool
  bs : List DV
  us : List V
  M : Addr → Bool := fun _ => false
/-- what may change where M says so: anything but to nothing -/
def ExtM (M : Addr → Bool) (H H' : Hp) : Prop := ∀ a o, H a = some o → (M a = false ∧ (H' a = some o ∨ (Well o ∧ ∃ o', H' a = some o' ∧ Well o'))) ∨ (M a = true ∧ H' a ≠ none)
theorem ExtM.none {M : Addr → Bool} {H H' : Hp} {p : Addr} (x : ExtM M H H') (h : H' p = Option.none) : H p = Option.none := by
  cases q : H p with
  | none => rfl
  | some o =>
    rcases x p o q with ⟨_, z | ⟨_, _, z, _⟩⟩ | ⟨_, z⟩
    · rw [z] at h; cases h
    · rw [z] at h; cases h
    · exact absurd h z
theorem ExtM.some {M : Addr → Bool} {H H' : Hp} {p : Addr} (x : ExtM M H H') (h : H p ≠ Option.none) : H' p ≠ Option.none := fun z => h (x.none z)
theorem ExtM.trans {M : Addr → Bool} {H H1 H2 : Hp} (x : ExtM M H H1) (y : Ext H1 H2) : ExtM M H H2 := fun a o h => by
  rcases x a o h with ⟨m, z⟩ | ⟨m, z⟩
  · refine .inl ⟨m, ?_⟩
    rcases z with z | ⟨w, o', z, w'⟩
    · exact y a o z
    · rcases y a o' z with k | ⟨_, o2, k, w2⟩
      · exact .inr ⟨w, o', k, w'⟩
      · exact .inr ⟨w, o2, k, w2⟩
  · exact .inr ⟨m, y.some z⟩
theorem ExtM.refl (M : Addr → Bool) (H : Hp) : ExtM M H H := fun a o h => by
  cases m : M a with
  | false => exact .inl ⟨rfl, .inl h⟩
  | true => exact .inr ⟨rfl, by rw [h]; exact Option.some_ne_none _⟩
theorem ExtM.ext {M : Addr → Bool} {H H' : Hp} (x : ExtM M H H') (h : ∀ a, M a = false) : Ext H H' := fun a o e => by
  rcases x a o e with ⟨_, z⟩ | ⟨m, _⟩
  · exact z
  · rw [h a] at m; cases m
def RvA (κ : Ky) (H : Hp) : List DV → List V → Prop
  | [], vs => vs = []
  | d :: ds, vs => ∃ v r, vs = v :: r ∧ Rv κ H d v ∧ RvA κ H ds r
theorem RvA.ext {κ : Ky} {H H' : Hp} (x : Ext H H') : ∀ {ds : List DV} {vs : List V}, RvA κ H ds vs → RvA κ H' ds vs
  | [], _, h => h
  | _ :: _, _, ⟨v, r, e, h, t⟩ => ⟨v, r, e, h.ext x, RvA.ext x t⟩
theorem RvA.len {κ : Ky} {H : Hp} : ∀ {ds : List DV} {vs : List V}, RvA κ H ds vs → ds.length = vs.length
  | [], vs, h => by rw [show vs = [] from h]; rfl
  | _ :: _, _, ⟨v, r, e, _, t⟩ => by rw [e, List.length_cons, List.length_cons, RvA.len t]
theorem RvA.app {κ : Ky} {H : Hp} : ∀ {ds es : List DV} {vs us : List V}, RvA κ H ds vs → RvA κ H es us → RvA κ H (ds ++ es) (vs ++ us)
  | [], _, vs, _, h, q => by rw [show vs = [] from h]; exact q
  | _ :: _, _, _, _, ⟨v, r, e, h, t⟩, q => ⟨v, _, by rw [e]; rfl, h, RvA.app t q⟩
theorem RvA.split {κ : Ky} {H : Hp} : ∀ {ds es : List DV} {vs us : List V}, ds.length = vs.length → RvA κ H (ds ++ es) (vs ++ us) → RvA κ H ds vs ∧ RvA κ H es us
  | [], _, [], _, _, q => ⟨rfl, q⟩
  | [], _, _ :: _, _, h, _ => by cases h
  | _ :: _, _, [], _, h, _ => by cases h
  | d :: ds, es, v :: vs, us, h, ⟨v', r, e, q, t⟩ => by
    have e' : v :: (vs ++ us) = v' :: r := e
    cases e'
    obtain ⟨h1, h2⟩ := RvA.split (Nat.succ.inj h) t
    exact ⟨⟨v, vs, rfl, q, h1⟩, h2⟩
/-- the owned houses and dicts of the slots -/
structure OdAt (κ : Ky) (Hh H : Hp) (L : Addr → Bool) (δ : Dn) (σ : Sg) : Prop where
  rd : ∀ (i : Nat) o, δ[i]? = some (Sl.od o) → σ[i]? = some (some (V.ref o.at_)) ∧ OdRd κ Hh H o ∧ ∀ b ∈ o.as, L b = true
  dj : ∀ (i j : Nat) o o', i ≠ j → δ[i]? = some (Sl.od o) → δ[j]? = some (Sl.od o') → ∀ b ∈ o.as, b ∉ o'.as
theorem OdAt.mono {κ : Ky} {Hh Hh' H H' : Hp} {L L' : Addr → Bool} {δ δ' : Dn} {σ σ' : Sg} (h : OdAt κ Hh H L δ σ) (hd : ∀ (i : Nat) o, δ'[i]? = some (Sl.od o) → δ[i]? = some (Sl.od o) ∧ σ'[i]? = σ[i]?)
    (hk : ∀ b u, L b = true → H b = some u → odK u → L' b = true ∧ H' b = some u) (x : Ext Hh Hh') : OdAt κ Hh' H' L' δ' σ' := by
  refine ⟨fun i o e => ?_, fun i j o o' n e1 e2 => h.dj i j o o' n (hd i o e1).1 (hd j o' e2).1⟩
  obtain ⟨e1, e2⟩ := hd i o e
  obtain ⟨q1, q2, q3⟩ := h.rd i o e1
  refine ⟨by rw [e2]; exact q1, q2.mono (fun b u m hb k => (hk b u (q3 b m) hb k).2) x, fun b m => ?_⟩
  obtain ⟨u, hu, k⟩ := q2.kinds m
  exact (hk b u (q3 b m) hu k).1
/-- the slots σ read as δ; L: the lists that single slots hold -/
structure ES (κ : Ky) (c : Sc) (H : Hp) (L : Addr → Bool) (δ : Dn) (σ : Sg) : Prop where
  len : δ.length = σ.length
  val : ∀ (i : Nat) (d : DV), δ[i]? = some (Sl.v d) → ∃ v, σ[i]? = some (some v) ∧ Rv κ (hide (oor c.P L) H) d v
  own : ∀ (i : Nat) (ds : List PyData), δ[i]? = some (Sl.own ds) → ∃ a xs, σ[i]? = some (some (V.ref a)) ∧ L a = true ∧ LstAt H a xs ∧ RpA κ.K (hide (oor c.P L) H) ds xs
  sep : ∀ (i j : Nat) (ds es : List PyData) (a : Addr), i ≠ j → δ[i]? = some (Sl.own ds) → δ[j]? = some (Sl.own es) → σ[i]? = some (some (V.ref a)) → σ[j]? ≠ some (some (V.ref a))
  psys : c.P sysModules = true
  pdom : ∀ a, c.P a = true → c.H0 a ≠ none
  ldom : ∀ a, L a = true → H a ≠ none ∧ (c.H0 a = none ∨ c.M a = true)
  ext : ExtM c.M c.H0 H
  kept : RvA κ (hide (oor c.P L) H) c.bs c.us
  ods : OdAt κ (hide (oor c.P L) H) H L δ σ
  mp : ∀ a, c.M a = true → c.P a = false
section
variable {κ : Ky} {c : Sc} {H H' : Hp} {L : Addr → Bool} {δ : Dn} {σ : Sg}
theorem ES.on (s : ES κ c H L δ σ) (x : Ext H H') : ES κ c H' L δ σ where
  len := s.len
  val := fun i d e => by
    obtain ⟨v, h1, h2⟩ := s.val i d e
    exact ⟨v, h1, h2.ext (x.hide _)⟩
  own := fun i ds e => by
    obtain ⟨a, xs, h1, h2, h3, h4⟩ := s.own i ds e
    exact ⟨a, xs, h1, h2, x.lst h3, h4.ext (x.hide _)⟩
  sep := s.sep
  psys := s.psys
  pdom := s.pdom
  ldom := fun a h => ⟨x.some (s.ldom a h).1, (s.ldom a h).2⟩
  ext := s.ext.trans x
  kept := s.kept.ext (x.hide _)
  ods := s.ods.mono (fun _ _ e => ⟨e, rfl⟩) (fun b u l h k => ⟨l, x.keep h fun ⟨_, _, z, _⟩ => by rw [z] at k; exact k⟩) (x.hide _)
  mp := s.mp
theorem ES.dom (s : ES κ c H L δ σ) : Dom (oor c.P L) H := by
  refine ⟨by unfold oor; rw [s.psys]; rfl, fun a h => ?_⟩
  unfold oor at h
  rcases (Bool.or_eq_true _ _).mp h with z | z
  · exact s.ext.some (s.pdom a z)
  · exact (s.ldom a z).1
end
theorem hide_new {P : Addr → Bool} {H : Hp} {p : Addr} {o : HO} (d : Dom P H) (h : H p = none) : hide P (upd H p o) p = some o := by
  have z : P p = false := by
    cases q : P p with
    | false => rfl
    | true => exact absurd h (d.2 p q)
  rw [hide_at z, upd_same]

/-! ### judgements -/
abbrev TD := Dn → (DV → Prop) → Prop
abbrev TB := Dn → (Bool → Prop) → Prop
abbrev TL := Dn → (List DV → Prop) → Prop
def up (κ : Ky) (t : TD) : TE := fun σ H Q => ∃ δ R c L, ES κ c H L δ σ ∧ t δ R ∧ ∀ v H' d, Ext H H' → Rv κ (hide (oor c.P L) H') d v → R d → Q v H'
def upT (κ : Ky) (t : TB) : TT := fun σ H Q => ∃ δ R c L, ES κ c H L δ σ ∧ t δ R ∧ ∀ b H', Ext H H' → R b → Q b H'
def upA (κ : Ky) (t : TL) : TA := fun σ H Q => ∃ δ R c L, ES κ c H L δ σ ∧ t δ R ∧ ∀ vs H' ds, Ext H H' → RvA κ (hide (oor c.P L) H') ds vs → R ds → Q vs H'
abbrev F2 := DV → DV → (DV → Prop) → Prop
abbrev F1 := DV → (DV → Prop) → Prop
abbrev FL := List DV → (DV → Prop) → Prop
/-- what an operation on values asks, by data -/
def upO (κ : Ky) (f : F2) : R2 := fun x y H Q => ∃ d e R P, Dom P H ∧ Rv κ (hide P H) d x ∧ Rv κ (hide P H) e y ∧ f d e R ∧ ∀ v H' r, Ext H H' → Rv κ (hide P H') r v → R r → Q v H'
def upU (κ : Ky) (f : F1) : V → Hp → VK → Prop := fun x H Q => ∃ d R P, Dom P H ∧ Rv κ (hide P H) d x ∧ f d R ∧ ∀ v H' r, Ext H H' → Rv κ (hide P H') r v → R r → Q v H'
def upC (κ : Ky) (f : FL) : List V → Hp → VK → Prop := fun xs H Q => ∃ ds R P, Dom P H ∧ RvA κ (hide P H) ds xs ∧ f ds R ∧ ∀ v H' r, Ext H H' → Rv κ (hide P H') r v → R r → Q v H'
def upM (κ : Ky) (f : DV → FL) : V → List V → Hp → VK → Prop := fun x xs H Q => ∃ d ds R P, Dom P H ∧ Rv κ (hide P H) d x ∧ RvA κ (hide P H) ds xs ∧ f d ds R ∧ ∀ v H' r, Ext H H' → Rv κ (hide P H') r v → R r → Q v H'
section
variable {X : Cx} {e : Expr} {t t' : TE}
theorem PE.imp (h : PE X e t') (q : ∀ σ H Q, t σ H Q → t' σ H Q) : PE X e t := ⟨fun pins s σ H Q I z => h.run pins s σ H Q I (q σ H Q z)⟩
theorem PT.imp {t t' : TT} (h : PT X e t') (q : ∀ σ H Q, t σ H Q → t' σ H Q) : PT X e t := ⟨fun pins s σ H Q I z => h.run pins s σ H Q I (q σ H Q z)⟩
theorem PW.imp {t t' : TT} (h : PW X e t') (q : ∀ σ H Q, t σ H Q → t' σ H Q) : PW X e t := ⟨fun wh pins s σ H Q I z => h.run wh pins s σ H Q I (q σ H Q z)⟩
theorem PA.imp {es : List Expr} {t t' : TA} (h : PA X es t') (q : ∀ σ H Q, t σ H Q → t' σ H Q) : PA X es t := ⟨fun pos pins s σ H Q I z => h.run pos pins s σ H Q I (q σ H Q z)⟩
theorem PSs.imp {st : List Stmt} {t t' : TS} (h : PSs X st t') (q : ∀ D σ H, t D σ H → t' D σ H) : PSs X st t := ⟨fun pins s σ H D I z => h.run pins s σ H D I (q D σ H z)⟩
theorem PS.imp {st : Stmt} {t t' : TS} (h : PS X st t') (q : ∀ D σ H, t D σ H → t' D σ H) : PS X st t := ⟨fun pins s σ H D I z => h.run pins s σ H D I (q D σ H z)⟩
theorem PI.imp {tg : Expr} {t t' : TI} (h : PI X tg e t') (q : ∀ σ H R, t σ H R → t' σ H R) : PI X tg e t := ⟨fun pins s σ H R I z => h.run pins s σ H R I (q σ H R z)⟩
end

/-! ### expressions -/
def dVar (i : Nat) : TD := fun δ R => match δ.getD i .un with
  | .v d => R d
  | _ => False
def dC (d : DV) : TD := fun _ R => R d
def dOp (f : F2) (ta tb : TD) : TD := fun δ R => ta δ fun d => tb δ fun e => f d e R
def dUn (f : F1) (ta : TD) : TD := fun δ R => ta δ fun d => f d R
def dNil : TL := fun _ R => R []
def dCons (ta : TD) (t : TL) : TL := fun δ R => ta δ fun d => t δ fun ds => R (d :: ds)
section
variable {X : Cx} {a b : Expr} {es : List Expr} {ta tb : TD} {t : TL} {pos : Pos}
theorem up_var {κ : Ky} {i : Nat} {σ : Sg} {H : Hp} {Q : VK} (h : up κ (dVar i) σ H Q) : tVar i σ H Q := by
  obtain ⟨δ, R, c, L, es, h, k⟩ := h
  unfold dVar at h
  rw [List.getD_eq_getElem?_getD] at h
  cases e : δ[i]? with
  | none => rw [e] at h; exact h.elim
  | some s =>
    rw [e] at h
    cases s with
    | un => exact h.elim
    | own ds => exact h.elim
    | od o => exact h.elim
    | v d =>
      obtain ⟨v, h1, h2⟩ := es.val i d e
      exact ⟨v, h1, k v H d (Ext.refl H) h2 h⟩
theorem dv (i : Nat) {x : Str} (hN : X.N[i]? = some x := by rfl) (hv : Vis X.env.scope x := by first | exact Or.inl rfl | exact Or.inr (Or.inl rfl) | exact Or.inr (Or.inr rfl)) (hd : (x == ("__debug__" : Str)) = false := by decide)
    (hcd : (x == ("__classdict__" : Str)) = false := by decide) : PE X (.Name x pos) (up (Cx.ky X) (dVar i)) := PE.imp (pv i hN hv hd hcd) fun _ _ _ h => up_var h
theorem up_c {κ : Ky} {d : DV} {v : V} (r : ∀ H, Rv κ H d v) {σ : Sg} {H : Hp} {Q : VK} (h : up κ (dC d) σ H Q) : tC v σ H Q := by
  obtain ⟨δ, R, c, L, es, h, k⟩ := h
  exact k v H d (Ext.refl H) (r _) h
theorem de_int {i j pos} : PE X (.Constant (.int i) j pos) (up (Cx.ky X) (dC (.p (.int i)))) := PE.imp pe_int fun _ _ _ h => up_c (d := (.p (.int i))) (v := .int i) (fun _ => rfl) h
theorem de_bl {b j pos} : PE X (.Constant (.bool b) j pos) (up (Cx.ky X) (dC (.p (.bool b)))) := PE.imp pe_bl fun _ _ _ h => up_c (d := (.p (.bool b))) (v := .bl b) (fun _ => rfl) h
theorem de_non {j pos} : PE X (.Constant .none j pos) (up (Cx.ky X) (dC (.p .none))) := PE.imp pe_non fun _ _ _ h => up_c (d := (.p .none)) (v := .non) (fun _ => rfl) h
theorem de_str {x j pos} : PE X (.Constant (.str x) j pos) (up (Cx.ky X) (dC (.p (.str x)))) := PE.imp pe_str fun _ _ _ h => up_c (d := (.p (.str x))) (v := .str x) (fun _ => rfl) h
/-- a constant of the module -/
theorem de_glob {x : Str} {d : DV} {v : V} {u : Value} {pos : Pos} (hg : Gl X x) (hm : X.mg x = some u) (r : RelV v u) (q : ∀ H, Rv (Cx.ky X) H d v) (hd : (x == ("__debug__" : Str)) = false := by decide) : PE X (.Name x pos) (up (Cx.ky X) (dC d)) :=
  PE.imp (pe_glob hg hm r hd) fun _ _ _ h => up_c q h
/-- a built-in as a value -/
theorem de_bltn {x : Str} {v : V} {u : Value} {pos : Pos} (hg : Gl X x) (hm : X.mg x = none) (hv : bootBuiltins x = some u) (r : RelV v u) (hn : x ≠ "__name__" := by decide) (hd : (x == ("__debug__" : Str)) = false := by decide) : PE X (.Name x pos) (up (Cx.ky X) (dC (.raw v))) :=
  PE.imp (pe_bltn hg hm hv r hn hd) fun _ _ _ h => up_c (d := (.raw v)) (v := v) (fun _ => rfl) h
theorem up_op {κ : Ky} {f : F2} {σ : Sg} {H : Hp} {Q : VK} (h : up κ (dOp f ta tb) σ H Q) : tOp (upO κ f) (up κ ta) (up κ tb) σ H Q := by
  obtain ⟨δ, R, c, L, es, h, k⟩ := h
  refine ⟨δ, _, c, L, es, h, fun v H1 d x1 r1 h1 => ⟨δ, _, c, L, es.on x1, h1, fun u H2 e x2 r2 h2 => ?_⟩⟩
  exact ⟨d, e, R, _, (es.on (x1.trans x2)).dom, r1.ext (x2.hide _), r2, h2, fun z H3 r x3 q1 q2 => k z H3 r (x1.trans (x2.trans x3)) q1 q2⟩
theorem de_op {op : Operator} {f : F2} (ho : OpR X (binaryOp op) (upO (Cx.ky X) f)) (ha : PE X a (up (Cx.ky X) ta)) (hb : PE X b (up (Cx.ky X) tb)) : PE X (.BinOp a op b pos) (up (Cx.ky X) (dOp f ta tb)) :=
  PE.imp (pe_op ho ha hb) fun _ _ _ h => up_op h
theorem de_cmp {op : CmpOp} {f : F2} (ho : OpR X (compareOp op) (upO (Cx.ky X) f)) (ha : PE X a (up (Cx.ky X) ta)) (hb : PE X b (up (Cx.ky X) tb)) (hm : behindInMarks op b = false := by first | exact nomark _ | rfl) : PE X (.Compare a [op] [b] pos) (up (Cx.ky X) (dOp f ta tb)) :=
  PE.imp (pe_cmpR ho ha hb hm) fun _ _ _ h => up_op h
theorem up_un {κ : Ky} {f : F1} {σ : Sg} {H : Hp} {Q : VK} (h : up κ (dUn f ta) σ H Q) : tUn (upU κ f) (up κ ta) σ H Q := by
  obtain ⟨δ, R, c, L, es, h, k⟩ := h
  refine ⟨δ, _, c, L, es, h, fun v H1 d x1 r1 h1 => ?_⟩
  exact ⟨d, R, _, (es.on x1).dom, r1, h1, fun z H3 r x3 q1 q2 => k z H3 r (x1.trans x3) q1 q2⟩
theorem de_un {op : UnaryOp} {f : F1} (ho : UnR X (unaryOp op) (upU (Cx.ky X) f)) (ha : PE X a (up (Cx.ky X) ta)) : PE X (.UnaryOp op a pos) (up (Cx.ky X) (dUn f ta)) := PE.imp (pe_un ho ha) fun _ _ _ h => up_un h
theorem da_nil : PA X [] (upA (Cx.ky X) dNil) := PA.imp pa_nil fun _ H _ ⟨δ, R, c, L, es, h, k⟩ => k [] H [] (Ext.refl _) rfl h
theorem da_cons (ha : PE X a (up (Cx.ky X) ta)) (h : PA X es (upA (Cx.ky X) t)) (hs : starEach (a :: es) X.env = (false, eval a X.env) :: starEach es X.env := by rfl) : PA X (a :: es) (upA (Cx.ky X) (dCons ta t)) := by
  refine PA.imp (pa_cons ha h hs) fun σ H Q ⟨δ, R, c, L, es, h, k⟩ => ?_
  refine ⟨δ, _, c, L, es, h, fun v H1 d x1 r1 h1 => ⟨δ, _, c, L, es.on x1, h1, fun us H2 ds x2 r2 h2 => ?_⟩⟩
  exact k _ H2 (d :: ds) (x1.trans x2) ⟨v, us, rfl, r1.ext (x2.hide _), r2⟩ h2
end
end MR

/-! Tests, calls, statements, loops, comprehensions by data. -/
namespace MR
open PySem PySem.Spec PyProof.Rows L2

/-! ### data by its kind -/
def asB (d : DV) (K : Bool → Prop) : Prop := match d with
  | .p (.bool b) => K b
  | _ => False
def asI (d : DV) (K : Int → Prop) : Prop := match d with
  | .p (.int i) => K i
  | _ => False
def asS (d : DV) (K : Str → Prop) : Prop := match d with
  | .p (.str x) => K x
  | _ => False
def asL (d : DV) (K : List PyData → Prop) : Prop := match d with
  | .p (.list x) => K x
  | _ => False
def asU (d : DV) (K : List PyData → Prop) : Prop := match d with
  | .p (.tuple x) => K x
  | _ => False
def asP (d : DV) (K : PyData → Prop) : Prop := match d with
  | .p x => K x
  | _ => False
theorem asB_of {d : DV} {K : Bool → Prop} (h : asB d K) : ∃ b, d = .p (.bool b) ∧ K b := by
  cases d with
  | p x => cases x with
    | bool b => exact ⟨b, rfl, h⟩
    | _ => exact h.elim
  | _ => exact h.elim
theorem asI_of {d : DV} {K : Int → Prop} (h : asI d K) : ∃ b, d = .p (.int b) ∧ K b := by
  cases d with
  | p x => cases x with
    | int b => exact ⟨b, rfl, h⟩
    | _ => exact h.elim
  | _ => exact h.elim
theorem asS_of {d : DV} {K : Str → Prop} (h : asS d K) : ∃ b, d = .p (.str b) ∧ K b := by
  cases d with
  | p x => cases x with
    | str b => exact ⟨b, rfl, h⟩
    | _ => exact h.elim
  | _ => exact h.elim
theorem asL_of {d : DV} {K : List PyData → Prop} (h : asL d K) : ∃ b, d = .p (.list b) ∧ K b := by
  cases d with
  | p x => cases x with
    | list b => exact ⟨b, rfl, h⟩
    | _ => exact h.elim
  | _ => exact h.elim
theorem asU_of {d : DV} {K : List PyData → Prop} (h : asU d K) : ∃ b, d = .p (.tuple b) ∧ K b := by
  cases d with
  | p x => cases x with
    | tuple b => exact ⟨b, rfl, h⟩
    | _ => exact h.elim
  | _ => exact h.elim
theorem asP_of {d : DV} {K : PyData → Prop} (h : asP d K) : ∃ b, d = .p b ∧ K b := by
  cases d with
  | p x => exact ⟨x, rfl, h⟩
  | _ => exact h.elim

/-! ### tests -/
def dB (t : TD) : TB := fun δ R => t δ fun d => asB d R
def dNotT (t : TB) : TB := fun δ R => t δ fun b => R (!b)
def dAndT (t u : TB) : TB := fun δ R => t δ fun b => if b = true then u δ R else R false
def dOrT (t u : TB) : TB := fun δ R => t δ fun b => if b = true then R true else u δ R
def dNot (t : TD) : TD := fun δ R => t δ fun d => asB d fun b => R (.p (.bool (!b)))
def dAnd (t u : TD) : TD := fun δ R => t δ fun d => asB d fun b => if b = true then u δ R else R (.p (.bool false))
def dOr (t u : TD) : TD := fun δ R => t δ fun d => asB d fun b => if b = true then R (.p (.bool true)) else u δ R
def dIf (c : TB) (t u : TD) : TD := fun δ R => c δ fun b => if b = true then t δ R else u δ R
def dChain (f f' : F2) (ta tb tc : TD) : TD := fun δ R => ta δ fun d => tb δ fun e => f d e fun z => asB z fun b => if b = true then tc δ fun g => f' e g R else R (.p (.bool false))
section
variable {X : Cx} {a b c : Expr} {rest : List Expr} {ta tb tc : TD} {u w : TB} {pos : Pos}
theorem dt_val {e : Expr} {t : TD} (h : PE X e (up (Cx.ky X) t)) (he : ∀ whole, isTrue e X.env whole = (do let v ← whole; standAt e.pos; holding [v] (truthy v)) := by intro _; rfl) : PT X e (upT (Cx.ky X) (dB t)) := by
  refine PT.imp (pt_val h he) fun σ H Q ⟨δ, R, c, L, es, h, k⟩ => ⟨δ, _, c, L, es, h, fun v H1 d x1 r1 h1 => ?_⟩
  obtain ⟨b, rfl, h2⟩ := asB_of h1
  exact ⟨b, r1, k b H1 x1 h2⟩
theorem dt_cmp {op : CmpOp} {f : F2} (ho : OpR X (compareOp op) (upO (Cx.ky X) f)) (ha : PE X a (up (Cx.ky X) ta)) (hb : PE X b (up (Cx.ky X) tb)) (hm : behindInMarks op b = false := by first | exact nomark _ | rfl) : PT X (.Compare a [op] [b] pos) (upT (Cx.ky X) (dB (dOp f ta tb))) := by
  refine PT.imp (pt_cmpR ho ha hb hm) fun σ H Q ⟨δ, R, c, L, es, h, k⟩ => ?_
  refine ⟨δ, _, c, L, es, h, fun v H1 d x1 r1 h1 => ⟨δ, _, c, L, es.on x1, h1, fun u H2 e x2 r2 h2 => ?_⟩⟩
  refine ⟨d, e, _, _, (es.on (x1.trans x2)).dom, r1.ext (x2.hide _), r2, h2, fun z H3 r x3 q1 q2 => ?_⟩
  obtain ⟨b, rfl, h3⟩ := asB_of q2
  exact ⟨b, q1, k b H3 (x1.trans (x2.trans x3)) h3⟩
theorem dt_not (ha : PT X a (upT (Cx.ky X) u)) : PT X (.UnaryOp .Not a pos) (upT (Cx.ky X) (dNotT u)) :=
  PT.imp (pt_not ha) fun σ H Q ⟨δ, R, c, L, es, h, k⟩ => ⟨δ, _, c, L, es, h, fun b H1 x1 h1 => k (!b) H1 x1 h1⟩
theorem dw_and1 (ha : PT X a (upT (Cx.ky X) u)) : PW X (.BoolOp .And [a] pos) (upT (Cx.ky X) u) := pw_and1 ha
theorem dw_or1 (ha : PT X a (upT (Cx.ky X) u)) : PW X (.BoolOp .Or [a] pos) (upT (Cx.ky X) u) := pw_or1 ha
theorem dw_and (ha : PT X a (upT (Cx.ky X) u)) (hb : PW X (.BoolOp .And (b :: rest) pos) (upT (Cx.ky X) w)) : PW X (.BoolOp .And (a :: b :: rest) pos) (upT (Cx.ky X) (dAndT u w)) := by
  refine PW.imp (pw_and ha hb) fun σ H Q ⟨δ, R, c, L, es, h, k⟩ => ⟨δ, _, c, L, es, h, fun b H1 x1 h1 => ?_⟩
  cases b with
  | true => exact ⟨δ, R, c, L, es.on x1, h1, fun b H2 x2 h2 => k b H2 (x1.trans x2) h2⟩
  | false => exact k false H1 x1 h1
theorem dw_or (ha : PT X a (upT (Cx.ky X) u)) (hb : PW X (.BoolOp .Or (b :: rest) pos) (upT (Cx.ky X) w)) : PW X (.BoolOp .Or (a :: b :: rest) pos) (upT (Cx.ky X) (dOrT u w)) := by
  refine PW.imp (pw_or ha hb) fun σ H Q ⟨δ, R, c, L, es, h, k⟩ => ⟨δ, _, c, L, es, h, fun b H1 x1 h1 => ?_⟩
  cases b with
  | false => exact ⟨δ, R, c, L, es.on x1, h1, fun b H2 x2 h2 => k b H2 (x1.trans x2) h2⟩
  | true => exact k true H1 x1 h1
theorem de_one {op} {t : TD} (h : PE X a (up (Cx.ky X) t)) : PE X (.BoolOp op [a] pos) (up (Cx.ky X) t) := pe_one h
theorem de_and (ha : PE X a (up (Cx.ky X) ta)) (hb : PE X (.BoolOp .And (b :: rest) pos) (up (Cx.ky X) tb)) : PE X (.BoolOp .And (a :: b :: rest) pos) (up (Cx.ky X) (dAnd ta tb)) := by
  refine PE.imp (pe_and ha hb) fun σ H Q ⟨δ, R, c, L, es, h, k⟩ => ⟨δ, _, c, L, es, h, fun v H1 d x1 r1 h1 => ?_⟩
  obtain ⟨b, rfl, h2⟩ := asB_of h1
  cases b with
  | true => exact ⟨true, r1, ⟨δ, R, c, L, es.on x1, h2, fun u H2 e x2 r2 h2 => k u H2 e (x1.trans x2) r2 h2⟩⟩
  | false => exact ⟨false, r1, k (.bl false) H1 (.p (.bool false)) x1 rfl h2⟩
theorem de_or (ha : PE X a (up (Cx.ky X) ta)) (hb : PE X (.BoolOp .Or (b :: rest) pos) (up (Cx.ky X) tb)) : PE X (.BoolOp .Or (a :: b :: rest) pos) (up (Cx.ky X) (dOr ta tb)) := by
  refine PE.imp (pe_or ha hb) fun σ H Q ⟨δ, R, c, L, es, h, k⟩ => ⟨δ, _, c, L, es, h, fun v H1 d x1 r1 h1 => ?_⟩
  obtain ⟨b, rfl, h2⟩ := asB_of h1
  cases b with
  | false => exact ⟨false, r1, ⟨δ, R, c, L, es.on x1, h2, fun u H2 e x2 r2 h2 => k u H2 e (x1.trans x2) r2 h2⟩⟩
  | true => exact ⟨true, r1, k (.bl true) H1 (.p (.bool true)) x1 rfl h2⟩
theorem de_not (ha : PE X a (up (Cx.ky X) ta)) : PE X (.UnaryOp .Not a pos) (up (Cx.ky X) (dNot ta)) := by
  refine PE.imp (pe_not ha) fun σ H Q ⟨δ, R, c, L, es, h, k⟩ => ⟨δ, _, c, L, es, h, fun v H1 d x1 r1 h1 => ?_⟩
  obtain ⟨b, rfl, h2⟩ := asB_of h1
  exact ⟨b, r1, k (.bl (!b)) H1 (.p (.bool (!b))) x1 rfl h2⟩
theorem de_if (hc : PT X c (upT (Cx.ky X) u)) (ha : PE X a (up (Cx.ky X) ta)) (hb : PE X b (up (Cx.ky X) tb)) : PE X (.IfExp c a b pos) (up (Cx.ky X) (dIf u ta tb)) := by
  refine PE.imp (pe_ifExp hc ha hb) fun σ H Q ⟨δ, R, c, L, es, h, k⟩ => ⟨δ, _, c, L, es, h, fun b H1 x1 h1 => ?_⟩
  cases b with
  | true => exact ⟨δ, R, c, L, es.on x1, h1, fun u H2 e x2 r2 h2 => k u H2 e (x1.trans x2) r2 h2⟩
  | false => exact ⟨δ, R, c, L, es.on x1, h1, fun u H2 e x2 r2 h2 => k u H2 e (x1.trans x2) r2 h2⟩
theorem de_chain {op op' : CmpOp} {f f' : F2} (ho : OpR X (compareOp op) (upO (Cx.ky X) f)) (ho' : OpR X (compareOp op') (upO (Cx.ky X) f')) (ha : PE X a (up (Cx.ky X) ta)) (hb : PE X b (up (Cx.ky X) tb)) (hc : PE X c (up (Cx.ky X) tc)) (hm : lastMarks [op, op'] [b, c] = false := by with_unfolding_all rfl) :
    PE X (.Compare a [op, op'] [b, c] pos) (up (Cx.ky X) (dChain f f' ta tb tc)) := by
  refine PE.imp (pe_chain ho ho' ha hb hc hm) fun σ H Q ⟨δ, R, c, L, es, h, k⟩ => ?_
  refine ⟨δ, _, c, L, es, h, fun v H1 d x1 r1 h1 => ⟨δ, _, c, L, es.on x1, h1, fun u H2 e x2 r2 h2 => ?_⟩⟩
  refine ⟨d, e, _, _, (es.on (x1.trans x2)).dom, r1.ext (x2.hide _), r2, h2, fun z H3 r x3 q1 q2 => ?_⟩
  obtain ⟨b, rfl, q3⟩ := asB_of q2
  cases b with
  | true =>
    refine ⟨true, q1, ⟨δ, _, c, L, es.on (x1.trans (x2.trans x3)), q3, fun y H4 g x4 r4 h4 => ?_⟩⟩
    exact ⟨e, g, R, _, (es.on (x1.trans (x2.trans (x3.trans x4)))).dom, r2.ext ((x3.trans x4).hide _), r4, h4, fun z' H5 r' x5 q5 q6 => k z' H5 r' (x1.trans (x2.trans (x3.trans (x4.trans x5)))) q5 q6⟩
  | false => exact ⟨false, q1, k (.bl false) H3 (.p (.bool false)) (x1.trans (x2.trans x3)) rfl q3⟩
end

/-! ### promises that hold where no text of an object is being written (repr asks that) -/
structure FnG (P : Program) (w : World) (K : PySem.W.Frag) (mg : Str → Option Value) (base : Heap) (CX : CXT) (k : Nat) (f : Addr) (fd : FuncData) (ps : List Str) (sp : Sp) : Prop where
  len : ∀ vs H Q E, sp vs H Q E → vs.length = ps.length
  go : ∀ (A : Around), A.guards = some [] → ∀ (outer : List PySem.Env) (s : Shared) (H : Hp) (args : Args) (us : List Value) (vs : List V) (Q : VK) (E : XK),
    Room k A → Env0 P w K mg base A outer s H → BindsTo s fd args (ps.zip us) → Vals vs us → sp vs H Q E → codeAny (model P w) A (.call (.ref f) args) (CR CX outer P w H s Q E) s
section
variable {P : Program} {w : World} {K : PySem.W.Frag} {mg : Str → Option Value} {base : Heap} {CX : CXT} {j k : Nat} {f : Addr} {fd : FuncData} {ps : List Str} {sp sp' : Sp}
theorem FnG.of (F : FnOk P w K mg base CX k f fd ps sp) : FnG P w K mg base CX k f fd ps sp := ⟨F.len, fun A _ => F.run A⟩
theorem FnG.mono (F : FnG P w K mg base CX j f fd ps sp) (h : j ≤ k) : FnG P w K mg base CX k f fd ps sp := ⟨F.len, fun A g o s H a us vs Q E r => F.go A g o s H a us vs Q E (r.mono h)⟩
theorem FnG.imp (F : FnG P w K mg base CX k f fd ps sp) (h : ∀ vs H Q E, sp' vs H Q E → sp vs H Q E) : FnG P w K mg base CX k f fd ps sp' :=
  ⟨fun vs H Q E q => F.len vs H Q E (h vs H Q E q), fun A g o s H a us vs Q E r e b v q => F.go A g o s H a us vs Q E r e b v (h vs H Q E q)⟩
end
section
variable {X : Cx} {CX : CXT} {k : Nat} {f : Addr} {fd : FuncData} {ps : List Str} {sp : Sp} {dvs : List V} {ds : List Value} {E : XK} {x : Str} {p pos : Pos} {e : Expr} {es : List Expr} {t : TA}
/-- such a def is called -/
theorem goes {pins : List (Addr × Obj)} {σ : Sg} {H : Hp} {s : Shared} {Q : VK} {us : List Value} {vs : List V} (F : FnG X.prog X.w X.K X.mg X.base CX k f fd ps sp) (gd : X.A.guards = some []) (room : Room k X.A) (hb : L2.Binds X.K fd ps ds) (hd : Vals dvs ds) (hx : Passes CX X E)
    (I : Inv X pins σ H s) (rel : Vals vs us) (h : sp (vs ++ dvs) H Q E) : wpAny (model X.prog X.w) X.A (call (.ref f) us) (EP X pins σ Q) X.xe s := by
  have rel' : Vals (vs ++ dvs) (us ++ ds) := rel.append hd
  have many : (us ++ ds).length = ps.length := rel'.length.symm.trans (F.len _ _ _ _ h)
  refine wpAny_call (codeAny_mono (F.go X.A gd X.stack s H ⟨us, []⟩ (us ++ ds) (vs ++ dvs) Q E room I.env0 (hb s us I.kIn many) rel' h) fun res s2 q => ?_)
  cases res with
  | error err => exact hx pins σ H s err s2 I q
  | ok fl => cases fl with
    | ret u => exact I.after q
    | next => exact q.elim
    | brk => exact q.elim
    | cont => exact q.elim
theorem pe_callG (F : FnG X.prog X.w X.K X.mg X.base CX k f fd ps sp) (gd : X.A.guards = some []) (room : Room k X.A) (hg : Gl X x) (hm : X.mg x = some (.ref f)) (hk : PySem.W.keepIn X.K (.ref f) = true) (hb : L2.Binds X.K fd ps ds) (hd : Vals dvs ds) (hx : Passes CX X E)
    (ha : PA X (e :: es) t) (hdb : (x == ("__debug__" : Str)) = false := by decide) (he : starEach (e :: es) X.env = (false, eval e X.env) :: starEach es X.env := by rfl) (hpl : (backTo pos (starEach es X.env)).any (·.1) = false := by rfl) :
    PE X (.Call (.Name x p) (e :: es) [] pos) (tCall sp dvs E t) := by
  refine ⟨fun pins s σ H Q I h => wpAny_Call_Name_kw (ld_glob I hg hm ?_ hdb)⟩
  refine PySem.W.callWith_K (h₀ := X.base) I.ok.mod.kin hk (thn (ha.run pos pins s σ H _ I h) fun us s1 ⟨vs, H1, I1, r, q⟩ => ⟨I1.kIn, ?_⟩) he hpl
  exact goes F gd room hb hd hx I1 r q
theorem pe_callG0 (F : FnG X.prog X.w X.K X.mg X.base CX k f fd ps sp) (gd : X.A.guards = some []) (room : Room k X.A) (hg : Gl X x) (hm : X.mg x = some (.ref f)) (hk : PySem.W.keepIn X.K (.ref f) = true) (hb : L2.Binds X.K fd ps ds) (hd : Vals dvs ds) (hx : Passes CX X E)
    (hdb : (x == ("__debug__" : Str)) = false := by decide) : PE X (.Call (.Name x p) [] [] pos) (tCall sp dvs E tNil) :=
  ⟨fun pins s σ H Q I h => wpAny_Call_Name_kw (ld_glob I hg hm (PySem.W.callWith_K0 I.kIn hk (goes (us := []) F gd room hb hd hx I .nil h)) hdb)⟩
end
/-- the rule for a def by its body, such a promise -/
theorem fnG_of {CX : CXT} {P : Program} {w : World} {K : PySem.W.Frag} {mg : Str → Option Value} {base : Heap} {k : Nat} {f : Addr} {fd : FuncData} {x qual : Str} {st : Stmt} {N ps : List Str} {sp : Sp} (F : Fun K x qual st f fd) (S : FnScope N ps (defScope st))
    (len : ∀ vs H Q E, sp vs H Q E → vs.length = ps.length)
    (hbody : ∀ (cdv : Value) (A : Around), A.guards = some [] → ∀ (outer : List PySem.Env) (s : Shared) (H : Hp) (vs : List V) (Q : VK) (E : XK), Room k (A.deeper (envOfC qual (defScope st) s.heap.objs.size f cdv)) → sp vs H Q E →
      ∃ t, PSs (cxOf CX P w K mg base N qual (defScope st) f cdv A outer s H E) (defBody st) t ∧ t { nx := fun _ H' => Q .non H', rt := Q } (L2.start N vs) H) : FnG P w K mg base CX (k + 1) f fd ps sp := by
  obtain ⟨oc, od, kV, doc, pm, an, cdv, ct, osl, rfl, lk, hcd⟩ := F.ex
  refine ⟨len, fun A gd outer s H args us vs Q E room e0 bnd rel hsp => ?_⟩
  have many := len _ _ _ _ hsp
  have inK : K.In s.heap := e0.mod.kin.keeps fun b o q => (e0.bs b o q).1
  have limit : s.heap.NoLimit := e0.mod.nolimit.keeps fun b o q => (e0.bs b o q).1
  have kinds : ∀ y ∈ ps.zip us, (defScope st).names.lookup y.1 = some .local ∨ ((defScope st).names.lookup y.1 = some .cell ∧ ((cellsFrom (s.heap.objs.size + 1) (defScope st).names []).lookup y.1).isSome = true) := fun ⟨n, v⟩ hy =>
    (S.par n (List.of_mem_zip hy).1).imp id fun q => ⟨q, PySem.W.cellsFrom_some _ _ _ (.inl q)⟩
  refine codeAny_call_function room.depth (inK _ _ lk) rfl S.co S.gen rfl (PySem.W.codeRec_of inK hcd) (bnd _ _ _ _ ?_)
  refine wpAny_newFunctionEnv_cells S.kind kinds fun env henv s1 made => ?_
  subst henv
  refine ⟨limit.keeps made.toInCall.keep, codeAny_func ?_⟩
  obtain ⟨t, ht, hq⟩ := hbody cdv A gd outer s H vs Q E (room.deeper _) hsp
  have inv0 : Inv (cxOf CX P w K mg base N qual (defScope st) f cdv A outer s H E) [] (L2.start N vs) H s1 := inv_start S room.hd e0 many rel made
  refine wpAny_mono (ht.run [] s1 (L2.start N vs) H _ inv0 hq) (fun fl s2 hs => ?_) fun _ _ hs => hs
  have ends : ∀ {σ2 : Sg} {H2 : Hp} {v : V} {u : Value}, Inv (cxOf CX P w K mg base N qual (defScope st) f cdv A outer s H E) [] σ2 H2 s2 → RelV v u → Q v H2 → CE outer P w H s Q u s2 :=
    fun {σ2 H2 v u} J rv q => ⟨v, H2, J.os, J.bare, J.base, J.hok, rv, q⟩
  cases fl with
  | ret u =>
    obtain ⟨v, σ2, H2, J, rv, q⟩ := hs
    exact ends J rv q
  | next =>
    obtain ⟨σ2, H2, J, q⟩ := hs
    exact ends (v := V.non) (u := Value.none) J rfl q
  | brk => exact (show False from let ⟨_, _, _, q⟩ := hs; q).elim
  | cont => exact (show False from let ⟨_, _, _, q⟩ := hs; q).elim

/-! ### calls -/
def dCall (f : FL) (t : TL) : TD := fun δ R => t δ fun ds => f ds R
def spD (κ : Ky) (f : FL) : Sp := fun vs H Q _ => upC κ f vs H Q
section
variable {X : Cx} {e : Expr} {es : List Expr} {t : TL} {pos p : Pos} {x : Str}
theorem up_call {κ : Ky} {f : FL} {σ : Sg} {H : Hp} {Q : VK} (h : up κ (dCall f t) σ H Q) : upA κ t σ H fun vs H1 => upC κ f vs H1 Q := by
  obtain ⟨δ, R, c, L, es, h, k⟩ := h
  exact ⟨δ, _, c, L, es, h, fun vs H1 ds x1 r1 h1 => ⟨ds, R, _, (es.on x1).dom, r1, h1, fun v H2 r x2 q1 q2 => k v H2 r (x1.trans x2) q1 q2⟩⟩
theorem de_call {k : Nat} {f : Addr} {fd : FuncData} {ps : List Str} {g : FL} {CX : CXT} {E : XK} (F : FnG X.prog X.w X.K X.mg X.base CX k f fd ps (spD (Cx.ky X) g)) (gd : X.A.guards = some []) (hr : Room k X.A) (hg : Gl X x) (hm : X.mg x = some (.ref f)) (hk : PySem.W.keepIn X.K (.ref f) = true)
    (hb : Binds X.K fd ps []) (hx : Passes CX X E) (ha : PA X (e :: es) (upA (Cx.ky X) t)) (hdb : (x == ("__debug__" : Str)) = false := by decide) (he : starEach (e :: es) X.env = (false, eval e X.env) :: starEach es X.env := by rfl)
    (hpl : (backTo pos (starEach es X.env)).any (·.1) = false := by rfl) : PE X (.Call (.Name x p) (e :: es) [] pos) (up (Cx.ky X) (dCall g t)) := by
  refine PE.imp (pe_callG F gd hr hg hm hk hb .nil hx ha hdb he hpl) fun σ H Q h => ?_
  have q := up_call h
  obtain ⟨δ, R, c, L, es, h1, k1⟩ := q
  refine ⟨δ, R, c, L, es, h1, fun vs H1 ds x1 r1 q1 => ?_⟩
  have q2 := k1 vs H1 ds x1 r1 q1
  show spD (Cx.ky X) g (vs ++ []) H1 Q E
  rw [List.append_nil]
  exact q2
theorem de_callB {id : String} {g : FL} (hc : CallR X (.builtin id) (upC (Cx.ky X) g)) (hg : Gl X x) (hm : X.mg x = none) (hv : bootBuiltins x = some (.builtin id)) (ha : PA X (e :: es) (upA (Cx.ky X) t)) (hn : x ≠ "__name__" := by decide) (hdb : (x == ("__debug__" : Str)) = false := by decide)
    (he : starEach (e :: es) X.env = (false, eval e X.env) :: starEach es X.env := by rfl) (hpl : (backTo pos (starEach es X.env)).any (·.1) = false := by rfl) : PE X (.Call (.Name x p) (e :: es) [] pos) (up (Cx.ky X) (dCall g t)) :=
  PE.imp (pe_callB hc hg hm hv ha hn hdb he hpl) fun _ _ _ h => up_call h
theorem de_callTy {id : String} {g : FL} (hc : CallR X (.type id) (upC (Cx.ky X) g)) (hg : Gl X x) (hm : X.mg x = none) (hv : bootBuiltins x = some (.type id)) (ha : PA X (e :: es) (upA (Cx.ky X) t)) (hn : x ≠ "__name__" := by decide) (hdb : (x == ("__debug__" : Str)) = false := by decide)
    (he : starEach (e :: es) X.env = (false, eval e X.env) :: starEach es X.env := by rfl) (hpl : (backTo pos (starEach es X.env)).any (·.1) = false := by rfl) : PE X (.Call (.Name x p) (e :: es) [] pos) (up (Cx.ky X) (dCall g t)) :=
  PE.imp (pe_callTy hc hg hm hv ha hn hdb he hpl) fun _ _ _ h => up_call h
end

/-! ### statements -/
structure DE where
  nx : Dn → Prop
  rt : DV → Prop
  bk : Dn → Prop := fun _ => False
  ct : Dn → Prop := fun _ => False
  ro : OD → Prop := fun _ => False
abbrev TDS := DE → Dn → Prop
/-- what reaches the ends of the data's reading reaches the program's -/
structure Fin (κ : Ky) (c : Sc) (E : DE) (D : Ends) : Prop where
  nx : ∀ δ σ H L, ES κ c H L δ σ → E.nx δ → D.nx σ H
  rt : ∀ v H d, ExtM c.M c.H0 H → Rv κ (hide c.P H) d v → E.rt d → D.rt v H
  bk : ∀ δ σ H L, ES κ c H L δ σ → E.bk δ → D.bk σ H
  ct : ∀ δ σ H L, ES κ c H L δ σ → E.ct δ → D.ct σ H
  ro : ∀ o δ σ H L, ES κ c H L δ σ → (∃ i : Nat, δ[i]? = some (Sl.od o)) → E.ro o → D.rt (.ref o.at_) H
def upS (κ : Ky) (t : TDS) : TS := fun D σ H => ∃ δ E c L, ES κ c H L δ σ ∧ t E δ ∧ Fin κ c E D
def dSeq (t u : TDS) : TDS := fun E δ => t { E with nx := u E } δ
def dNext : TDS := fun E δ => E.nx δ
def dBreak : TDS := fun E δ => E.bk δ
def dCont : TDS := fun E δ => E.ct δ
def dDrop (t : TD) : TDS := fun E δ => t δ fun _ => E.nx δ
def dRet (t : TD) : TDS := fun E δ => t δ E.rt
def dRetN : TDS := fun E _ => E.rt (.p .none)
def dIfS (c : TB) (t u : TDS) : TDS := fun E δ => c δ fun b => if b = true then t E δ else u E δ
def dSet (i : Nat) (t : TD) : TDS := fun E δ => t δ fun d => E.nx (δ.set i (.v d))
theorem oor_off (P : Addr → Bool) : oor P (fun _ => false) = P := funext fun a => by unfold oor; rw [Bool.or_false]
theorem out_of {P L : Addr → Bool} {H : Hp} {κ : Ky} {d : DV} {v : V} (h : Rv κ (hide (oor P L) H) d v) : Rv κ (hide P H) d v := h.ext (hide_less H fun a z => by unfold oor; rw [z]; rfl)
section
variable {κ : Ky} {c : Sc} {H : Hp} {L : Addr → Bool} {δ : Dn} {σ : Sg}
theorem od_set {δ : Dn} {i j : Nat} {s : Sl} {o : OD} (ns : ∀ o, s ≠ .od o) (h : (δ.set i s)[j]? = some (Sl.od o)) : j ≠ i ∧ δ[j]? = some (Sl.od o) := by
  by_cases hj : j = i
  · subst hj
    have hl : j < δ.length := by
      have := (List.getElem?_eq_some_iff.mp h).1
      rw [List.length_set] at this
      exact this
    rw [List.getElem?_set_self hl] at h
    exact absurd (Option.some.inj h) (ns o)
  · rw [List.getElem?_set_ne (Ne.symm hj)] at h
    exact ⟨hj, h⟩
theorem OdAt.set {Hh : Hp} {s : Sl} (h : OdAt κ Hh H L δ σ) (i : Nat) (x : Option V) (ns : ∀ o, s ≠ .od o) : OdAt κ Hh H L (δ.set i s) (σ.set i x) :=
  h.mono (fun j o e => ⟨(od_set ns e).2, List.getElem?_set_ne (Ne.symm (od_set ns e).1)⟩) (fun _ _ l h _ => ⟨l, h⟩) (Ext.refl _)
theorem ES.set (s : ES κ c H L δ σ) {i : Nat} {d : DV} {v : V} (r : Rv κ (hide (oor c.P L) H) d v) : ES κ c H L (δ.set i (.v d)) (σ.set i (some v)) where
  len := by rw [List.length_set, List.length_set]; exact s.len
  val := fun j e h => by
    by_cases hj : j = i
    · subst hj
      have hl : j < δ.length := by
        have := (List.getElem?_eq_some_iff.mp h).1
        rw [List.length_set] at this
        exact this
      rw [List.getElem?_set_self hl] at h
      cases h
      exact ⟨v, List.getElem?_set_self (by rw [← s.len]; exact hl), r⟩
    · rw [List.getElem?_set_ne (Ne.symm hj)] at h
      rw [List.getElem?_set_ne (Ne.symm hj)]
      exact s.val j e h
  own := fun j e h => by
    by_cases hj : j = i
    · subst hj
      have hl : j < δ.length := by
        have := (List.getElem?_eq_some_iff.mp h).1
        rw [List.length_set] at this
        exact this
      rw [List.getElem?_set_self hl] at h
      cases h
    · rw [List.getElem?_set_ne (Ne.symm hj)] at h
      rw [List.getElem?_set_ne (Ne.symm hj)]
      exact s.own j e h
  sep := fun j k ds es a n h1 h2 => by
    have nj : ∀ {j : Nat} {ds : List PyData}, (δ.set i (.v d))[j]? = some (Sl.own ds) → j ≠ i := fun {j ds} h hj => by
      subst hj
      have hl : j < δ.length := by
        have := (List.getElem?_eq_some_iff.mp h).1
        rw [List.length_set] at this
        exact this
      rw [List.getElem?_set_self hl] at h
      cases h
    have n1 := nj h1
    have n2 := nj h2
    rw [List.getElem?_set_ne (Ne.symm n1)] at h1
    rw [List.getElem?_set_ne (Ne.symm n2)] at h2
    rw [List.getElem?_set_ne (Ne.symm n1), List.getElem?_set_ne (Ne.symm n2)]
    exact s.sep j k ds es a n h1 h2
  psys := s.psys
  pdom := s.pdom
  ldom := s.ldom
  ext := s.ext
  kept := s.kept
  ods := s.ods.set i _ (fun _ z => by cases z)
  mp := s.mp
theorem ES.wipe1 (s : ES κ c H L δ σ) (i : Nat) (o : Option V) : ES κ c H L (δ.set i .un) (σ.set i o) where
  len := by rw [List.length_set, List.length_set]; exact s.len
  val := fun j e h => by
    by_cases hj : j = i
    · subst hj
      have hl : j < δ.length := by
        have := (List.getElem?_eq_some_iff.mp h).1
        rw [List.length_set] at this
        exact this
      rw [List.getElem?_set_self hl] at h
      cases h
    · rw [List.getElem?_set_ne (Ne.symm hj)] at h
      rw [List.getElem?_set_ne (Ne.symm hj)]
      exact s.val j e h
  own := fun j e h => by
    by_cases hj : j = i
    · subst hj
      have hl : j < δ.length := by
        have := (List.getElem?_eq_some_iff.mp h).1
        rw [List.length_set] at this
        exact this
      rw [List.getElem?_set_self hl] at h
      cases h
    · rw [List.getElem?_set_ne (Ne.symm hj)] at h
      rw [List.getElem?_set_ne (Ne.symm hj)]
      exact s.own j e h
  sep := fun j k ds es a n h1 h2 => by
    have nj : ∀ {j : Nat} {ds : List PyData}, (δ.set i Sl.un)[j]? = some (Sl.own ds) → j ≠ i := fun {j ds} h hj => by
      subst hj
      have hl : j < δ.length := by
        have := (List.getElem?_eq_some_iff.mp h).1
        rw [List.length_set] at this
        exact this
      rw [List.getElem?_set_self hl] at h
      cases h
    have n1 := nj h1
    have n2 := nj h2
    rw [List.getElem?_set_ne (Ne.symm n1)] at h1
    rw [List.getElem?_set_ne (Ne.symm n2)] at h2
    rw [List.getElem?_set_ne (Ne.symm n1), List.getElem?_set_ne (Ne.symm n2)]
    exact s.sep j k ds es a n h1 h2
  psys := s.psys
  pdom := s.pdom
  ldom := s.ldom
  ext := s.ext
  kept := s.kept
  ods := s.ods.set i _ (fun _ z => by cases z)
  mp := s.mp
end
section
variable {X : Cx} {st : Stmt} {rest : List Stmt} {t u : TDS} {e : Expr} {te : TD} {pos : Pos}
theorem dss_nil : PSs X [] (upS (Cx.ky X) dNext) := PSs.imp pss_nil fun D σ H ⟨δ, E, c, L, es, h, f⟩ => f.nx δ σ H L es h
theorem dss_cons (h1 : PS X st (upS (Cx.ky X) t)) (h2 : PSs X rest (upS (Cx.ky X) u)) : PSs X (st :: rest) (upS (Cx.ky X) (dSeq t u)) :=
  PSs.imp (pss_cons h1 h2) fun D σ H ⟨δ, E, c, L, es, h, f⟩ => ⟨δ, _, c, L, es, h, ⟨fun δ' σ' H' L' es' h' => ⟨δ', E, c, L', es', h', f⟩, f.rt, f.bk, f.ct, f.ro⟩⟩
theorem dss_one (h1 : PS X st (upS (Cx.ky X) t)) : PSs X [st] (upS (Cx.ky X) t) := pss_one h1
theorem ds_pass : PS X (.Pass pos) (upS (Cx.ky X) dNext) := PS.imp ps_pass fun D σ H ⟨δ, E, c, L, es, h, f⟩ => f.nx δ σ H L es h
theorem ds_break : PS X (.Break pos) (upS (Cx.ky X) dBreak) := PS.imp ps_break fun D σ H ⟨δ, E, c, L, es, h, f⟩ => f.bk δ σ H L es h
theorem ds_continue : PS X (.Continue pos) (upS (Cx.ky X) dCont) := PS.imp ps_continue fun D σ H ⟨δ, E, c, L, es, h, f⟩ => f.ct δ σ H L es h
theorem ds_expr (he : PE X e (up (Cx.ky X) te)) (hs : swapsWith e none pos.line X.env = pure false := by rfl) : PS X (.Expr e pos) (upS (Cx.ky X) (dDrop te)) :=
  PS.imp (ps_expr he hs) fun D σ H ⟨δ, E, c, L, es, h, f⟩ => ⟨δ, _, c, L, es, h, fun v H1 d x1 r1 h1 => f.nx δ σ H1 L (es.on x1) h1⟩
theorem ds_ret (he : PE X e (up (Cx.ky X) te)) : PS X (.Return (some e) pos) (upS (Cx.ky X) (dRet te)) :=
  PS.imp (ps_ret he) fun D σ H ⟨δ, E, c, L, es, h, f⟩ => ⟨δ, _, c, L, es, h, fun v H1 d x1 r1 h1 => f.rt v H1 d (es.ext.trans x1) (out_of r1) h1⟩
theorem ds_retN : PS X (.Return none pos) (upS (Cx.ky X) dRetN) :=
  PS.imp ps_retN fun D σ H ⟨δ, E, c, L, es, h, f⟩ => f.rt .non H (.p .none) es.ext rfl h
theorem ds_if {c : Expr} {a b : List Stmt} {tc : TB} (hc : PT X c (upT (Cx.ky X) tc)) (ha : PSs X a (upS (Cx.ky X) t)) (hb : PSs X b (upS (Cx.ky X) u)) : PS X (.If c a b pos) (upS (Cx.ky X) (dIfS tc t u)) := by
  refine PS.imp (ps_if hc ha hb) fun D σ H ⟨δ, E, c, L, es, h, f⟩ => ⟨δ, _, c, L, es, h, fun b H1 x1 h1 => ?_⟩
  cases b with
  | true => exact ⟨δ, E, c, L, es.on x1, h1, f⟩
  | false => exact ⟨δ, E, c, L, es.on x1, h1, f⟩
theorem ds_set {i : Nat} {x : Str} {pos' : Pos} (hN : X.N.Nodup) (hi : X.N[i]? = some x) (hx : Loc X.env.scope x) (he : PE X e (up (Cx.ky X) te)) (hs : swapsWith e (some (.Name x pos')) pos.line X.env = pure false := by rfl) (hf : X.fn x = true ∨ X.env.scope.names.lookup x = some .local := by first | exact .inl rfl | exact .inr rfl | assumption) :
    PS X (.Assign [.Name x pos'] e pos) (upS (Cx.ky X) (dSet i te)) :=
  PS.imp (ps_set hN hi hx he hs hf) fun D σ H ⟨δ, E, c, L, es, h, f⟩ => ⟨δ, _, c, L, es, h, fun v H1 d x1 r1 h1 => f.nx _ _ H1 L ((es.on x1).set r1) h1⟩
end

/-! ### a def -/
def startD (N : List Str) (ds : List DV) : Dn := ds.map .v ++ List.replicate (N.length - ds.length) .un
theorem RvA.get {κ : Ky} {H : Hp} : ∀ {ds : List DV} {vs : List V} {i : Nat} {d : DV}, RvA κ H ds vs → ds[i]? = some d → ∃ v, vs[i]? = some v ∧ Rv κ H d v
  | [], _, _, _, _, e => by cases e
  | _ :: _, _, 0, _, ⟨v, r, q, h, t⟩, e => by
    cases e
    exact ⟨v, by rw [q]; rfl, h⟩
  | _ :: _, _, i + 1, _, ⟨v, r, q, h, t⟩, e => by
    obtain ⟨u, e1, e2⟩ := RvA.get (i := i) t e
    exact ⟨u, by rw [q]; exact e1, e2⟩
theorem es_start {κ : Ky} {N : List Str} {H : Hp} {P : Addr → Bool} {ds : List DV} {vs : List V} (d : Dom P H) (r : RvA κ (hide P H) ds vs) : ES κ ⟨H, P, [], [], fun _ => false⟩ H (fun _ => false) (startD N ds) (L2.start N vs) := by
  have hl := r.len
  have noOwn : ∀ (i : Nat) (es : List PyData), (startD N ds)[i]? ≠ some (Sl.own es) := fun i es h => by
    unfold startD at h
    by_cases hi : i < ds.length
    · rw [List.getElem?_append_left (by rw [List.length_map]; exact hi), List.getElem?_map, List.getElem?_eq_getElem hi] at h
      cases h
    · rw [List.getElem?_append_right (by rw [List.length_map]; omega), List.getElem?_replicate] at h
      split at h <;> cases h
  have noOd : ∀ (i : Nat) (o : OD), (startD N ds)[i]? ≠ some (Sl.od o) := fun i o h => by
    unfold startD at h
    by_cases hi : i < ds.length
    · rw [List.getElem?_append_left (by rw [List.length_map]; exact hi), List.getElem?_map, List.getElem?_eq_getElem hi] at h
      cases h
    · rw [List.getElem?_append_right (by rw [List.length_map]; omega), List.getElem?_replicate] at h
      split at h <;> cases h
  refine ⟨?_, fun i x h => ?_, fun i es h => absurd h (noOwn i es), fun i _ es _ _ _ h => absurd h (noOwn i es), d.1, d.2, fun _ h => Bool.noConfusion h, ExtM.refl _ H, rfl, ⟨fun i o h => absurd h (noOd i o), fun i _ o _ _ h => absurd h (noOd i o)⟩, fun _ h => Bool.noConfusion h⟩
  · unfold startD L2.start
    rw [List.length_append, List.length_append, List.length_map, List.length_map, List.length_replicate, List.length_replicate, hl]
  · unfold startD at h
    by_cases hi : i < ds.length
    · rw [List.getElem?_append_left (by rw [List.length_map]; exact hi), List.getElem?_map, List.getElem?_eq_getElem hi] at h
      cases h
      obtain ⟨v, e1, e2⟩ := r.get (List.getElem?_eq_getElem hi)
      refine ⟨v, ?_, ?_⟩
      · unfold L2.start
        rw [List.getElem?_append_left (by rw [List.length_map, ← hl]; exact hi), List.getElem?_map, e1]
        rfl
      · show Rv κ (hide (oor P fun _ => false) H) _ v
        rw [oor_off]
        exact e2
    · rw [List.getElem?_append_right (by rw [List.length_map]; omega), List.getElem?_replicate] at h
      split at h <;> cases h
section
variable {P : Program} {w : World} {K : PySem.W.Frag} {mg : Str → Option Value} {base : Heap}
/-- THE RULE for a def whose arguments and answer are data -/
theorem okD {x qual : Str} {st : Stmt} {f : Addr} {fd : FuncData} {N ps : List Str} {k : Nat} {g : FL} {t : TDS} (F : Fun K x qual st f fd) (S : FnScope N ps (defScope st)) (len : ∀ ds R, g ds R → ds.length = ps.length)
    (hb : ∀ (cdv : Value) (A : Around), A.guards = some [] → ∀ (outer : List PySem.Env) (s : Shared) (H : Hp) (E : XK), Room k (A.deeper (envOfC qual (defScope st) s.heap.objs.size f cdv)) → PSs (cxOf CX0 P w K mg base N qual (defScope st) f cdv A outer s H E).nox (defBody st) (upS ⟨K, P, w⟩ t))
    (hr : ∀ ds R, g ds R → t { nx := fun _ => R (.p .none), rt := R } (startD N ds)) : FnG P w K mg base CX0 (k + 1) f fd ps (spD ⟨K, P, w⟩ g) := by
  refine fnG_of F S (fun vs H Q E ⟨ds, R, P, d, r, h, q⟩ => by rw [← r.len]; exact len ds R h) fun cdv A gd outer s H vs Q E room ⟨ds, R, P', d, r, h, q⟩ => ?_
  refine ⟨_, (hb cdv A gd outer s H E room).nox, startD N ds, _, ⟨H, P', [], [], fun _ => false⟩, _, es_start d r, hr ds R h, ⟨fun δ σ H' L es h' => ?_, fun v H' d' x r' h' => ?_, fun _ _ _ _ _ z => z.elim, fun _ _ _ _ _ z => z.elim, fun _ _ _ _ _ _ _ z => z.elim⟩⟩
  · exact q .non H' (.p .none) (es.ext.ext fun _ => rfl) rfl h'
  · exact q v H' d' (x.ext fun _ => rfl) r' h'
end
end MR

/-! What is walked, targets, for, comprehensions by data. -/
namespace MR
open PySem PySem.Spec PyProof.Rows L2

/-! ### what is walked -/
abbrev TDI := Dn → (List PyData → Prop) → Prop
/-- J walks the data ds, as long as what us hold reads as bs -/
structure ItK (κ : Ky) (J : It) (ds : List PyData) (bs : List DV) (us : List V) : Prop where
  go : ∀ H P' i, Dom P' H → RvA κ (hide P' H) bs us → i < ds.length → J.go i H
  stop : ∀ H P' i, Dom P' H → RvA κ (hide P' H) bs us → ds.length ≤ i → J.stop i H
  yld : ∀ H P' i x H2, Dom P' H → RvA κ (hide P' H) bs us → i < ds.length → J.yld i H x H2 → ∃ y, ds[i]? = some y ∧ Ext H H2 ∧ Rp κ.K (hide P' H2) y x
def upI (κ : Ky) (t : TDI) : TI := fun σ H R => ∃ δ R' c L, ES κ c H L δ σ ∧ t δ R' ∧ ∀ J H' ds bs us, Ext H H' → RvA κ (hide (oor c.P L) H') bs us → ItK κ J ds bs us → R' ds → R J H'
theorem rp_up {K : PySem.W.Frag} {P : Addr → Bool} {H : Hp} {d : PyData} {v : V} (h : Rp K (hide P H) d v) : Rp K H d v := h.ext (hide_ext P H)
theorem itk_list {κ : Ky} {a : Addr} {ds : List PyData} : ItK κ (Itl κ.K a) ds [.p (.list ds)] [.ref a] where
  go := fun H P' i _ r hi => by
    obtain ⟨v, r', e, ⟨a', xs, ev, hq, ha⟩, _⟩ := r
    cases e
    cases ev
    obtain ⟨x, e1, _⟩ := ha.get (List.getElem?_eq_getElem hi)
    exact ⟨xs, x, SqL.of ((hide_ext P' H).lst hq).at_, e1⟩
  stop := fun H P' i _ r hi => by
    obtain ⟨v, r', e, ⟨a', xs, ev, hq, ha⟩, _⟩ := r
    cases e
    cases ev
    exact ⟨xs, SqL.of ((hide_ext P' H).lst hq).at_, by rw [← ha.len]; exact hi⟩
  yld := fun H P' i x H2 _ r hi hy => by
    obtain ⟨v, r', e, ⟨a', xs, ev, hq, ha⟩, _⟩ := r
    cases e
    cases ev
    obtain ⟨rfl, f⟩ := hy
    obtain ⟨y, e1, e2⟩ := ha.back (f xs (SqL.of ((hide_ext P' H2).lst hq).at_))
    exact ⟨y, e1, Ext.refl _, e2⟩
theorem itk_tup {κ : Ky} {a : Addr} {ds : List PyData} : ItK κ (Itt κ.K a) ds [.p (.tuple ds)] [.ref a] where
  go := fun H P' i _ r hi => by
    obtain ⟨v, r', e, ⟨a', xs, ev, hq, ha⟩, _⟩ := r
    cases e
    cases ev
    obtain ⟨x, e1, _⟩ := ha.get (List.getElem?_eq_getElem hi)
    exact ⟨xs, x, (hide_ext P' H).seqT hq, e1⟩
  stop := fun H P' i _ r hi => by
    obtain ⟨v, r', e, ⟨a', xs, ev, hq, ha⟩, _⟩ := r
    cases e
    cases ev
    exact ⟨xs, (hide_ext P' H).seqT hq, by rw [← ha.len]; exact hi⟩
  yld := fun H P' i x H2 _ r hi hy => by
    obtain ⟨v, r', e, ⟨a', xs, ev, hq, ha⟩, _⟩ := r
    cases e
    cases ev
    obtain ⟨rfl, f⟩ := hy
    obtain ⟨y, e1, e2⟩ := ha.back (f xs ((hide_ext P' H2).seqT hq))
    exact ⟨y, e1, Ext.refl _, e2⟩
/-- lo, lo + 1, .. -/
def rngD (lo : Int) (n : Nat) : List PyData := (List.range n).map fun (k : Nat) => .int (lo + (k : Int))
theorem itk_rng {κ : Ky} {lo : Int} {n : Nat} : ItK κ (Itr lo n) (rngD lo n) [] [] where
  go := fun H P' i _ r hi => by
    unfold rngD at hi
    rw [List.length_map, List.length_range] at hi
    exact hi
  stop := fun H P' i _ r hi => by
    unfold rngD at hi
    rw [List.length_map, List.length_range] at hi
    exact hi
  yld := fun H P' i x H2 _ r hi hy => by
    obtain ⟨rfl, rfl⟩ := hy
    unfold rngD at hi ⊢
    rw [List.length_map, List.length_range] at hi
    exact ⟨.int (lo + i), by rw [List.getElem?_map, List.getElem?_range hi]; rfl, Ext.refl _, rfl⟩
/-- a text's signs, each a text -/
def signsD (x : Str) : List PyData := x.cps.toList.map fun c => .str ⟨#[c]⟩
theorem itk_str {κ : Ky} {x : Str} : ItK κ (Its x) (signsD x) [] [] where
  go := fun H P' i _ r hi => by
    unfold signsD at hi
    rw [List.length_map, Array.length_toList] at hi
    exact hi
  stop := fun H P' i _ r hi => by
    unfold signsD at hi
    rw [List.length_map, Array.length_toList] at hi
    exact hi
  yld := fun H P' i y H2 _ r hi hy => by
    obtain ⟨rfl, c, hc, rfl⟩ := hy
    unfold signsD
    exact ⟨.str ⟨#[c]⟩, by rw [List.getElem?_map, Array.getElem?_toList, hc]; rfl, Ext.refl _, rfl⟩
def dItL (te : TD) : TDI := fun δ R => te δ fun d => asL d R
def dItU (te : TD) : TDI := fun δ R => te δ fun d => asU d R
def dItS (te : TD) : TDI := fun δ R => te δ fun d => asS d fun x => R (signsD x)
def dItR1 (ta : TL) : TDI := fun δ R => ta δ fun ds => ∃ j : Int, ds = [.p (.int j)] ∧ -(2 ^ 62) ≤ j ∧ j < 2 ^ 62 ∧ R (rngD 0 j.toNat)
def dItR2 (ta : TL) : TDI := fun δ R => ta δ fun ds => ∃ i j : Int, ds = [.p (.int i), .p (.int j)] ∧ (-(2 ^ 62) ≤ i ∧ i < 2 ^ 62 ∧ -(2 ^ 62) ≤ j ∧ j < 2 ^ 62) ∧ R (rngD i (j - i).toNat)
theorem rvA1 {κ : Ky} {H : Hp} {d : PyData} {vs : List V} (h : RvA κ H [.p d] vs) : ∃ v, vs = [v] ∧ Rp κ.K H d v := by
  obtain ⟨v, r, e, q, t⟩ := h
  have t' : r = [] := t
  subst t'
  exact ⟨v, e, q⟩
theorem rvA2 {κ : Ky} {H : Hp} {d e : PyData} {vs : List V} (h : RvA κ H [.p d, .p e] vs) : ∃ v u, vs = [v, u] ∧ Rp κ.K H d v ∧ Rp κ.K H e u := by
  obtain ⟨v, r, e1, q, t⟩ := h
  obtain ⟨u, e2, q2⟩ := rvA1 t
  subst e2
  exact ⟨v, u, e1, q, q2⟩
section
variable {X : Cx} {tg e : Expr} {te : TD}
theorem di_list (he : PE X e (up (Cx.ky X) te)) : PI X tg e (upI (Cx.ky X) (dItL te)) := by
  refine PI.imp (pi_list he) fun σ H R ⟨δ, R', c, L, es, h, k⟩ => ⟨δ, _, c, L, es, h, fun v H1 d x1 r1 h1 => ?_⟩
  obtain ⟨ds, rfl, h2⟩ := asL_of h1
  obtain ⟨a, xs, e, q, ra⟩ := id r1
  subst e
  exact ⟨a, rfl, ⟨xs, SqL.of ((hide_ext _ _).lst q).at_⟩, k _ H1 ds [.p (.list ds)] [.ref a] x1 ⟨_, [], rfl, r1, rfl⟩ itk_list h2⟩
theorem di_tup (he : PE X e (up (Cx.ky X) te)) : PI X tg e (upI (Cx.ky X) (dItU te)) := by
  refine PI.imp (pi_tup he) fun σ H R ⟨δ, R', c, L, es, h, k⟩ => ⟨δ, _, c, L, es, h, fun v H1 d x1 r1 h1 => ?_⟩
  obtain ⟨ds, rfl, h2⟩ := asU_of h1
  obtain ⟨a, xs, e, q, ra⟩ := id r1
  subst e
  exact ⟨a, rfl, ⟨xs, (hide_ext _ _).seqT q⟩, k _ H1 ds [.p (.tuple ds)] [.ref a] x1 ⟨_, [], rfl, r1, rfl⟩ itk_tup h2⟩
theorem di_str (he : PE X e (up (Cx.ky X) te)) : PI X tg e (upI (Cx.ky X) (dItS te)) := by
  refine PI.imp (pi_str he) fun σ H R ⟨δ, R', c, L, es, h, k⟩ => ⟨δ, _, c, L, es, h, fun v H1 d x1 r1 h1 => ?_⟩
  obtain ⟨x, rfl, h2⟩ := asS_of h1
  exact ⟨x, r1, k _ H1 (signsD x) [] [] x1 rfl itk_str h2⟩
theorem di_rng1 {a : Expr} {ta : TL} {p pos : Pos} (hg : Gl X "range") (hm : X.mg "range" = none) (ha : PA X [a] (upA (Cx.ky X) ta)) (hs : starEach [a] X.env = [(false, eval a X.env)] := by rfl) : PI X tg (.Call (.Name "range" p) [a] [] pos) (upI (Cx.ky X) (dItR1 ta)) := by
  refine PI.imp (pi_range1 hg hm ha hs) fun σ H R ⟨δ, R', c, L, es, h, k⟩ => ⟨δ, _, c, L, es, h, fun vs H1 ds x1 r1 h1 => ?_⟩
  obtain ⟨j, rfl, b1, b2, h2⟩ := h1
  obtain ⟨v, rfl, rv⟩ := rvA1 r1
  exact ⟨j, by rw [show v = .int j from rv], b1, b2, k _ H1 (rngD 0 j.toNat) [] [] x1 rfl itk_rng h2⟩
theorem di_rng2 {a b : Expr} {ta : TL} {p pos : Pos} (hg : Gl X "range") (hm : X.mg "range" = none) (ha : PA X [a, b] (upA (Cx.ky X) ta)) (hs : starEach [a, b] X.env = [(false, eval a X.env), (false, eval b X.env)] := by rfl) (hs2 : starEach [b] X.env = [(false, eval b X.env)] := by rfl) :
    PI X tg (.Call (.Name "range" p) [a, b] [] pos) (upI (Cx.ky X) (dItR2 ta)) := by
  refine PI.imp (pi_range2 hg hm ha hs hs2) fun σ H R ⟨δ, R', c, L, es, h, k⟩ => ⟨δ, _, c, L, es, h, fun vs H1 ds x1 r1 h1 => ?_⟩
  obtain ⟨i, j, rfl, b1, h2⟩ := h1
  obtain ⟨v, u, rfl, rv, ru⟩ := rvA2 r1
  exact ⟨i, j, by rw [show v = .int i from rv, show u = .int j from ru], b1, k _ H1 (rngD i (j - i).toNat) [] [] x1 rfl itk_rng h2⟩
end

/-! ### targets -/
abbrev TDG := DV → Dn → (Dn → Prop) → Prop
abbrev TDGs := List PyData → Dn → (Dn → Prop) → Prop
def upG (κ : Ky) (vs : List Nat) (g : TDG) : TG := fun v σ H Q => ∃ d δ N c L, ES κ c H L δ σ ∧ Rv κ (hide (oor c.P L) H) d v ∧ g d δ N ∧ ∀ δ' σ', ES κ c H L δ' σ' → wipe σ' vs = wipe σ vs → N δ' → Q σ' H
def upGs (κ : Ky) (vs : List Nat) (g : TDGs) : TGs := fun us σ H Q => ∃ ds δ N c L, ES κ c H L δ σ ∧ RpA κ.K (hide (oor c.P L) H) ds us ∧ g ds δ N ∧ ∀ δ' σ', ES κ c H L δ' σ' → wipe σ' vs = wipe σ vs → N δ' → Q σ' H
def gdName (i : Nat) : TDG := fun d δ N => N (δ.set i (.v d))
def gdNil : TDGs := fun ds δ N => ds = [] ∧ N δ
def gdCons (g : TDG) (u : TDGs) : TDGs := fun ds δ N => ∃ d r, ds = d :: r ∧ g (.p d) δ fun δ' => u r δ' N
def gdTup (n : Nat) (u : TDGs) : TDG := fun d δ N => asU d fun ds => ds.length = n ∧ u ds δ N
theorem wipe_in {σ : Sg} {o : Option V} {i : Nat} : ∀ {vs : List Nat}, i ∈ vs → wipe (σ.set i o) vs = wipe σ vs
  | [], h => by cases h
  | v :: vs, h => by
    unfold wipe
    by_cases hi : i ∈ vs
    · rw [wipe_in hi]
    · have e : i = v := (List.mem_cons.mp h).resolve_right hi
      subst e
      apply List.ext_getElem?
      intro j
      by_cases hj : j = i
      · subst hj
        by_cases hl : j < σ.length
        · rw [List.getElem?_set_self (by rw [wipe_length, List.length_set]; exact hl), List.getElem?_set_self (by rw [wipe_length]; exact hl)]
        · rw [List.getElem?_eq_none (by rw [List.length_set, wipe_length, List.length_set]; omega), List.getElem?_eq_none (by rw [List.length_set, wipe_length]; omega)]
      · rw [List.getElem?_set_ne (Ne.symm hj), List.getElem?_set_ne (Ne.symm hj)]
        by_cases hm : j ∈ vs
        · have none_at : ∀ (τ : Sg) (ws : List Nat), j ∈ ws → (wipe τ ws)[j]? = (τ[j]?).map fun _ => Option.none := by
            intro τ ws
            induction ws with
            | nil => intro z; cases z
            | cons w ws ih =>
              intro z
              unfold wipe
              by_cases hw : j = w
              · subst hw
                by_cases hl : j < τ.length
                · rw [List.getElem?_set_self (by rw [wipe_length]; exact hl), List.getElem?_eq_getElem hl]
                  rfl
                · rw [List.getElem?_eq_none (by rw [List.length_set, wipe_length]; omega), List.getElem?_eq_none (by omega)]
                  rfl
              · rw [List.getElem?_set_ne (Ne.symm hw)]
                exact ih ((List.mem_cons.mp z).resolve_left hw)
          rw [none_at _ _ hm, none_at _ _ hm, List.getElem?_set_ne (Ne.symm hj)]
        · rw [wipe_out hm, wipe_out hm, List.getElem?_set_ne (Ne.symm hj)]
section
variable {X : Cx} {pos : Pos} {vs : List Nat}
theorem dg_name {i : Nat} {x : Str} (hv : i ∈ vs) (hN : X.N.Nodup) (hi : X.N[i]? = some x) (hx : Loc X.env.scope x) (hf : X.fn x = true ∨ X.env.scope.names.lookup x = some .local := by first | exact .inl rfl | exact .inr rfl | assumption) : PG X (.Name x pos) (upG (Cx.ky X) vs (gdName i)) :=
  ⟨fun pins s σ H v u Q I r ⟨d, δ, N, c, L, es, rv, h, k⟩ => (pg_name hN hi hx hf).run pins s σ H v u Q I r (k _ _ (es.set rv) (wipe_in hv) h)⟩
theorem dgs_nil : PGs X [] (upGs (Cx.ky X) vs gdNil) :=
  ⟨fun pins s σ H us ws Q I r ⟨ds, δ, N, c, L, es, rv, ⟨e, h⟩, k⟩ => pgs_nil.run pins s σ H us ws Q I r ⟨by subst e; exact rv, k δ σ es rfl h⟩⟩
theorem dgs_cons {e : Expr} {es : List Expr} {g : TDG} {u : TDGs} (h1 : PG X e (upG (Cx.ky X) vs g)) (h2 : PGs X es (upGs (Cx.ky X) vs u))
    (hs : (assignEach (e :: es) X.env).map (·.2) = assign e X.env :: (assignEach es X.env).map (·.2) := by rfl) : PGs X (e :: es) (upGs (Cx.ky X) vs (gdCons g u)) := by
  refine ⟨fun pins s σ H us ws Q I r ⟨ds, δ, N, c, L, es, rv, ⟨d, q, e, h⟩, k⟩ => (pgs_cons h1 h2 hs).run pins s σ H us ws Q I r ?_⟩
  subst e
  obtain ⟨v, vr, e1, rd, rq⟩ := rv
  exact ⟨v, vr, e1, ⟨.p d, δ, _, c, L, es, rd, h, fun δ' σ' es' ew h' => ⟨q, δ', N, c, L, es', rq, h', fun δ2 σ2 es2 ew2 h2 => k δ2 σ2 es2 (ew2.trans ew) h2⟩⟩⟩
theorem dg_tup {es : List Expr} {k : Nat} {u : TDGs} {n : Nat} (hc : X.calm = true) (h : PGs X es (upGs (Cx.ky X) vs u))
    (hn : (assignEach es X.env).length = n := by rfl) (hst : (assignEach es X.env).findIdx? (·.1) = none := by rfl) : PG X (.Tuple es k pos) (upG (Cx.ky X) vs (gdTup n u)) := by
  refine ⟨fun pins s σ H v w Q I r ⟨d, δ, N, c, L, es, rv, h1, k1⟩ => (pg_tup hc h hn hst).run pins s σ H v w Q I r ?_⟩
  obtain ⟨ds, rfl, hl, h2⟩ := asU_of h1
  obtain ⟨a, xs, e, q, ra⟩ := rv
  exact ⟨a, xs, e, (hide_ext _ _).seqT q, by rw [← ra.len]; exact hl, ⟨ds, δ, N, c, L, es, ra, h2, k1⟩⟩
def dAsg (t : TD) (g : TDG) : TDS := fun E δ => t δ fun d => g d δ E.nx
theorem ds_asg {tg e : Expr} {te : TD} {g : TDG} (he : PE X e (up (Cx.ky X) te)) (hg : PG X tg (upG (Cx.ky X) vs g)) (hs : swapsWithSole [tg] e pos.line X.env = pure false := by rfl) (hw : swappedStores [tg] e X.env = pure none := by rfl)
    (h1 : (assignEach [tg] X.env).map (·.2) = [assign tg X.env] := by rfl) : PS X (.Assign [tg] e pos) (upS (Cx.ky X) (dAsg te g)) :=
  PS.imp (ps_asg he hg hs hw h1) fun D σ H ⟨δ, E, c, L, es, h, f⟩ => ⟨δ, _, c, L, es, h, fun v H1 d x1 r1 h1 => ⟨d, δ, _, c, L, es.on x1, r1, h1, fun δ' σ' es' _ h' => f.nx δ' σ' H1 L es' h'⟩⟩
end

/-! ### for -/
def forL (E : DE) (g : TDG) (tb : TDS) : List PyData → Dn → Prop
  | [], δ => E.nx δ
  | d :: r, δ => g (.p d) δ fun δ' => tb { E with nx := forL E g tb r, ct := forL E g tb r, bk := E.nx } δ'
def dFor (ti : TDI) (g : TDG) (tb : TDS) : TDS := fun E δ => ti δ fun ds => forL E g tb ds δ
theorem ES.more {κ : Ky} {c : Sc} {H : Hp} {L : Addr → Bool} {δ : Dn} {σ : Sg} {bs : List DV} {us : List V} (s : ES κ c H L δ σ) (r : RvA κ (hide (oor c.P L) H) bs us) : ES κ { c with bs := bs ++ c.bs, us := us ++ c.us } H L δ σ :=
  ⟨s.len, s.val, s.own, s.sep, s.psys, s.pdom, s.ldom, s.ext, RvA.app r s.kept, s.ods, s.mp⟩
theorem ES.less {κ : Ky} {c : Sc} {H : Hp} {L : Addr → Bool} {δ : Dn} {σ : Sg} {bs : List DV} {us : List V} (hl : bs.length = us.length) (s : ES κ { c with bs := bs ++ c.bs, us := us ++ c.us } H L δ σ) : ES κ c H L δ σ ∧ RvA κ (hide (oor c.P L) H) bs us :=
  have q := RvA.split hl s.kept
  ⟨⟨s.len, s.val, s.own, s.sep, s.psys, s.pdom, s.ldom, s.ext, q.2, s.ods, s.mp⟩, q.1⟩
section
variable {X : Cx} {pos : Pos} {vs : List Nat}
theorem ds_for {tg iter : Expr} {body : List Stmt} {ti : TDI} {g : TDG} {tb : TDS} (hp : PassesOwn (model X.prog X.w) X.A X.env X.xe) (hc : X.calm = true) (hi : PI X tg iter (upI (Cx.ky X) ti)) (hg : PG X tg (upG (Cx.ky X) vs g)) (hb : PSs X body (upS (Cx.ky X) tb))
    (hs : ∀ x, foldedSetIterable iter X.env x = pure x := by intro _; rfl) : PS X (.For tg iter body [] pos) (upS (Cx.ky X) (dFor ti g tb)) := by
  refine PS.imp (ps_for hp hc hi hg hb hs) fun D σ H ⟨δ, E, c, L, es, h, f⟩ => ⟨δ, _, c, L, es, h, fun J H1 ds bs us x1 kb itk h1 => ?_⟩
  have hl := kb.len
  refine ⟨fun i m σ' H' => i + m = ds.length ∧ ∃ δ' L', ES (Cx.ky X) { c with bs := bs ++ c.bs, us := us ++ c.us } H' L' δ' σ' ∧ forL E g tb (ds.drop i) δ', ⟨ds.length, by omega, δ, L, (es.on x1).more kb, h1⟩, fun i m σ' H' ⟨em, δ', L', es', h'⟩ => ?_⟩
  obtain ⟨es2, kb2⟩ := es'.less hl
  by_cases hi' : i < ds.length
  · rw [List.drop_eq_getElem_cons hi'] at h'
    refine .inr ⟨itk.go H' _ i es2.dom kb2 hi', fun σ2 H2 => ∃ δ2 L2, ES (Cx.ky X) { c with bs := bs ++ c.bs, us := us ++ c.us } H2 L2 δ2 σ2 ∧ forL E g tb (ds.drop (i + 1)) δ2, fun σ2 H2 ⟨δ2, L2, e2, q2⟩ => ⟨m - 1, by omega, by omega, δ2, L2, e2, q2⟩, fun x H2 hy => ?_⟩
    obtain ⟨y, ey, x2, ry⟩ := itk.yld H' _ i x H2 es2.dom kb2 hi' hy
    rw [List.getElem?_eq_getElem hi'] at ey
    cases ey
    refine ⟨.p ds[i], δ', _, _, L', es'.on x2, ry, h', fun δ3 σ3 es3 _ h3 => ⟨δ3, _, _, L', es3, h3, ⟨fun δ4 σ4 H4 L4 e4 q4 => ⟨δ4, L4, e4, q4⟩, fun v H4 d x4 r4 q4 => f.rt v H4 d x4 r4 q4, fun δ4 σ4 H4 L4 e4 q4 => f.nx δ4 σ4 H4 L4 (e4.less hl).1 q4, fun δ4 σ4 H4 L4 e4 q4 => ⟨δ4, L4, e4, q4⟩, fun o δ4 σ4 H4 L4 e4 i4 q4 => f.ro o δ4 σ4 H4 L4 (e4.less hl).1 i4 q4⟩⟩⟩
  · rw [List.drop_eq_nil_of_le (by omega)] at h'
    exact .inl ⟨itk.stop H' _ i es2.dom kb2 (by omega), f.nx δ' σ' H' L' es2 h'⟩
end

/-! ### comprehensions -/
def wipeD (δ : Dn) : List Nat → Dn
  | [] => δ
  | v :: vs => (wipeD δ vs).set v .un
theorem ES.wipe {κ : Ky} {c : Sc} {H : Hp} {L : Addr → Bool} {δ : Dn} {σ : Sg} (s : ES κ c H L δ σ) : ∀ vs : List Nat, ES κ c H L (wipeD δ vs) (L2.wipe σ vs)
  | [] => s
  | v :: vs => (ES.wipe s vs).wipe1 v none
def dYes : TB := fun _ R => R true
def lcL (g : TDG) (tt : TB) (te : TD) (δ : Dn) (fin : List PyData → Prop) : List PyData → List PyData → Prop
  | [], acc => fin acc
  | d :: r, acc => g (.p d) δ fun δ2 => tt δ2 fun b => if b = true then te δ2 fun y => asP y fun z => nP (acc ++ [z]) = true ∧ lcL g tt te δ fin r (acc ++ [z]) else lcL g tt te δ fin r acc
def dLc (ti : TDI) (g : TDG) (tt : TB) (te : TD) (vs : List Nat) : TD := fun δ R => ti δ fun ds => ds.length ≤ sizeLine ∧ lcL g tt te (wipeD δ vs) (fun acc => R (.p (.list acc))) ds []
def plus (L : Addr → Bool) (D : Addr) : Addr → Bool := fun b => L b || decide (b = D)
theorem plus_of {L : Addr → Bool} {D a : Addr} (h : L a = true) : plus L D a = true := by unfold plus; rw [h]; rfl
theorem plus_at {L : Addr → Bool} {D : Addr} : plus L D D = true := by unfold plus; rw [decide_eq_true rfl, Bool.or_true]
theorem plus_ne {L : Addr → Bool} {D a : Addr} (h : a ≠ D) : plus L D a = L a := by unfold plus; rw [decide_eq_false h, Bool.or_false]
theorem oor_plus {P L : Addr → Bool} {D : Addr} : oor P (plus L D) D = true := by unfold oor; rw [plus_at, Bool.or_true]
theorem oor_ne {P L : Addr → Bool} {D a : Addr} (h : a ≠ D) : oor P (plus L D) a = oor P L a := by unfold oor; rw [plus_ne h]
theorem hide_same {P : Addr → Bool} {H : Hp} {a : Addr} {o : HO} (h : P a = true) : hide P (upd H a o) = hide P H := funext fun b => by
  unfold hide
  by_cases hb : b = a
  · rw [hb, h]
    rfl
  · split
    · rfl
    · rw [upd_ne hb]
theorem up_lc {κ : Ky} {ti : TDI} {g : TDG} {tt : TB} {te : TD} {vs : List Nat} {σ : Sg} {H : Hp} {Q : VK} (h : up κ (dLc ti g tt te vs) σ H Q) : tLc (upI κ ti) (upG κ vs g) (upT κ tt) (up κ te) vs σ H Q := by
  obtain ⟨δ, R, c, L, es, h, k⟩ := h
  refine ⟨δ, _, c, L, es, h, fun J H1 ds bs us x1 kb itk ⟨hz, h1⟩ D nD => ?_⟩
  have hl := kb.len
  have LD : L D = false := by
    cases q : L D with
    | false => rfl
    | true => exact absurd nD ((es.on x1).ldom D q).1
  have HD : H D = none := x1.none nD
  have H0D : c.H0 D = none := es.ext.none HD
  have PD : c.P D = false := by
    cases q : c.P D with
    | false => rfl
    | true => exact absurd H0D (es.pdom D q)
  -- the private lists, the new one besides
  have hsub : ∀ a, oor c.P L a = true → oor c.P (plus L D) a = true := fun a q => by
    unfold oor at q ⊢
    rw [Bool.or_eq_true] at q ⊢
    rcases q with q | q
    · exact .inl q
    · exact .inr (plus_of q)
  have xD : Ext (hide (oor c.P L) H1) (hide (oor c.P (plus L D)) (upd H1 D (.lst []))) := fun a o e => by
    unfold hide at e ⊢
    split at e
    · cases e
    · rename_i n
      have ne : a ≠ D := ne_of_none e nD
      rw [oor_ne ne, if_neg n, upd_ne ne]
      exact .inl e
  have ownD : ∀ (i : Nat) (xs : List PyData) (a : Addr), δ[i]? = some (Sl.own xs) → σ[i]? = some (some (V.ref a)) → a ≠ D := fun i xs a e1 e2 e3 => by
    obtain ⟨b, ys, q1, q2, q3, _⟩ := es.own i xs e1
    rw [e2] at q1
    cases q1
    rw [e3] at q2
    rw [q2] at LD
    cases LD
  have fresh : ∀ {Hc : Hp} {o : HO}, (∃ ys, Hc D = some (.lst ys)) → ES κ { c with bs := bs ++ c.bs, us := us ++ c.us } Hc (plus L D) δ σ → ES κ { c with bs := bs ++ c.bs, us := us ++ c.us } (upd Hc D o) (plus L D) δ σ := fun {Hc o} ⟨ys, hD⟩ s => by
    have eD : oor c.P (plus L D) D = true := oor_plus
    have eh : hide (oor c.P (plus L D)) (upd Hc D o) = hide (oor c.P (plus L D)) Hc := hide_same eD
    refine ⟨s.len, fun i d e => ?_, fun i xs e => ?_, s.sep, s.psys, s.pdom, fun a e => ⟨?_, (s.ldom a e).2⟩, fun a o' e => ?_, ?_, ?_, s.mp⟩
    · show ∃ v, _ ∧ Rv κ (hide (oor c.P (plus L D)) (upd Hc D o)) d v
      rw [eh]
      exact s.val i d e
    · obtain ⟨a, ys, q1, q2, q3, q4⟩ := s.own i xs e
      refine ⟨a, ys, q1, q2, ⟨by rw [upd_ne (ownD i xs a e q1)]; exact q3.at_, q3.np⟩, ?_⟩
      show RpA κ.K (hide (oor c.P (plus L D)) (upd Hc D o)) xs ys
      rw [eh]
      exact q4
    · by_cases ha : a = D
      · rw [ha, upd_same]
        exact Option.some_ne_none _
      · rw [upd_ne ha]
        exact (s.ldom a e).1
    · rw [upd_ne (ne_of_none e H0D)]
      exact s.ext a o' e
    · show RvA κ (hide (oor c.P (plus L D)) (upd Hc D o)) _ _
      rw [eh]
      exact s.kept
    · refine s.ods.mono (fun _ _ e => ⟨e, rfl⟩) (fun b u l h k => ⟨l, ?_⟩) ?_
      · rw [upd_ne (fun z => by rw [z, hD] at h; cases h; exact k)]
        exact h
      · show Ext _ (hide (oor c.P (plus L D)) (upd Hc D o))
        rw [eh]
        exact Ext.refl _
  have s0 : ES κ { c with bs := bs ++ c.bs, us := us ++ c.us } (upd H1 D (.lst [])) (plus L D) δ σ := by
    have s := (es.on x1).more kb
    refine ⟨s.len, fun i d e => ?_, fun i xs e => ?_, s.sep, s.psys, s.pdom, fun a e => ?_, s.ext.trans (Ext.new nD), s.kept.ext xD, s.ods.mono (fun _ _ e => ⟨e, rfl⟩) (fun b u l h _ => ⟨plus_of l, by rw [upd_ne (fun z => by rw [z] at l; rw [LD] at l; cases l)]; exact h⟩) xD, s.mp⟩
    · obtain ⟨v, q1, q2⟩ := s.val i d e
      exact ⟨v, q1, q2.ext xD⟩
    · obtain ⟨a, ys, q1, q2, q3, q4⟩ := s.own i xs e
      exact ⟨a, ys, q1, plus_of q2, ⟨by rw [upd_ne (ownD i xs a e q1)]; exact q3.at_, q3.np⟩, q4.ext xD⟩
    · by_cases ha : a = D
      · rw [ha, upd_same]
        exact ⟨Option.some_ne_none _, .inl H0D⟩
      · rw [plus_ne ha] at e
        rw [upd_ne ha]
        exact s.ldom a e
  refine ⟨fun i m Hc => i + m = ds.length ∧ ∃ accD acc, ES κ { c with bs := bs ++ c.bs, us := us ++ c.us } Hc (plus L D) δ σ ∧ Ext H Hc ∧ LstAt Hc D acc ∧ RpA κ.K (hide (oor c.P (plus L D)) Hc) accD acc ∧ accD.length ≤ i ∧ lcL g tt te (wipeD δ vs) (fun acc => R (.p (.list acc))) (ds.drop i) accD,
    ⟨ds.length, by omega, [], [], s0, x1.trans (Ext.new nD), ⟨upd_same, fun _ _ z => by cases z⟩, rfl, Nat.le_refl 0, h1⟩, fun i m Hc ⟨em, accD, acc, s, xc, eD, ra, hlen, hh⟩ => ?_⟩
  obtain ⟨s2, kb2⟩ := s.less hl
  by_cases hi : i < ds.length
  · rw [List.drop_eq_getElem_cons hi] at hh
    refine .inr ⟨itk.go Hc _ i s2.dom kb2 hi, fun H' => ∃ accD acc, ES κ { c with bs := bs ++ c.bs, us := us ++ c.us } H' (plus L D) δ σ ∧ Ext H H' ∧ LstAt H' D acc ∧ RpA κ.K (hide (oor c.P (plus L D)) H') accD acc ∧ accD.length ≤ i + 1 ∧ lcL g tt te (wipeD δ vs) (fun acc => R (.p (.list acc))) (ds.drop (i + 1)) accD,
      fun H' ⟨accD, acc, a1, a2, a3, a4, a5, a6⟩ => ⟨m - 1, by omega, by omega, accD, acc, a1, a2, a3, a4, a5, a6⟩, fun x H2 hy => ?_⟩
    obtain ⟨y, ey, x2, ry⟩ := itk.yld Hc _ i x H2 s2.dom kb2 hi hy
    rw [List.getElem?_eq_getElem hi] at ey
    cases ey
    refine ⟨.p ds[i], wipeD δ vs, _, _, _, (s.on x2).wipe vs, ry, hh, fun δ3 σ3 s3 ew h3 => ⟨?_, ⟨δ3, _, _, _, s3, h3, fun b H3 x3 h4 => ?_⟩⟩⟩
    · rw [ew]
      apply List.ext_getElem?
      intro j
      have two : ∀ (ws : List Nat) (τ : Sg), (∀ v ∈ ws, v ∈ vs) → L2.wipe (L2.wipe τ vs) ws = L2.wipe τ vs := by
        intro ws
        induction ws with
        | nil => intro τ _; rfl
        | cons w ws ih =>
          intro τ hw
          show (L2.wipe (L2.wipe τ vs) ws).set w none = L2.wipe τ vs
          rw [ih τ fun v hv => hw v (List.mem_cons_of_mem _ hv)]
          have hwv := hw w List.mem_cons_self
          apply List.ext_getElem?
          intro j
          by_cases hj : j = w
          · subst hj
            by_cases hlt : j < τ.length
            · rw [List.getElem?_set_self (by rw [wipe_length]; exact hlt), List.getElem?_eq_getElem (by rw [wipe_length]; exact hlt)]
              cases e : (L2.wipe τ vs)[j]'(by rw [wipe_length]; exact hlt) with
              | none => rfl
              | some v =>
                have q := wipe_some (σ := τ) (vs := vs) (i := j) (x := v) (by rw [List.getElem?_eq_getElem (by rw [wipe_length]; exact hlt), e])
                exact absurd hwv q.2
            · rw [List.getElem?_eq_none (by rw [List.length_set, wipe_length]; omega), List.getElem?_eq_none (by rw [wipe_length]; omega)]
          · rw [List.getElem?_set_ne (Ne.symm hj)]
      rw [two vs σ fun _ h => h]
    · have done : ∀ {H' : Hp}, Ext H2 H' → lcL g tt te (wipeD δ vs) (fun acc => R (.p (.list acc))) (ds.drop (i + 1)) accD → ∃ accD acc, ES κ { c with bs := bs ++ c.bs, us := us ++ c.us } H' (plus L D) δ σ ∧ Ext H H' ∧ LstAt H' D acc ∧ RpA κ.K (hide (oor c.P (plus L D)) H') accD acc ∧ accD.length ≤ i + 1 ∧ lcL g tt te (wipeD δ vs) (fun acc => R (.p (.list acc))) (ds.drop (i + 1)) accD :=
        fun {H'} x h => ⟨accD, acc, s.on (x2.trans x), xc.trans (x2.trans x), (x2.trans x).lst eD, ra.ext ((x2.trans x).hide _), Nat.le_succ_of_le hlen, h⟩
      cases b with
      | false => exact done x3 h4
      | true =>
        show up κ te σ3 H3 _
        refine ⟨δ3, _, _, _, s3.on x3, h4, fun v H4 d x4 r4 h5 => ?_⟩
        obtain ⟨z, rfl, hnp, h6⟩ := asP_of h5
        have xx := x2.trans (x3.trans x4)
        have rr : RpA κ.K (hide (oor c.P (plus L D)) H4) (accD ++ [z]) (acc ++ [v]) := RpA.app (ra.ext (xx.hide _)) ⟨v, [], rfl, r4, rfl⟩
        refine ⟨acc, (xx.lst eD).at_, by rw [← ra.len]; omega, accD ++ [z], acc ++ [v], fresh ⟨_, (xx.lst eD).at_⟩ (s.on xx), fun a o e => ?_, ⟨upd_same, noP_of rr hnp⟩, ?_, by rw [List.length_append, List.length_singleton]; omega, h6⟩
        · have ne : a ≠ D := ne_of_none e HD
          rw [upd_ne ne]
          exact (xc.trans xx) a o e
        · rw [hide_same oor_plus]
          exact RpA.app (ra.ext (xx.hide _)) ⟨v, [], rfl, r4, rfl⟩
  · rw [List.drop_eq_nil_of_le (by omega)] at hh
    refine .inl ⟨itk.stop Hc _ i s2.dom kb2 (by omega), k (.ref D) Hc (.p (.list accD)) xc ⟨D, acc, rfl, ?_, ra.ext (hide_less Hc hsub)⟩ hh⟩
    exact ⟨by rw [hide_at (by unfold oor; rw [PD, LD]; rfl)]; exact eD.at_, eD.np⟩
section
variable {X : Cx} {elt tg iter : Expr} {ifs : List Expr} {scope : Scope} {own : List (Str × Nat)} {pos : Pos} {ti : TDI} {g : TDG} {tt : TB} {te : TD}
theorem dts_nil : PTs X [] (upT (Cx.ky X) dYes) := ⟨fun pins s σ H Q I ⟨δ, R, c, L, es, h, k⟩ => pts_nil.run pins s σ H Q I (k true H (Ext.refl H) h)⟩
theorem dts_one {c : Expr} {t : TB} (h : PT X c (upT (Cx.ky X) t)) : PTs X [c] (upT (Cx.ky X) t) := pts_one h
theorem de_lc (hc : X.calm = true) (hN : X.N.Nodup) (hi : PI X tg iter (upI (Cx.ky X) ti)) (ok : BlkOk X.N X.env.scope scope own)
    (hg : ∀ (s : Shared) (H : Hp) (C : Addr) (cl : List (Str × Addr)) (fp : List Addr), PG (X.blk s H scope (compEnvC scope cl C X.env) fp) tg (upG (Cx.ky X) (own.map (·.2)) g)) (ht : ∀ (s : Shared) (H : Hp) (C : Addr) (cl : List (Str × Addr)) (fp : List Addr), PTs (X.blk s H scope (compEnvC scope cl C X.env) fp) ifs (upT (Cx.ky X) tt))
    (he : ∀ (s : Shared) (H : Hp) (C : Addr) (cl : List (Str × Addr)) (fp : List Addr), PE (X.blk s H scope (compEnvC scope cl C X.env) fp) elt (up (Cx.ky X) te)) (hs : ∀ x, foldedSetIterable iter X.env x = pure x := by intro _; rfl) :
    PE X (.ListComp elt [⟨tg, iter, ifs, 0⟩] scope pos) (up (Cx.ky X) (dLc ti g tt te (own.map (·.2)))) := PE.imp (pe_lc hc hN hi ok hg ht he hs) fun _ _ _ h => up_lc h
theorem ds_setLc {i : Nat} {y : Str} {py spos : Pos} (hc : X.calm = true) (hN : X.N.Nodup) (hy : X.N[i]? = some y) (hyl : X.env.scope.names.lookup y = some .local)
    (hsw : swapsWith (.ListComp elt [⟨tg, iter, ifs, 0⟩] scope pos) (some (.Name y py)) spos.line X.env = pure true) (hi : PI X tg iter (upI (Cx.ky X) ti)) (ok : BlkOk X.N X.env.scope scope own)
    (hg : ∀ (s : Shared) (H : Hp) (C : Addr) (cl : List (Str × Addr)) (fp : List Addr), PG (X.blk s H scope (compEnvC scope cl C X.env) fp) tg (upG (Cx.ky X) (own.map (·.2)) g)) (ht : ∀ (s : Shared) (H : Hp) (C : Addr) (cl : List (Str × Addr)) (fp : List Addr), PTs (X.blk s H scope (compEnvC scope cl C X.env) fp) ifs (upT (Cx.ky X) tt))
    (he : ∀ (s : Shared) (H : Hp) (C : Addr) (cl : List (Str × Addr)) (fp : List Addr), PE (X.blk s H scope (compEnvC scope cl C X.env) fp) elt (up (Cx.ky X) te)) (hs : ∀ x, foldedSetIterable iter X.env x = pure x := by intro _; rfl) :
    PS X (.Assign [.Name y py] (.ListComp elt [⟨tg, iter, ifs, 0⟩] scope pos) spos) (upS (Cx.ky X) (dSet i (dLc ti g tt te (own.map (·.2))))) := by
  refine PS.imp (ps_setLc hc hN hy hyl hsw hi ok hg ht he hs) fun D σ H ⟨δ, E, c, L, es, h, f⟩ => ?_
  exact up_lc ⟨δ, _, c, L, es, h, fun v H1 d x1 r1 h1 => f.nx _ _ H1 L ((es.on x1).set r1) h1⟩
end
end MR

/-! Operations, built-ins, subscripts, displays by data. -/
namespace MR
open PySem PySem.Spec PyProof.Rows L2

/-- a new object -/
theorem fresh_at {P : Addr → Bool} {H : Hp} {p : Addr} {o : HO} (d : Dom P H) (h : H p = none) : hide P (upd H p o) p = some o := hide_new d h
theorem new_lst {κ : Ky} {P : Addr → Bool} {H : Hp} {p : Addr} {ds : List PyData} {xs : List V} (d : Dom P H) (h : H p = none) (r : RpA κ.K (hide P H) ds xs) (np : nP ds = true) : Rv κ (hide P (upd H p (.lst xs))) (.p (.list ds)) (.ref p) :=
  ⟨p, xs, rfl, ⟨fresh_at d h, noP_of r np⟩, r.ext ((Ext.new h).hide P)⟩
theorem new_tup {κ : Ky} {P : Addr → Bool} {H : Hp} {p : Addr} {ds : List PyData} {xs : List V} (d : Dom P H) (h : H p = none) (r : RpA κ.K (hide P H) ds xs) : Rv κ (hide P (upd H p (.tup xs))) (.p (.tuple ds)) (.ref p) :=
  ⟨p, xs, rfl, SqT.of (fresh_at d h), r.ext ((Ext.new h).hide P)⟩

/-! ### + -/
def fAdd : F2 := fun d e R => match d, e with
  | .p (.int i), .p (.int j) => R (.p (.int (i + j)))
  | .p (.str x), .p (.str y) => x.length + y.length ≤ sizeLine ∧ R (.p (.str (x ++ y)))
  | .p (.list xs), .p (.list ys) => xs.length + ys.length ≤ sizeLine ∧ nP (xs ++ ys) = true ∧ R (.p (.list (xs ++ ys)))
  | .p (.tuple xs), .p (.tuple ys) => xs.length + ys.length ≤ sizeLine ∧ R (.p (.tuple (xs ++ ys)))
  | _, _ => False
inductive AddK (R : DV → Prop) : DV → DV → Prop
  | int (i j : Int) (h : R (.p (.int (i + j)))) : AddK R (.p (.int i)) (.p (.int j))
  | str (x y : Str) (z : x.length + y.length ≤ sizeLine) (h : R (.p (.str (x ++ y)))) : AddK R (.p (.str x)) (.p (.str y))
  | lst (x y : List PyData) (z : x.length + y.length ≤ sizeLine) (np : nP (x ++ y) = true) (h : R (.p (.list (x ++ y)))) : AddK R (.p (.list x)) (.p (.list y))
  | tup (x y : List PyData) (z : x.length + y.length ≤ sizeLine) (h : R (.p (.tuple (x ++ y)))) : AddK R (.p (.tuple x)) (.p (.tuple y))
theorem addK {d e : DV} {R : DV → Prop} (h : fAdd d e R) : AddK R d e := by
  cases d with
  | p x => cases e with
    | p y => cases x <;> cases y <;> first
        | exact h.elim
        | exact .int _ _ h
        | exact .str _ _ h.1 h.2
        | exact .lst _ _ h.1 h.2.1 h.2.2
        | exact .tup _ _ h.1 h.2
    | _ => cases x <;> exact h.elim
  | _ => exact h.elim
section
variable {X : Cx}
theorem od_add : OpR X (binaryOp .Add) (upO (Cx.ky X) fAdd) := by
  intro pins s σ H x y v u Q I rx ry ⟨d, e, R, P, dm, r1, r2, h, k⟩
  cases addK h with
  | int i j hh => exact op_add pins s σ H x y v u Q I rx ry ⟨i, j, r1, r2, k _ H (.p (.int (i + j))) (Ext.refl H) rfl hh⟩
  | str a b z hh => exact op_add_str pins s σ H x y v u Q I rx ry ⟨a, b, r1, r2, z, k _ H (.p (.str (a ++ b))) (Ext.refl H) rfl hh⟩
  | lst a b z np hh =>
    obtain ⟨p, xs, rfl, e1, q1⟩ := r1
    obtain ⟨q, ys, rfl, e2, q2⟩ := r2
    exact op_cat pins s σ H _ _ v u Q I rx ry ⟨p, q, xs, ys, rfl, rfl, ((hide_ext P H).lst e1).at_, ((hide_ext P H).lst e2).at_, by rw [← q1.len, ← q2.len]; exact z, fun n hn => k _ _ (.p (.list (a ++ b))) (Ext.new hn) (new_lst dm hn (q1.app q2) np) hh⟩
  | tup a b z hh =>
    obtain ⟨p, xs, rfl, e1, q1⟩ := id r1
    obtain ⟨q, ys, rfl, e2, q2⟩ := id r2
    refine op_catA pins s σ H _ _ v u Q I rx ry ⟨p, q, xs, ys, rfl, rfl, (hide_ext P H).seqT e1, (hide_ext P H).seqT e2, by rw [← q1.len, ← q2.len]; exact z, fun e => ?_, fun _ e => ?_, fun _ _ n hn => k _ _ (.p (.tuple (a ++ b))) (Ext.new hn) (new_tup dm hn (q1.app q2)) hh⟩
    · have ea : a = [] := List.eq_nil_of_length_eq_zero (by rw [q1.len, e]; rfl)
      subst ea
      exact k _ H (.p (.tuple ([] ++ b))) (Ext.refl H) r2 hh
    · have eb : b = [] := List.eq_nil_of_length_eq_zero (by rw [q2.len, e]; rfl)
      subst eb
      exact k _ H (.p (.tuple (a ++ []))) (Ext.refl H) (by rw [List.append_nil]; exact r1) hh
end

/-! ### arithmetic of ints -/
def fI (c : Int → Int → Prop) (g : Int → Int → Int) : F2 := fun d e R => asI d fun i => asI e fun j => c i j ∧ R (.p (.int (g i j)))
section
variable {X : Cx} {κ : Ky}
theorem up_I {c : Int → Int → Prop} {g : Int → Int → Int} {x y : V} {H : Hp} {Q : VK} (h : upO κ (fI c g) x y H Q) : rI c (fun i j => .int (g i j)) x y H Q := by
  obtain ⟨d, e, R, P, dm, r1, r2, h, k⟩ := h
  obtain ⟨i, rfl, h0⟩ := asI_of h
  obtain ⟨j, rfl, h1, h2⟩ := asI_of h0
  exact ⟨i, j, r1, r2, h1, k _ H (.p (.int (g i j))) (Ext.refl H) rfl h2⟩
theorem OpR.imp {f : Value → Value → Sem Value} {r r' : R2} (h : OpR X f r') (q : ∀ x y H Q, r x y H Q → r' x y H Q) : OpR X f r := fun pins s σ H x y v u Q I rx ry z => h pins s σ H x y v u Q I rx ry (q x y H Q z)
theorem od_sub : OpR X (binaryOp .Sub) (upO (Cx.ky X) (fI (fun _ _ => True) fun i j => i - j)) := OpR.imp op_sub fun x y H Q h => by
  obtain ⟨i, j, e1, e2, _, q⟩ := up_I h
  exact ⟨i, j, e1, e2, q⟩
theorem od_mod : OpR X (binaryOp .Mod) (upO (Cx.ky X) (fI (fun _ j => 0 < j) fun i j => i % j)) := OpR.imp op_mod fun x y H Q h => up_I h
theorem od_fdiv : OpR X (binaryOp .FloorDiv) (upO (Cx.ky X) (fI CDivN fun i j => i.fdiv j)) := OpR.imp op_fdivN fun x y H Q h => up_I h
end

/-! ### order -/
def fCmp (p : Int → Int → Bool) (q : Str → Str → Bool) : F2 := fun d e R => match d, e with
  | .p (.int i), .p (.int j) => R (.p (.bool (p i j)))
  | .p (.str x), .p (.str y) => R (.p (.bool (q x y)))
  | _, _ => False
inductive CmpK (p : Int → Int → Bool) (q : Str → Str → Bool) (R : DV → Prop) : DV → DV → Prop
  | int (i j : Int) (h : R (.p (.bool (p i j)))) : CmpK p q R (.p (.int i)) (.p (.int j))
  | str (x y : Str) (h : R (.p (.bool (q x y)))) : CmpK p q R (.p (.str x)) (.p (.str y))
theorem cmpK {p : Int → Int → Bool} {q : Str → Str → Bool} {d e : DV} {R : DV → Prop} (h : fCmp p q d e R) : CmpK p q R d e := by
  cases d with
  | p x => cases e with
    | p y => cases x <;> cases y <;> first
        | exact h.elim
        | exact .int _ _ h
        | exact .str _ _ h
    | _ => cases x <;> exact h.elim
  | _ => exact h.elim
def ltS (x y : Str) : Bool := decide (x.cps.toList < y.cps.toList)
def leS (x y : Str) : Bool := !decide (y.cps.toList < x.cps.toList)
abbrev fLt : F2 := fCmp (fun i j => decide (i < j)) ltS
abbrev fLe : F2 := fCmp (fun i j => decide (i ≤ j)) leS
abbrev fGt : F2 := fCmp (fun i j => decide (j < i)) (fun x y => ltS y x)
abbrev fGe : F2 := fCmp (fun i j => decide (j ≤ i)) (fun x y => leS y x)
section
variable {X : Cx}
theorem od_lt : OpR X (compareOp .Lt) (upO (Cx.ky X) fLt) := by
  intro pins s σ H x y v u Q I rx ry ⟨d, e, R, P, dm, r1, r2, h, k⟩
  cases cmpK h with
  | int i j hh => exact op_lt pins s σ H x y v u Q I rx ry ⟨i, j, r1, r2, k _ H (.p (.bool (decide (i < j)))) (Ext.refl H) rfl hh⟩
  | str i j hh => exact op_lt_str pins s σ H x y v u Q I rx ry ⟨i, j, r1, r2, k _ H (.p (.bool (ltS i j))) (Ext.refl H) rfl hh⟩
theorem od_le : OpR X (compareOp .LtE) (upO (Cx.ky X) fLe) := by
  intro pins s σ H x y v u Q I rx ry ⟨d, e, R, P, dm, r1, r2, h, k⟩
  cases cmpK h with
  | int i j hh => exact op_le pins s σ H x y v u Q I rx ry ⟨i, j, r1, r2, k _ H (.p (.bool (decide (i ≤ j)))) (Ext.refl H) rfl hh⟩
  | str i j hh => exact op_le_str pins s σ H x y v u Q I rx ry ⟨i, j, r1, r2, k _ H (.p (.bool (leS i j))) (Ext.refl H) rfl hh⟩
theorem od_gt : OpR X (compareOp .Gt) (upO (Cx.ky X) fGt) := by
  intro pins s σ H x y v u Q I rx ry ⟨d, e, R, P, dm, r1, r2, h, k⟩
  cases cmpK h with
  | int i j hh => exact op_gt pins s σ H x y v u Q I rx ry ⟨i, j, r1, r2, k _ H (.p (.bool (decide (j < i)))) (Ext.refl H) rfl hh⟩
  | str i j hh => exact op_gt_str pins s σ H x y v u Q I rx ry ⟨i, j, r1, r2, k _ H (.p (.bool (ltS j i))) (Ext.refl H) rfl hh⟩
theorem od_ge : OpR X (compareOp .GtE) (upO (Cx.ky X) fGe) := by
  intro pins s σ H x y v u Q I rx ry ⟨d, e, R, P, dm, r1, r2, h, k⟩
  cases cmpK h with
  | int i j hh => exact op_ge pins s σ H x y v u Q I rx ry ⟨i, j, r1, r2, k _ H (.p (.bool (decide (j ≤ i)))) (Ext.refl H) rfl hh⟩
  | str i j hh => exact op_ge_str pins s σ H x y v u Q I rx ry ⟨i, j, r1, r2, k _ H (.p (.bool (leS j i))) (Ext.refl H) rfl hh⟩
end

/-! ### == -/
mutual
theorem dp_of {K : PySem.W.Frag} {H : Hp} : ∀ {d : PyData} {v : V}, Rp K H d v → d.hasDict = false → Dp K H v d
  | .none, v, h, _ => by rw [show v = .non from h]; exact .non
  | .bool b, v, h, _ => by rw [show v = .bl b from h]; exact .bl b
  | .int i, v, h, _ => by rw [show v = .int i from h]; exact .int i
  | .str x, v, h, _ => by rw [show v = .str x from h]; exact .str x
  | .list ds, _, ⟨a, xs, e, q, r⟩, n => by rw [e]; exact .lst (SqL.of q.at_) (dpA_of r n)
  | .tuple ds, _, ⟨a, xs, e, q, r⟩, n => by rw [e]; exact .tup q (dpA_of r n)
  | .dict _, _, _, n => by cases n
theorem dpA_of {K : PySem.W.Frag} {H : Hp} : ∀ {ds : List PyData} {vs : List V}, RpA K H ds vs → PyData.hasDictAll ds = false → DpAll K H vs ds
  | [], vs, h, _ => by rw [show vs = [] from h]; exact .nil
  | d :: ds, _, ⟨v, r, e, h, t⟩, n => by
    have n' : (PyData.hasDict d || PyData.hasDictAll ds) = false := n
    rw [Bool.or_eq_false_iff] at n'
    rw [e]
    exact .cons (dp_of h n'.1) (dpA_of t n'.2)
end
/-- data that == reads as it is -/
def plain (d : PyData) : Prop := d.hasDict = false ∧ SeqAt.shaped d = true
def fEq : F2 := fun d e R => asP d fun x => asP e fun y => plain x ∧ plain y ∧ R (.p (.bool (PyData.eqv x y)))
def fNe : F2 := fun d e R => asP d fun x => asP e fun y => plain x ∧ plain y ∧ R (.p (.bool (!PyData.eqv x y)))
section
variable {X : Cx}
theorem od_eq (hu : X.A.units + 64 < cLine) : OpR X (compareOp .Eq) (upO (Cx.ky X) fEq) := by
  intro pins s σ H x y v u Q I rx ry ⟨d, e, R, P, dm, r1, r2, h, k⟩
  obtain ⟨a, rfl, h0⟩ := asP_of h
  obtain ⟨b, rfl, h1, h2, h3⟩ := asP_of h0
  exact op_eqD hu pins s σ H x y v u Q I rx ry ⟨a, b, dp_of (rp_up r1) h1.1, dp_of (rp_up r2) h2.1, h1.2, h2.2, k _ H (.p (.bool (PyData.eqv a b))) (Ext.refl H) rfl h3⟩
theorem od_ne (hu : X.A.units + 64 < cLine) : OpR X (compareOp .NotEq) (upO (Cx.ky X) fNe) := by
  intro pins s σ H x y v u Q I rx ry ⟨d, e, R, P, dm, r1, r2, h, k⟩
  obtain ⟨a, rfl, h0⟩ := asP_of h
  obtain ⟨b, rfl, h1, h2, h3⟩ := asP_of h0
  exact op_neD hu pins s σ H x y v u Q I rx ry ⟨a, b, dp_of (rp_up r1) h1.1, dp_of (rp_up r2) h2.1, h1.2, h2.2, k _ H (.p (.bool (!PyData.eqv a b))) (Ext.refl H) rfl h3⟩
end

/-! ### built-ins -/
theorem CallR.imp {X : Cx} {f : Value} {r r' : List V → Hp → VK → Prop} (h : CallR X f r') (q : ∀ xs H Q, r xs H Q → r' xs H Q) : CallR X f r := fun pins s σ H xs us Q I rx z => h pins s σ H xs us Q I rx (q xs H Q z)
def tyD : PyData → String
  | .none => "NoneType" | .bool _ => "bool" | .int _ => "int" | .str _ => "str" | .list _ => "list" | .tuple _ => "tuple" | .dict _ => "dict"
theorem tyx_of {K : PySem.W.Frag} {H : Hp} {d : PyData} {v : V} (h : Rp K H d v) : TyX K H v (.type (tyD d)) := by
  cases d with
  | none => rw [show v = .non from h]; exact .base .non
  | bool b => rw [show v = .bl b from h]; exact .base (.bl b)
  | int i => rw [show v = .int i from h]; exact .base (.int i)
  | str x => rw [show v = .str x from h]; exact .base (.str x)
  | list ds =>
    obtain ⟨a, xs, e, q, _⟩ := h
    rw [e]
    exact .base (.lst q.at_)
  | tuple ds =>
    obtain ⟨a, xs, e, q, _⟩ := h
    rw [e]
    rcases q with (q | ⟨o, q⟩) | ⟨o, its, n, q, c, _⟩
    · exact .base (.tup q)
    · exact .fTuple q
    · exact .kTuple q c
  | dict kvs =>
    obtain ⟨a, es, e, q, _⟩ := h
    rw [e]
    exact .base (.dK q)
def fIsi : FL := fun ds R => ∃ d T b, ds = [.p d, .raw (.ty T)] ∧ kitB (tyD d) T = some b ∧ R (.p (.bool b))
def lenD : PyData → Option Nat
  | .str x => some x.length
  | .list xs => some xs.length
  | .tuple xs => some xs.length
  | _ => none
def fLen : FL := fun ds R => ∃ d n, ds = [.p d] ∧ lenD d = some n ∧ n ≤ sizeLine ∧ R (.p (.int n))
def fAll : FL := fun ds R => ∃ bs : List Bool, ds = [.p (.list (bs.map .bool))] ∧ R (.p (.bool (bs.all id)))
def fAny : FL := fun ds R => ∃ bs : List Bool, ds = [.p (.list (bs.map .bool))] ∧ R (.p (.bool (bs.any id)))
def fOrd : FL := fun ds R => ∃ c : Nat, ds = [.p (.str ⟨#[c]⟩)] ∧ R (.p (.int c))
def fInt : FL := fun ds R => ∃ i : Int, ds = [.p (.int i)] ∧ R (.p (.int i))
def fList : FL := fun ds R => ∃ xs, (ds = [.p (.list xs)] ∨ ds = [.p (.tuple xs)]) ∧ nP xs = true ∧ R (.p (.list xs))
def fTuple : FL := fun ds R => ∃ xs, (ds = [.p (.list xs)] ∨ ds = [.p (.tuple xs)]) ∧ R (.p (.tuple xs))
def fMax : FL := fun ds R => ∃ i j : Int, ds = [.p (.int i), .p (.int j)] ∧ R (.p (.int (if j > i then j else i)))
def fMin : FL := fun ds R => ∃ i j : Int, ds = [.p (.int i), .p (.int j)] ∧ R (.p (.int (if j < i then j else i)))
theorem rpA_bools {K : PySem.W.Frag} {H : Hp} : ∀ {bs : List Bool} {vs : List V}, RpA K H (bs.map .bool) vs → vs = bs.map V.bl
  | [], _, h => h
  | b :: bs, _, ⟨v, r, e, h, t⟩ => by rw [e, show v = .bl b from h, rpA_bools t]; rfl
section
variable {X : Cx}
theorem cd_isi : CallR X (.builtin "isinstance") (upC (Cx.ky X) fIsi) := CallR.imp call_isi fun xs H Q ⟨ds, R, P, dm, r, ⟨d, T, b, e, hb, h⟩, k⟩ => by
  subst e
  obtain ⟨v, q, e1, r1, u, q2, e2, r2, r3⟩ := r
  have e3 : q2 = [] := r3
  subst e1 e2 e3
  exact ⟨v, u, _, _, b, rfl, by rw [show u = .ty T from r2]; exact .ty T, tyx_of (rp_up r1), kit_ty hb, k _ H (.p (.bool b)) (Ext.refl H) rfl h⟩
theorem cd_len : CallR X (.builtin "len") (upC (Cx.ky X) fLen) := CallR.imp call_len fun xs H Q ⟨ds, R, P, dm, r, ⟨d, n, e, hn, hz, h⟩, k⟩ => by
  subst e
  obtain ⟨v, rfl, r1⟩ := rvA1 r
  refine ⟨v, n, rfl, ?_, k _ H (.p (.int n)) (Ext.refl H) rfl h⟩
  cases d with
  | str x =>
    cases hn
    rw [show v = .str x from r1]
    exact ⟨hz, rfl⟩
  | list ds =>
    cases hn
    obtain ⟨a, xs, e, q, ra⟩ := r1
    subst e
    exact .inl ⟨xs, SqL.of ((hide_ext P H).lst q).at_, ra.len⟩
  | tuple ds =>
    cases hn
    obtain ⟨a, xs, e, q, ra⟩ := r1
    subst e
    exact .inr ⟨xs, (hide_ext P H).seqT q, ra.len⟩
  | _ => cases hn
theorem cd_all (hc : X.calm = true) : CallR X (.builtin "all") (upC (Cx.ky X) fAll) := CallR.imp (cr_all hc) fun xs H Q ⟨ds, R, P, dm, r, ⟨bs, e, h⟩, k⟩ => by
  subst e
  obtain ⟨v, rfl, a, xs, e, q, ra⟩ := rvA1 r
  subst e
  have e2 := rpA_bools ra
  subst e2
  exact ⟨a, bs, rfl, SqL.of ((hide_ext P H).lst q).at_, k _ H (.p (.bool (bs.all id))) (Ext.refl H) rfl h⟩
theorem cd_any (hc : X.calm = true) : CallR X (.builtin "any") (upC (Cx.ky X) fAny) := CallR.imp (cr_any hc) fun xs H Q ⟨ds, R, P, dm, r, ⟨bs, e, h⟩, k⟩ => by
  subst e
  obtain ⟨v, rfl, a, xs, e, q, ra⟩ := rvA1 r
  subst e
  have e2 := rpA_bools ra
  subst e2
  exact ⟨a, bs, rfl, SqL.of ((hide_ext P H).lst q).at_, k _ H (.p (.bool (bs.any id))) (Ext.refl H) rfl h⟩
theorem cd_ord : CallR X (.builtin "ord") (upC (Cx.ky X) fOrd) := CallR.imp call_ord fun xs H Q ⟨ds, R, P, dm, r, ⟨c, e, h⟩, k⟩ => by
  subst e
  obtain ⟨v, rfl, r1⟩ := rvA1 r
  exact ⟨⟨#[c]⟩, by rw [show v = .str ⟨#[c]⟩ from r1], rfl, k _ H (.p (.int c)) (Ext.refl H) rfl h⟩
theorem cd_int : CallR X (.type "int") (upC (Cx.ky X) fInt) := CallR.imp call_int1 fun xs H Q ⟨ds, R, P, dm, r, ⟨i, e, h⟩, k⟩ => by
  subst e
  obtain ⟨v, rfl, r1⟩ := rvA1 r
  exact .inl ⟨i, by rw [show v = .int i from r1], k _ H (.p (.int i)) (Ext.refl H) rfl h⟩
theorem cd_list : CallR X (.type "list") (upC (Cx.ky X) fList) := CallR.imp call_list_of fun xs H Q ⟨ds, R, P, dm, r, ⟨zs, e, np, h⟩, k⟩ => by
  rcases e with e | e
  · subst e
    obtain ⟨v, rfl, a, xs, e, q, ra⟩ := rvA1 r
    subst e
    exact ⟨a, xs, rfl, .inl (SqL.of ((hide_ext P H).lst q).at_), fun l hl => k _ _ (.p (.list zs)) (Ext.new hl) (new_lst dm hl ra np) h⟩
  · subst e
    obtain ⟨v, rfl, a, xs, e, q, ra⟩ := rvA1 r
    subst e
    exact ⟨a, xs, rfl, .inr ((hide_ext P H).seqT q), fun l hl => k _ _ (.p (.list zs)) (Ext.new hl) (new_lst dm hl ra np) h⟩
theorem cd_tuple : CallR X (.type "tuple") (upC (Cx.ky X) fTuple) := CallR.imp call_tuple_of fun xs H Q ⟨ds, R, P, dm, r, ⟨zs, e, h⟩, k⟩ => by
  rcases e with e | e
  · subst e
    obtain ⟨v, rfl, a, xs, e, q, ra⟩ := rvA1 r
    subst e
    exact ⟨a, xs, rfl, .inl ⟨SqL.of ((hide_ext P H).lst q).at_, fun l hl => k _ _ (.p (.tuple zs)) (Ext.new hl) (new_tup dm hl ra) h⟩⟩
  · subst e
    obtain ⟨v, rfl, r1⟩ := rvA1 r
    obtain ⟨a, xs, e, q, ra⟩ := id r1
    subst e
    exact ⟨a, xs, rfl, .inr ⟨(hide_ext P H).seqT q, k _ H (.p (.tuple zs)) (Ext.refl H) r1 h⟩⟩
theorem cd_max (hc : X.calm = true) : CallR X (.builtin "max") (upC (Cx.ky X) fMax) := CallR.imp (call_max2 hc) fun xs H Q ⟨ds, R, P, dm, r, ⟨i, j, e, h⟩, k⟩ => by
  subst e
  obtain ⟨v, u, rfl, r1, r2⟩ := rvA2 r
  exact ⟨i, j, by rw [show v = .int i from r1, show u = .int j from r2], k _ H (.p (.int (if j > i then j else i))) (Ext.refl H) rfl h⟩
theorem cd_min (hc : X.calm = true) : CallR X (.builtin "min") (upC (Cx.ky X) fMin) := CallR.imp (call_min2 hc) fun xs H Q ⟨ds, R, P, dm, r, ⟨i, j, e, h⟩, k⟩ => by
  subst e
  obtain ⟨v, u, rfl, r1, r2⟩ := rvA2 r
  exact ⟨i, j, by rw [show v = .int i from r1, show u = .int j from r2], k _ H (.p (.int (if j < i then j else i))) (Ext.refl H) rfl h⟩
end

/-! ### subscripts -/
def fIx : F2 := fun d e R => asI e fun i => match d with
  | .p (.list xs) => ∃ y, atI xs i = some y ∧ R (.p y)
  | .p (.tuple xs) => ∃ y, atI xs i = some y ∧ R (.p y)
  | .p (.str x) => x.length ≤ sizeLine ∧ ∃ c, atI x.cps.toList i = some c ∧ R (.p (.str ⟨#[c]⟩))
  | _ => False
theorem atI_get {K : PySem.W.Frag} {H : Hp} {ds : List PyData} {xs : List V} {i : Int} {y : PyData} (r : RpA K H ds xs) (h : atI ds i = some y) : ∃ v, atI xs i = some v ∧ Rp K H y v := by
  unfold atI at h ⊢
  rw [← r.len]
  cases e : ixN ds.length i with
  | none => rw [e] at h; cases h
  | some j =>
    rw [e] at h
    obtain ⟨v, e1, e2⟩ := r.get (show ds[j]? = some y from h)
    exact ⟨v, e1, e2⟩
section
variable {X : Cx}
theorem IxR.imp {r r' : R2} (h : IxR X r') (q : ∀ x y H Q, r x y H Q → r' x y H Q) : IxR X r := fun value slice pins s σ H x y v u Q I rx ry z hs => h value slice pins s σ H x y v u Q I rx ry (q x y H Q z) hs
theorem xd_ix : IxR X (upO (Cx.ky X) fIx) := by
  intro value slice pins s σ H x y v u Q I rx ry ⟨d, e, R, P, dm, r1, r2, h, k⟩ hs
  obtain ⟨i, rfl, h0⟩ := asI_of h
  cases d with
  | p d => cases d with
    | list ds =>
      obtain ⟨z, hz, h1⟩ := h0
      obtain ⟨a, xs, e, q, ra⟩ := r1
      obtain ⟨w, e1, e2⟩ := atI_get ra hz
      exact ix_list value slice pins s σ H x y v u Q I rx ry ⟨a, xs, i, w, e, r2, SqL.of ((hide_ext P H).lst q).at_, e1, k w H (.p z) (Ext.refl H) e2 h1⟩ hs
    | tuple ds =>
      obtain ⟨z, hz, h1⟩ := h0
      obtain ⟨a, xs, e, q, ra⟩ := r1
      obtain ⟨w, e1, e2⟩ := atI_get ra hz
      exact ix_tup value slice pins s σ H x y v u Q I rx ry ⟨a, xs, i, w, e, r2, (hide_ext P H).seqT q, e1, k w H (.p z) (Ext.refl H) e2 h1⟩ hs
    | str z =>
      obtain ⟨hz, c, e1, h1⟩ := h0
      exact ix_str value slice pins s σ H x y v u Q I rx ry ⟨z, i, c, r1, r2, hz, e1, k _ H (.p (.str ⟨#[c]⟩)) (Ext.refl H) rfl h1⟩ hs
    | _ => exact h0.elim
  | _ => exact h0.elim
theorem de_ix {a b : Expr} {ta tb : TD} {pos : Pos} (ha : PE X a (up (Cx.ky X) ta)) (hb : PE X b (up (Cx.ky X) tb)) (hs : PlainIx b := by exact fun _ _ => rfl) : PE X (.Subscript a b pos) (up (Cx.ky X) (dOp fIx ta tb)) :=
  PE.imp (pe_ix xd_ix ha hb hs) fun _ _ _ h => up_op h
end
/-- a part of a slice -/
abbrev TDO := Dn → (Option Int → Prop) → Prop
def upP (κ : Ky) (t : TDO) : TO := fun σ H Q => ∃ δ R c L, ES κ c H L δ σ ∧ t δ R ∧ ∀ o H', Ext H H' → R o → Q o H'
def dNo : TDO := fun _ R => R none
def dPart (t : TD) : TDO := fun δ R => t δ fun d => asI d fun i => R (some i)
def cutD (xs : List PyData) (lo hi : Option Int) : List PyData := (xs.drop (HT.sIx xs.length 0 lo)).take (HT.sIx xs.length xs.length hi - HT.sIx xs.length 0 lo)
def sliceD (d : DV) (lo hi : Option Int) (R : DV → Prop) : Prop := match d with
  | .p (.list xs) => nP (cutD xs lo hi) = true ∧ R (.p (.list (cutD xs lo hi)))
  | .p (.tuple xs) => R (.p (.tuple (cutD xs lo hi)))
  | .p (.str x) => x.length ≤ sizeLine ∧ R (.p (.str (cutS x lo hi)))
  | _ => False
def dSl (te : TD) (tl th : TDO) : TD := fun δ R => te δ fun d => tl δ fun lo => th δ fun hi => sliceD d lo hi R
theorem RpA.cut {K : PySem.W.Frag} {H : Hp} {ds : List PyData} {xs : List V} (r : RpA K H ds xs) (lo hi : Option Int) : RpA K H (cutD ds lo hi) (cutV xs lo hi) := by
  unfold cutD cutV
  rw [r.len]
  exact (r.drop _).take _
section
variable {X : Cx}
def upSl (κ : Ky) : V → Option Int → Option Int → Hp → VK → Prop := fun x lo hi H Q => ∃ d R P, Dom P H ∧ Rv κ (hide P H) d x ∧ sliceD d lo hi R ∧ ∀ v H' r, Ext H H' → Rv κ (hide P H') r v → R r → Q v H'
theorem xd_sl : SlR X (upSl (Cx.ky X)) := by
  intro pins s σ H x v vl vu lo hi sl Q I rx hs pl pu ⟨d, R, P, dm, r1, h, k⟩
  cases d with
  | p d => cases d with
    | list ds =>
      obtain ⟨a, xs, e, q, ra⟩ := r1
      exact sl_list pins s σ H x v vl vu lo hi sl Q I rx hs pl pu ⟨a, xs, e, SqL.of ((hide_ext P H).lst q).at_, fun p hp => k _ _ (.p (.list (cutD ds lo hi))) (Ext.new hp) (new_lst dm hp (ra.cut lo hi) h.1) h.2⟩
    | tuple ds =>
      obtain ⟨a, xs, e, q, ra⟩ := id r1
      refine sl_tupA pins s σ H x v vl vu lo hi sl Q I rx hs pl pu ⟨a, xs, e, (hide_ext P H).seqT q, fun ⟨e1, e2⟩ => ?_, fun _ p hp => k _ _ (.p (.tuple (cutD ds lo hi))) (Ext.new hp) (new_tup dm hp (ra.cut lo hi)) h⟩
      have ec : cutD ds lo hi = ds := by
        unfold cutD
        rw [ra.len, e1, e2, List.drop_zero, Nat.sub_zero, ← ra.len, List.take_length]
      exact k _ H (.p (.tuple (cutD ds lo hi))) (Ext.refl H) (by rw [ec, ← e]; exact r1) h
    | str z => exact sl_str pins s σ H x v vl vu lo hi sl Q I rx hs pl pu ⟨z, r1, h.1, k _ H (.p (.str (cutS z lo hi))) (Ext.refl H) rfl h.2⟩
    | _ => exact h.elim
  | _ => exact h.elim
theorem do_none : PO X none (upP (Cx.ky X) dNo) := ⟨fun pins s σ H Q I ⟨δ, R, c, L, es, h, k⟩ => po_none.run pins s σ H Q I (k none H (Ext.refl H) h)⟩
theorem do_some {e : Expr} {t : TD} (h : PE X e (up (Cx.ky X) t)) : PO X (some e) (upP (Cx.ky X) (dPart t)) := ⟨fun pins s σ H Q I ⟨δ, R, c, L, es, hh, k⟩ => (po_some h).run pins s σ H Q I ⟨δ, _, c, L, es, hh, fun v H1 d x1 r1 h1 => by
  obtain ⟨i, rfl, h2⟩ := asI_of h1
  exact ⟨i, r1, k (some i) H1 x1 h2⟩⟩⟩
theorem de_slice {e : Expr} {lo hi : Option Expr} {te : TD} {tl th : TDO} {p2 pos : Pos} (he : PE X e (up (Cx.ky X) te)) (hl : PO X lo (upP (Cx.ky X) tl)) (hh : PO X hi (upP (Cx.ky X) th)) : PE X (.Subscript e (.Slice lo hi none p2) pos) (up (Cx.ky X) (dSl te tl th)) := by
  refine PE.imp (pe_slice xd_sl he hl hh) fun σ H Q ⟨δ, R, c, L, es, h, k⟩ => ?_
  refine ⟨δ, _, c, L, es, h, fun v H1 d x1 r1 h1 => ⟨δ, _, c, L, es.on x1, h1, fun lo H2 x2 h2 => ⟨δ, _, c, L, es.on (x1.trans x2), h2, fun hi H3 x3 h3 => ?_⟩⟩⟩
  exact ⟨d, R, _, (es.on (x1.trans (x2.trans x3))).dom, r1.ext ((x2.trans x3).hide _), h3, fun u H4 r x4 r4 h4 => k u H4 r (x1.trans (x2.trans (x3.trans x4))) r4 h4⟩
end

/-! ### displays -/
def pyAll : List DV → (List PyData → Prop) → Prop
  | [], K => K []
  | d :: ds, K => asP d fun x => pyAll ds fun xs => K (x :: xs)
theorem pyAll_of : ∀ {ds : List DV} {K : List PyData → Prop}, pyAll ds K → ∃ xs, ds = xs.map .p ∧ K xs
  | [], _, h => ⟨[], rfl, h⟩
  | d :: ds, _, h => by
    obtain ⟨x, rfl, h1⟩ := asP_of h
    obtain ⟨xs, rfl, h2⟩ := pyAll_of h1
    exact ⟨x :: xs, rfl, h2⟩
theorem rvA_p {κ : Ky} {H : Hp} : ∀ {xs : List PyData} {vs : List V}, RvA κ H (xs.map .p) vs → RpA κ.K H xs vs
  | [], _, h => h
  | _ :: _, _, ⟨v, r, e, h, t⟩ => ⟨v, r, e, h, rvA_p t⟩
def dTup (t : TL) : TD := fun δ R => t δ fun ds => pyAll ds fun xs => xs.length ≤ sizeLine ∧ R (.p (.tuple xs))
def dLst (t : TL) : TD := fun δ R => t δ fun ds => pyAll ds fun xs => xs.length ≤ sizeLine ∧ nP xs = true ∧ R (.p (.list xs))
section
variable {X : Cx} {es : List Expr} {t : TL} {pos : Pos}
theorem de_tup {x1} (h : PA X es (upA (Cx.ky X) t)) : PE X (.Tuple es x1 pos) (up (Cx.ky X) (dTup t)) := by
  refine PE.imp (pe_tup h) fun σ H Q ⟨δ, R, c, L, es, h, k⟩ => ⟨δ, _, c, L, es, h, fun vs H1 ds x1 r1 h1 => ?_⟩
  obtain ⟨xs, rfl, hz, h2⟩ := pyAll_of h1
  have rp := rvA_p r1
  exact ⟨by rw [← rp.len]; exact hz, fun p hp => k _ _ (.p (.tuple xs)) (x1.trans (Ext.new hp)) (new_tup (es.on x1).dom hp rp) h2⟩
theorem de_lst (h : PA X es (upA (Cx.ky X) t)) : PE X (.List es pos) (up (Cx.ky X) (dLst t)) := by
  refine PE.imp (pe_lst h) fun σ H Q ⟨δ, R, c, L, es, h, k⟩ => ⟨δ, _, c, L, es, h, fun vs H1 ds x1 r1 h1 => ?_⟩
  obtain ⟨xs, rfl, hz, np, h2⟩ := pyAll_of h1
  have rp := rvA_p r1
  exact ⟨by rw [← rp.len]; exact hz, fun p hp => k _ _ (.p (.list xs)) (x1.trans (Ext.new hp)) (new_lst (es.on x1).dom hp rp np) h2⟩
theorem not_well_nil : ¬ Well (.dK []) := fun ⟨_, _, e, _⟩ => by cases e
theorem de_dict0 : PE X (.Dict [] [] pos) (up (Cx.ky X) (dC (.p (.dict [])))) := by
  refine PE.imp pe_dnewK fun σ H Q ⟨δ, R, c, L, es, h, k⟩ d hd => ?_
  exact k _ _ (.p (.dict [])) (Ext.new hd) ⟨d, [], rfl, fresh_at es.dom hd, not_well_nil, rfl⟩ h
end

/-! ### zip of two lists or two tuples, for a target a, b -/
def pairsD (xs ys : List PyData) : List PyData := List.zipWith (fun x y => .tuple [x, y]) xs ys
def dItZip (t : TL) : TDI := fun δ R => t δ fun ds => ∃ xs ys, (ds = [.p (.list xs), .p (.list ys)] ∨ ds = [.p (.tuple xs), .p (.tuple ys)]) ∧ R (pairsD xs ys)
theorem itk_zipL {κ : Ky} {a b : Addr} {xs ys : List PyData} : ItK κ (Itz κ.K a b) (pairsD xs ys) [.p (.list xs), .p (.list ys)] [.ref a, .ref b] where
  go := fun H P' i _ r hi => by
    obtain ⟨v, u, e, ⟨a', us, e1, q1, r1⟩, ⟨b', ws, e2, q2, r2⟩⟩ := rvA2 r
    cases e; cases e1; cases e2
    unfold pairsD at hi
    rw [List.length_zipWith] at hi
    obtain ⟨x, f1, _⟩ := r1.get (List.getElem?_eq_getElem (show i < xs.length by omega))
    obtain ⟨y, f2, _⟩ := r2.get (List.getElem?_eq_getElem (show i < ys.length by omega))
    exact ⟨us, ws, x, y, SqL.of ((hide_ext P' H).lst q1).at_, SqL.of ((hide_ext P' H).lst q2).at_, f1, f2⟩
  stop := fun H P' i _ r hi => by
    obtain ⟨v, u, e, ⟨a', us, e1, q1, r1⟩, ⟨b', ws, e2, q2, r2⟩⟩ := rvA2 r
    cases e; cases e1; cases e2
    unfold pairsD at hi
    rw [List.length_zipWith] at hi
    exact ⟨us, ws, SqL.of ((hide_ext P' H).lst q1).at_, SqL.of ((hide_ext P' H).lst q2).at_, by rw [← r1.len, ← r2.len]; omega⟩
  yld := fun H P' i x H2 dm r hi hy => by
    obtain ⟨v, u, e, ⟨a', us, e1, q1, r1⟩, ⟨b', ws, e2, q2, r2⟩⟩ := rvA2 r
    cases e; cases e1; cases e2
    obtain ⟨T, y1, y2, rfl, hT, rfl, f1, f2⟩ := hy
    obtain ⟨d1, g1, g2⟩ := r1.back (f1 us (SqL.of ((hide_ext P' H).lst q1).at_))
    obtain ⟨d2, g3, g4⟩ := r2.back (f2 ws (SqL.of ((hide_ext P' H).lst q2).at_))
    refine ⟨.tuple [d1, d2], ?_, Ext.new hT, ⟨T, [y1, y2], rfl, SqT.of (fresh_at dm hT), ?_⟩⟩
    · unfold pairsD
      rw [List.getElem?_zipWith, g1, g3]
    · exact ⟨y1, [y2], rfl, g2.ext ((Ext.new hT).hide P'), y2, [], rfl, g4.ext ((Ext.new hT).hide P'), rfl⟩
theorem itk_zipT {κ : Ky} {a b : Addr} {xs ys : List PyData} : ItK κ (RZ.ItzT κ.K a b) (pairsD xs ys) [.p (.tuple xs), .p (.tuple ys)] [.ref a, .ref b] where
  go := fun H P' i _ r hi => by
    obtain ⟨v, u, e, ⟨a', us, e1, q1, r1⟩, ⟨b', ws, e2, q2, r2⟩⟩ := rvA2 r
    cases e; cases e1; cases e2
    unfold pairsD at hi
    rw [List.length_zipWith] at hi
    obtain ⟨x, f1, _⟩ := r1.get (List.getElem?_eq_getElem (show i < xs.length by omega))
    obtain ⟨y, f2, _⟩ := r2.get (List.getElem?_eq_getElem (show i < ys.length by omega))
    exact ⟨us, ws, x, y, (hide_ext P' H).seqT q1, (hide_ext P' H).seqT q2, f1, f2⟩
  stop := fun H P' i _ r hi => by
    obtain ⟨v, u, e, ⟨a', us, e1, q1, r1⟩, ⟨b', ws, e2, q2, r2⟩⟩ := rvA2 r
    cases e; cases e1; cases e2
    unfold pairsD at hi
    rw [List.length_zipWith] at hi
    exact ⟨us, ws, (hide_ext P' H).seqT q1, (hide_ext P' H).seqT q2, by rw [← r1.len, ← r2.len]; omega⟩
  yld := fun H P' i x H2 dm r hi hy => by
    obtain ⟨v, u, e, ⟨a', us, e1, q1, r1⟩, ⟨b', ws, e2, q2, r2⟩⟩ := rvA2 r
    cases e; cases e1; cases e2
    obtain ⟨T, y1, y2, rfl, hT, rfl, f1, f2⟩ := hy
    obtain ⟨d1, g1, g2⟩ := r1.back (f1 us ((hide_ext P' H).seqT q1))
    obtain ⟨d2, g3, g4⟩ := r2.back (f2 ws ((hide_ext P' H).seqT q2))
    refine ⟨.tuple [d1, d2], ?_, Ext.new hT, ⟨T, [y1, y2], rfl, SqT.of (fresh_at dm hT), ?_⟩⟩
    · unfold pairsD
      rw [List.getElem?_zipWith, g1, g3]
    · exact ⟨y1, [y2], rfl, g2.ext ((Ext.new hT).hide P'), y2, [], rfl, g4.ext ((Ext.new hT).hide P'), rfl⟩
theorem di_zip {X : Cx} {e e2 : Expr} {t : TL} {p pos tpos : Pos} {elts : List Expr} {kk : Nat} (hg : Gl X "zip") (hm : X.mg "zip" = none) (ha : PA X [e, e2] (upA (Cx.ky X) t))
    (hs : starEach [e, e2] X.env = (false, eval e X.env) :: starEach [e2] X.env := by rfl) (hpl : (backTo pos (starEach [e2] X.env)).any (·.1) = false := by rfl) :
    PI X (.Tuple elts kk tpos) (.Call (.Name "zip" p) [e, e2] [] pos) (upI (Cx.ky X) (dItZip t)) := by
  refine PI.imp (RZ.pi_zipA hg hm ha hs hpl) fun σ H R ⟨δ, R', c, L, es, h, k⟩ => ⟨δ, _, c, L, es, h, fun vs H1 ds x1 r1 h1 => ?_⟩
  obtain ⟨xs, ys, e | e, h2⟩ := h1
  · subst e
    obtain ⟨v, u, e, ⟨a, us, e1, q1, ra⟩, ⟨b, ws, e2, q2, rb⟩⟩ := rvA2 r1
    subst e e1 e2
    exact ⟨a, b, us, ws, rfl, .inl ⟨SqL.of ((hide_ext _ _).lst q1).at_, SqL.of ((hide_ext _ _).lst q2).at_, k _ H1 (pairsD xs ys) [.p (.list xs), .p (.list ys)] [.ref a, .ref b] x1 r1 itk_zipL h2⟩⟩
  · subst e
    obtain ⟨v, u, e, ⟨a, us, e1, q1, ra⟩, ⟨b, ws, e2, q2, rb⟩⟩ := rvA2 r1
    subst e e1 e2
    exact ⟨a, b, us, ws, rfl, .inr ⟨(hide_ext _ _).seqT q1, (hide_ext _ _).seqT q2, k _ H1 (pairsD xs ys) [.p (.tuple xs), .p (.tuple ys)] [.ref a, .ref b] x1 r1 itk_zipT h2⟩⟩
end MR

/-! repr, methods of texts, membership, repetition by data. -/
namespace MR
open PySem PySem.Spec PyProof.Rows L2

/-! ### what stands in the heap, for repr -/
section
variable {X : Cx} {pins : List (Addr × Obj)} {σ : Sg} {H : Hp} {s : Shared} {P : Addr → Bool}
theorem ne_sys {a : Addr} {o : HO} (hp : P sysModules = true) (h : hide P H a = some o) : a ≠ sysModules := fun e => by
  subst e
  unfold hide at h
  rw [if_pos hp] at h
  cases h
theorem keys_read {K : Type} [DecidableEq K] {knd : PySem.KeyKind X.prog X.w K} {h : Heap} (f : K → PyData) (hf : ∀ k v, knd.is k v = true → Reads h v (f k) []) : ∀ {es : List DictEntry} {kvs : List (K × Value)}, PySem.Pairs knd es kvs → ReadsAll h (es.map (·.key)) (kvs.map fun p => f p.1) [] ∧ es.map (·.val) = kvs.map (·.2)
  | _, _, .nil => ⟨.nil, rfl⟩
  | _, _, .cons h1 h2 t => by
    obtain ⟨q1, q2⟩ := keys_read f hf t
    refine ⟨.cons (as := []) (bs := []) (hf _ _ h1) q1, ?_⟩
    rw [List.map_cons, List.map_cons, q2, h2]
theorem key_reads {h : Heap} : ∀ (k : Key) (v : Value), (mixKind X.prog X.w).is k v = true → Reads h v (keyD k) []
  | .inl i, v, q => by
    obtain ⟨t, rfl⟩ := Value.isInt_shape (k := i) (v := v) q
    exact .int i t
  | .inr x, v, q => by
    obtain ⟨t, rfl⟩ := Value.isStrOf_shape (x := x) (v := v) q
    exact .str x t
mutual
theorem rp_reads (hp : P sysModules = true) (I : Inv X pins σ H s) : ∀ {d : PyData} {v : V} {u : Value}, Rp X.K (hide P H) d v → RelV v u → ∃ as, Reads s.heap u d as ∧ sysModules ∉ as
  | .none, v, u, h, r => by
    rw [show v = .non from h] at r
    rw [show u = Value.none from r]
    exact ⟨_, .none, List.not_mem_nil⟩
  | .bool b, v, u, h, r => by
    rw [show v = .bl b from h] at r
    rw [show u = Value.bool b from r]
    exact ⟨_, .bool b, List.not_mem_nil⟩
  | .int i, v, u, h, r => by
    rw [show v = .int i from h] at r
    obtain ⟨t, rfl⟩ := r
    exact ⟨_, .int i t, List.not_mem_nil⟩
  | .str x, v, u, h, r => by
    rw [show v = .str x from h] at r
    obtain ⟨t, rfl⟩ := r
    exact ⟨_, .str x t, List.not_mem_nil⟩
  | .list ds, v, u, ⟨a, xs, e, q, ra⟩, r => by
    subst e
    rw [show u = Value.ref a from r]
    obtain ⟨its, rv, ⟨o, n, ho, hc, _, hd⟩, _⟩ := I.list (SqL.of ((hide_ext P H).lst q).at_)
    obtain ⟨as, hr, hn⟩ := rpA_reads hp I ra rv
    exact ⟨_, .list ho hc hd hr, fun z => (List.mem_cons.mp z).elim (fun e => ne_sys hp q.at_ e.symm) hn⟩
  | .tuple ds, v, u, ⟨a, xs, e, q, ra⟩, r => by
    subst e
    rw [show u = Value.ref a from r]
    obtain ⟨its, rv, ⟨o, ho, hc, n, hd⟩, _⟩ := I.tuple ((hide_ext P H).seqT q)
    obtain ⟨as, hr, hn⟩ := rpA_reads hp I ra rv
    exact ⟨_, .tuple ho hc hd hr, hn⟩
  | .dict kvs, v, u, ⟨a, es, e, q, _, rk⟩, r => by
    subst e
    rw [show u = Value.ref a from r]
    have q' : H a = some (.dK es) := by
      unfold hide at q
      split at q
      · cases q
      · exact q
    obtain ⟨_, _, vs, kv, o, ds, ep, h1, h2, h3, _, h5, _⟩ := I.hok a _ q'
    obtain ⟨w1, w2⟩ := keys_read (h := s.heap) keyD key_reads h5
    obtain ⟨bs, hr, hn⟩ := rpK_reads hp I rk kv
    have ek : kvs.map (·.1) = vs.map fun p => keyD p.1 := rpK_keys rk kv
    refine ⟨a :: [] ++ bs, .dict h1 h2.1 h3 (by rw [ek]; exact w1) (by rw [w2]; exact hr), ?_⟩
    exact fun z => (List.mem_cons.mp z).elim (fun e => ne_sys hp q e.symm) hn
theorem rpA_reads (hp : P sysModules = true) (I : Inv X pins σ H s) : ∀ {ds : List PyData} {vs : List V} {us : List Value}, RpA X.K (hide P H) ds vs → Vals vs us → ∃ as, ReadsAll s.heap us ds as ∧ sysModules ∉ as
  | [], vs, us, h, r => by
    rw [show vs = [] from h] at r
    cases r
    exact ⟨_, .nil, List.not_mem_nil⟩
  | d :: ds, vs, us, ⟨v, q, e, h, t⟩, r => by
    rw [e] at r
    cases r with
    | cons r1 r2 =>
      obtain ⟨as, q1, n1⟩ := rp_reads hp I h r1
      obtain ⟨bs, q2, n2⟩ := rpA_reads hp I t r2
      exact ⟨_, .cons q1 q2, fun z => (List.mem_append.mp z).elim n1 n2⟩
theorem rpK_reads (hp : P sysModules = true) (I : Inv X pins σ H s) : ∀ {kvs : List (PyData × PyData)} {es : List (Key × V)} {vs : List (Key × Value)}, RpK X.K (hide P H) kvs es → KV es vs → ∃ as, ReadsAll s.heap (vs.map (·.2)) (kvs.map (·.2)) as ∧ sysModules ∉ as
  | [], es, vs, h, r => by
    rw [show es = [] from h] at r
    cases r
    exact ⟨_, .nil, List.not_mem_nil⟩
  | (k, d) :: kvs, es, vs, ⟨k', v, q, e, ek, h, t⟩, r => by
    rw [e] at r
    cases r with
    | cons r1 r2 =>
      obtain ⟨as, q1, n1⟩ := rp_reads hp I h r1.2
      obtain ⟨bs, q2, n2⟩ := rpK_reads hp I t r2
      exact ⟨_, .cons q1 q2, fun z => (List.mem_append.mp z).elim n1 n2⟩
theorem rpK_keys : ∀ {kvs : List (PyData × PyData)} {es : List (Key × V)} {vs : List (Key × Value)}, RpK X.K (hide P H) kvs es → KV es vs → kvs.map (·.1) = vs.map fun p => keyD p.1
  | [], es, vs, h, r => by
    rw [show es = [] from h] at r
    cases r
    rfl
  | (k, d) :: kvs, es, vs, ⟨k', v, q, e, ek, h, t⟩, r => by
    rw [e] at r
    cases r with
    | cons r1 r2 =>
      have e1 : k' = _ := r1.1
      rw [List.map_cons, List.map_cons, rpK_keys t r2, ek, e1]
end
end
/-- data whose text repr gives -/
structure Shows (d : PyData) : Prop where
  ok : d.showable = true
  len : d.shown.length ≤ sizeLine
  dep : d.depth ≤ 100
def fRepr : FL := fun ds R => ∃ d, ds = [.p d] ∧ Shows d ∧ R (.p (.str d.shown))
section
variable {X : Cx}
theorem cd_repr {k : Nat} (gd : X.A.guards = some []) (hr : Room k X.A) : CallR X (.builtin "repr") (upC (Cx.ky X) fRepr) := by
  intro pins s σ H xs us Q I rx ⟨ds, R, P, dm, r, ⟨d, e, sh, h⟩, k⟩
  subst e
  obtain ⟨v, rfl, r1⟩ := rvA1 r
  obtain ⟨u, rfl, ru⟩ := Vals.one rx
  have hz := sh.len
  cases d with
  | none =>
    rw [show v = .non from r1] at ru
    rw [show u = Value.none from ru]
    exact PySem.P.repr_of_none ⟨.str "None", H, I.tok _, ⟨_, rfl⟩, k _ H (.p (.str "None")) (Ext.refl H) rfl h⟩
  | bool b =>
    rw [show v = .bl b from r1] at ru
    rw [show u = Value.bool b from ru]
    exact PySem.P.repr_of_bool ⟨.str _, H, I.tok _, ⟨_, rfl⟩, k _ H (.p (.str _)) (Ext.refl H) rfl h⟩
  | int i =>
    rw [show v = .int i from r1] at ru
    obtain ⟨t, rfl⟩ := ru
    exact PySem.P.repr_of_int (of_decide_eq_true sh.ok) ⟨.str _, H, I.tok _, ⟨_, rfl⟩, k _ H (.p (.str _)) (Ext.refl H) rfl h⟩
  | str x =>
    rw [show v = .str x from r1] at ru
    obtain ⟨t, rfl⟩ := ru
    exact PySem.P.repr_of_str ⟨.str _, H, I.tok _, ⟨_, rfl⟩, k _ H (.p (.str _)) (Ext.refl H) rfl h⟩ hz
  | list xs =>
    obtain ⟨a, ys, e, q, ra⟩ := id r1
    subst e
    obtain rfl : u = Value.ref a := ru
    obtain ⟨as, hr2, hn⟩ := rp_reads dm.1 I r1 rfl
    exact repr_of_reads' hr2 sh.ok (fun _ => hn) gd (by have := hr.un; have := sh.dep; omega) (fun _ _ z => z) (fun h' t tk kp => ⟨.str _, H, I.kept kp, ⟨t, rfl⟩, k _ H (.p (.str _)) (Ext.refl H) rfl h⟩) hz
  | tuple xs =>
    obtain ⟨a, ys, e, q, ra⟩ := id r1
    subst e
    obtain rfl : u = Value.ref a := ru
    obtain ⟨as, hr2, hn⟩ := rp_reads dm.1 I r1 rfl
    exact repr_of_reads' hr2 sh.ok (fun _ => hn) gd (by have := hr.un; have := sh.dep; omega) (fun _ _ z => z) (fun h' t tk kp => ⟨.str _, H, I.kept kp, ⟨t, rfl⟩, k _ H (.p (.str _)) (Ext.refl H) rfl h⟩) hz
  | dict xs =>
    obtain ⟨a, ys, e, q, ra⟩ := id r1
    subst e
    obtain rfl : u = Value.ref a := ru
    obtain ⟨as, hr2, hn⟩ := rp_reads dm.1 I r1 rfl
    exact repr_of_reads' hr2 sh.ok (fun _ => hn) gd (by have := hr.un; have := sh.dep; omega) (fun _ _ z => z) (fun h' t tk kp => ⟨.str _, H, I.kept kp, ⟨t, rfl⟩, k _ H (.p (.str _)) (Ext.refl H) rfl h⟩) hz
end

/-! ### methods of texts -/
abbrev F1S := Str → DV → (DV → Prop) → Prop
def dM1 (f : F1S) (to te : TD) : TD := fun δ R => to δ fun d => asS d fun a => te δ fun e => f a e R
def dM0 (f : Str → (DV → Prop) → Prop) (to : TD) : TD := fun δ R => to δ fun d => asS d fun a => f a R
section
variable {X : Cx} {o e : Expr} {to te : TD}
theorem de_m1 {id : String} {name : Str} {apos pos : Pos} {r : V → List V → Hp → VK → Prop} {f : F1S} (slot : Slot "str" name id) (ty : typeOf (.builtin id) = pure (.type "method_descriptor")) (rule : MtR X id r)
    (hf : ∀ a y H Q, upO (Cx.ky X) (fun d e R => asS d fun a => f a e R) (.str a) y H Q → r (.str a) [y] H Q) (ho : PE X o (up (Cx.ky X) to)) (he : PE X e (up (Cx.ky X) te))
    (hs : starEach [e] X.env = [(false, eval e X.env)] := by rfl) (hbase : attributeBase o name X.env (eval o X.env) = eval o X.env := by rfl) (hline : (apos.endLine == pos.line) = true := by rfl) :
    PE X (.Call (.Attribute o name apos) [e] [] pos) (up (Cx.ky X) (dM1 f to te)) := by
  refine PE.imp (pe_m1 slot ty rule ho he hs hbase hline) fun σ H Q ⟨δ, R, c, L, es, h, k⟩ => ⟨δ, _, c, L, es, h, fun v H1 d x1 r1 h1 => ?_⟩
  obtain ⟨a, rfl, h2⟩ := asS_of h1
  have ev : v = .str a := r1
  subst ev
  refine ⟨⟨a, rfl⟩, ⟨δ, _, c, L, es.on x1, h2, fun u H2 e x2 r2 h3 => hf a u H2 Q ?_⟩⟩
  exact ⟨.p (.str a), e, R, _, (es.on (x1.trans x2)).dom, rfl, r2, h3, fun z H3 w x3 q1 q2 => k z H3 w (x1.trans (x2.trans x3)) q1 q2⟩
theorem de_m0 {id : String} {name : Str} {apos pos : Pos} {r : V → List V → Hp → VK → Prop} {f : Str → (DV → Prop) → Prop} (slot : Slot "str" name id) (ty : typeOf (.builtin id) = pure (.type "method_descriptor")) (rule : MtR X id r)
    (hf : ∀ a H Q, upU (Cx.ky X) (fun d R => asS d fun a => f a R) (.str a) H Q → r (.str a) [] H Q) (ho : PE X o (up (Cx.ky X) to))
    (hbase : attributeBase o name X.env (eval o X.env) = eval o X.env := by rfl) (hline : (apos.endLine == pos.line) = true := by rfl) :
    PE X (.Call (.Attribute o name apos) [] [] pos) (up (Cx.ky X) (dM0 f to)) := by
  refine PE.imp (pe_m0 slot ty rule ho hbase hline) fun σ H Q ⟨δ, R, c, L, es, h, k⟩ => ⟨δ, _, c, L, es, h, fun v H1 d x1 r1 h1 => ?_⟩
  obtain ⟨a, rfl, h2⟩ := asS_of h1
  have ev : v = .str a := r1
  subst ev
  exact ⟨⟨a, rfl⟩, hf a H1 Q ⟨.p (.str a), R, _, (es.on x1).dom, rfl, h2, fun z H3 w x3 q1 q2 => k z H3 w (x1.trans x3) q1 q2⟩⟩
/-- what a method of two texts asks, its answer by g -/
def fSS (g : Str → Str → PyData) : F1S := fun a e R => asS e fun b => R (.p (g a b))
theorem ss_of {κ : Ky} {g : Str → Str → PyData} {a : Str} {y : V} {H : Hp} {Q : VK} (h : upO κ (fun d e R => asS d fun a => fSS g a e R) (.str a) y H Q) : ∃ b, y = .str b ∧ ∀ v, Rv κ H (.p (g a b)) v → (∀ P, Rv κ (hide P H) (.p (g a b)) v) → Q v H := by
  obtain ⟨d, e, R, P, dm, r1, r2, h1, k⟩ := h
  obtain ⟨a', rfl, h2⟩ := asS_of h1
  obtain ⟨b, rfl, h3⟩ := asS_of h2
  have ea : V.str a = .str a' := r1
  cases ea
  exact ⟨b, r2, fun v _ q => k v H (.p (g a b)) (Ext.refl H) (q P) h3⟩
theorem de_startswith {apos pos : Pos} (ho : PE X o (up (Cx.ky X) to)) (he : PE X e (up (Cx.ky X) te)) (hs : starEach [e] X.env = [(false, eval e X.env)] := by rfl) (hbase : attributeBase o "startswith" X.env (eval o X.env) = eval o X.env := by rfl) (hline : (apos.endLine == pos.line) = true := by rfl) :
    PE X (.Call (.Attribute o "startswith" apos) [e] [] pos) (up (Cx.ky X) (dM1 (fSS fun a b => .bool (Txt.startswith a b)) to te)) :=
  de_m1 PySem.F.slot_str_startswith PySem.F.type_str_startswith mt_startswith (fun a y H Q h => by
    obtain ⟨b, e, k⟩ := ss_of h
    exact ⟨a, b, rfl, by rw [e], k _ rfl fun _ => rfl⟩) ho he hs hbase hline
theorem de_endswith {apos pos : Pos} (ho : PE X o (up (Cx.ky X) to)) (he : PE X e (up (Cx.ky X) te)) (hs : starEach [e] X.env = [(false, eval e X.env)] := by rfl) (hbase : attributeBase o "endswith" X.env (eval o X.env) = eval o X.env := by rfl) (hline : (apos.endLine == pos.line) = true := by rfl) :
    PE X (.Call (.Attribute o "endswith" apos) [e] [] pos) (up (Cx.ky X) (dM1 (fSS fun a b => .bool (Txt.endswith a b)) to te)) :=
  de_m1 PySem.F.slot_str_endswith PySem.F.type_str_endswith mt_endswith (fun a y H Q h => by
    obtain ⟨b, e, k⟩ := ss_of h
    exact ⟨a, b, rfl, by rw [e], k _ rfl fun _ => rfl⟩) ho he hs hbase hline
def fJoin : F1S := fun a e R => ∃ ys : List Str, (e = .p (.list (ys.map .str)) ∨ e = .p (.tuple (ys.map .str))) ∧ (ys.map (·.length)).sum + ys.length * a.length ≤ 16777216 ∧ R (.p (.str (Txt.join a ys)))
theorem rpA_strs {K : PySem.W.Frag} {H : Hp} : ∀ {ys : List Str} {vs : List V}, RpA K H (ys.map .str) vs → vs = ys.map V.str
  | [], _, h => h
  | b :: bs, _, ⟨v, r, e, h, t⟩ => by rw [e, show v = .str b from h, rpA_strs t]; rfl
theorem de_join {apos pos : Pos} (ho : PE X o (up (Cx.ky X) to)) (he : PE X e (up (Cx.ky X) te)) (hs : starEach [e] X.env = [(false, eval e X.env)] := by rfl) (hbase : attributeBase o "join" X.env (eval o X.env) = eval o X.env := by rfl) (hline : (apos.endLine == pos.line) = true := by rfl) :
    PE X (.Call (.Attribute o "join" apos) [e] [] pos) (up (Cx.ky X) (dM1 fJoin to te)) :=
  de_m1 PySem.F.slot_str_join PySem.F.type_str_join mt_join (fun a y H Q ⟨d, e, R, P, dm, r1, r2, h1, k⟩ => by
    obtain ⟨a', rfl, ys, he, hz, h3⟩ := asS_of h1
    have ea : V.str a = .str a' := r1
    cases ea
    rcases he with he | he
    · subst he
      obtain ⟨p, xs, e, q, ra⟩ := r2
      exact ⟨a, p, ys, rfl, by rw [e], .inl (SqL.of (by rw [← rpA_strs ra]; exact ((hide_ext P H).lst q).at_)), hz, k _ H (.p (.str (Txt.join a ys))) (Ext.refl H) rfl h3⟩
    · subst he
      obtain ⟨p, xs, e, q, ra⟩ := r2
      exact ⟨a, p, ys, rfl, by rw [e], .inr (by rw [← rpA_strs ra]; exact (hide_ext P H).seqT q), hz, k _ H (.p (.str (Txt.join a ys))) (Ext.refl H) rfl h3⟩) ho he hs hbase hline
end

/-! ### in -/
def flatD : PyData → Bool
  | .none => true | .bool _ => true | .int _ => true | .str _ => true
  | _ => false
/-- == of flat data -/
def eqF : PyData → PyData → Bool := PyData.eqv
def hasD (x : PyData) (ys : List PyData) : Bool := ys.any fun y => eqF y x
def fIn (neg : Bool) : F2 := fun d e R => asP d fun x => ∃ ys, (e = .p (.list ys) ∨ e = .p (.tuple ys)) ∧ flatD x = true ∧ ys.all flatD = true ∧ R (.p (.bool (if neg then !hasD x ys else hasD x ys)))
def vF : PyData → V
  | .none => .non | .bool b => .bl b | .int i => .int i | .str x => .str x
  | _ => .non
theorem rp_flat {K : PySem.W.Frag} {H : Hp} : ∀ {d : PyData} {v : V}, Rp K H d v → flatD d = true → v = vF d ∧ flatV v = true
  | .none, v, h, _ => by rw [show v = .non from h]; exact ⟨rfl, rfl⟩
  | .bool b, v, h, _ => by rw [show v = .bl b from h]; exact ⟨rfl, rfl⟩
  | .int i, v, h, _ => by rw [show v = .int i from h]; exact ⟨rfl, rfl⟩
  | .str x, v, h, _ => by rw [show v = .str x from h]; exact ⟨rfl, rfl⟩
  | .list _, _, _, f => Bool.noConfusion f
  | .tuple _, _, _, f => Bool.noConfusion f
  | .dict _, _, _, f => Bool.noConfusion f
theorem eqV_flat {x y : PyData} (fx : flatD x = true) (fy : flatD y = true) : eqV (vF x) (vF y) = eqF x y := by
  cases x <;> first
    | exact Bool.noConfusion fx
    | (cases y <;> first
        | exact Bool.noConfusion fy
        | rfl
        | simp [eqV, eqF, PyData.eqv, vF])
theorem rpA_flat {K : PySem.W.Frag} {H : Hp} : ∀ {ds : List PyData} {vs : List V}, RpA K H ds vs → ds.all flatD = true → vs = ds.map vF ∧ vs.all flatV = true
  | [], vs, h, _ => by rw [show vs = [] from h]; exact ⟨rfl, rfl⟩
  | d :: ds, _, ⟨v, r, e, h, t⟩, f => by
    rw [List.all_cons, Bool.and_eq_true] at f
    obtain ⟨a1, a2⟩ := rp_flat h f.1
    obtain ⟨b1, b2⟩ := rpA_flat t f.2
    rw [e, a1, b1, List.map_cons, List.all_cons, ← a1, ← b1, a2, b2]
    exact ⟨rfl, rfl⟩
theorem inV_flat {x : PyData} (fx : flatD x = true) : ∀ {ds : List PyData}, ds.all flatD = true → inV (vF x) (ds.map vF) = hasD x ds
  | [], _ => rfl
  | d :: ds, f => by
    rw [List.all_cons, Bool.and_eq_true] at f
    have q := inV_flat fx f.2
    unfold inV hasD at q ⊢
    rw [List.map_cons, List.any_cons, List.any_cons, q, eqV_flat f.1 fx]
section
variable {X : Cx}
theorem up_in {κ : Ky} {neg : Bool} {x y : V} {H : Hp} {Q : VK} (h : upO κ (fIn neg) x y H Q) : rIn κ.K neg x y H Q := by
  obtain ⟨d, e, R, P, dm, r1, r2, h1, k⟩ := h
  obtain ⟨a, rfl, ys, he, fx, fs, h2⟩ := asP_of h1
  obtain ⟨a1, a2⟩ := rp_flat r1 fx
  have fin : ∀ (p : Addr) (xs : List V), RpA κ.K (hide P H) ys xs → xs.all flatV = true ∧ Q (.bl (if neg then !inV x xs else inV x xs)) H := fun p xs ra => by
    obtain ⟨b1, b2⟩ := rpA_flat ra fs
    refine ⟨b2, ?_⟩
    rw [a1, b1, inV_flat fx fs]
    exact k _ H (.p (.bool (if neg then !hasD a ys else hasD a ys))) (Ext.refl H) rfl h2
  rcases he with he | he
  · subst he
    obtain ⟨p, xs, e, q, ra⟩ := r2
    exact ⟨p, xs, e, .inl (SqL.of ((hide_ext P H).lst q).at_), a2, fin p xs ra⟩
  · subst he
    obtain ⟨p, xs, e, q, ra⟩ := r2
    exact ⟨p, xs, e, .inr ((hide_ext P H).seqT q), a2, fin p xs ra⟩
theorem od_in : OpR X (compareOp .In) (upO (Cx.ky X) (fIn false)) := OpR.imp op_in_seq fun x y H Q h => up_in h
theorem od_notin : OpR X (compareOp .NotIn) (upO (Cx.ky X) (fIn true)) := OpR.imp op_notIn_seq fun x y H Q h => up_in h
/-- a text in a text -/
def inS (x y : Str) : Bool := !(Builtin.Str.occurrences y x 0 y.length 1).isEmpty
def fInS : F2 := fun d e R => asS d fun x => asS e fun y => R (.p (.bool (inS x y)))
theorem od_inS : OpR X (compareOp .In) (upO (Cx.ky X) fInS) := OpR.imp op_in_str fun x y H Q ⟨d, e, R, P, dm, r1, r2, h1, k⟩ => by
  obtain ⟨a, rfl, h2⟩ := asS_of h1
  obtain ⟨b, rfl, h3⟩ := asS_of h2
  exact ⟨a, b, r1, r2, k _ H (.p (.bool (inS a b))) (Ext.refl H) rfl h3⟩

/-! ### repetition of a text, of a tuple -/
def fRepS : F2 := fun d e R => asS d fun x => asI e fun i => x.length ≤ 16 ∧ -(2 ^ 63) ≤ i ∧ i ≤ 1048576 ∧ R (.p (.str (Txt.mul x i)))
theorem od_repS : OpR X (binaryOp .Mult) (upO (Cx.ky X) fRepS) := by
  intro pins s σ H x y v u Q I rx ry ⟨d, e, R, P, dm, r1, r2, h1, k⟩
  obtain ⟨a, rfl, h2⟩ := asS_of h1
  obtain ⟨i, rfl, z1, z2, z3, h3⟩ := asI_of h2
  rw [show x = .str a from r1] at rx
  rw [show y = .int i from r2] at ry
  obtain ⟨t, rfl⟩ := rx
  obtain ⟨t', rfl⟩ := ry
  exact PySem.W.KXi.mul rfl z1 z2 (by simpa using z3) fun u k' _ _ => ⟨.str (Txt.mul a i), H, I.tok _, ⟨u, rfl⟩, k _ H (.p (.str (Txt.mul a i))) (Ext.refl H) rfl h3⟩
end
end MR

/-! Sets of keys by data. -/
namespace MR
open PySem PySem.Spec PyProof.Rows L2

theorem setG_held {P : Program} {w : World} {H : Hp} {h : Heap} {a : Addr} {S : Key → Bool} {n : Nat} (R : SetG w h a S n) : ObjOk P w H h a (SetGO w a S n) := by
  obtain ⟨ob, el, ep, tb, ho, r⟩ := id R
  exact ⟨R, ⟨ob, ho⟩, fun h1 h2 p k => SetG.keeps p k⟩
theorem setG_get {X : Cx} {pins : List (Addr × Obj)} {σ : Sg} {H : Hp} {s : Shared} {a : Addr} {S : Key → Bool} {n : Nat} (I : Inv X pins σ H s) (h : H a = some (SetGO X.w a S n)) : SetG X.w s.heap a S n := (I.hok a _ h).1
/-- the keys of what a set is made from -/
def keysOf (d : PyData) (ks : List Key) : Prop := match d with
  | .str x => ks = x.cps.toList.map fun c => Sum.inr ⟨#[c]⟩
  | .list ds => ds = ks.map keyD
  | .tuple ds => ds = ks.map keyD
  | _ => False
def fSetOf : FL := fun ds R => ∃ d ks, ds = [.p d] ∧ keysOf d ks ∧ ks.length + 1 < scanBound ∧ R (.set ks)
theorem rp_key {K : PySem.W.Frag} {H : Hp} {k : Key} {v : V} (h : Rp K H (keyD k) v) : v = kV k := by
  cases k with
  | inl i => exact h
  | inr x => exact h
theorem rel_key {k : Key} {u : Value} (r : RelV (kV k) u) : kOf u = some k := by
  cases k with
  | inl i =>
    obtain ⟨t, rfl⟩ := r
    rfl
  | inr x =>
    obtain ⟨t, rfl⟩ := r
    rfl
theorem vals_keys {K : PySem.W.Frag} {H : Hp} : ∀ {ks : List Key} {vs : List V} {us : List Value}, RpA K H (ks.map keyD) vs → Vals vs us → ∀ (i : Nat) (u : Value), us[i]? = some u → ∃ k, ks[i]? = some k ∧ kOf u = some k
  | [], vs, us, h, r, i, u, e => by
    rw [show vs = [] from h] at r
    cases r
    cases e
  | k :: ks, vs, us, ⟨v, q, ev, h, t⟩, r, i, u, e => by
    rw [ev] at r
    cases r with
    | cons r1 r2 => cases i with
      | zero =>
        cases e
        rw [rp_key h] at r1
        exact ⟨k, rfl, rel_key r1⟩
      | succ i => exact vals_keys t r2 i u e
theorem vals_len {K : PySem.W.Frag} {H : Hp} {ks : List Key} {vs : List V} {us : List Value} (h : RpA K H (ks.map keyD) vs) (r : Vals vs us) : us.length = ks.length := by
  rw [← r.length, ← h.len, List.length_map]
section
variable {X : Cx}
theorem laid_set {pins : List (Addr × Obj)} {σ : Sg} {H : Hp} {s : Shared} {h' : Heap} {tk n : Nat} {S : Key → Bool} (I : Inv X pins σ H s) (R : SetG X.w h' s.heap.objs.size S n) (k : ∀ b o, s.heap.get? b = some o → h'.get? b = some o) :
    Inv X pins σ (upd H s.heap.objs.size (SetGO X.w s.heap.objs.size S n)) { s with heap := h', toks := tk } := I.laid k (Nat.le_refl _) (setG_held R)
theorem cd_set (hc : X.calm = true) : CallR X (.type "set") (upC (Cx.ky X) fSetOf) := by
  intro pins s σ H xs us Q I rx ⟨ds, R, P, dm, r, ⟨d, ks, e, hk, hb, h⟩, k⟩
  subst e
  obtain ⟨v, rfl, r1⟩ := rvA1 r
  obtain ⟨u, rfl, ru⟩ := Vals.one rx
  have hN : H s.heap.objs.size = none := I.hok.fresh (Nat.le_refl _)
  have fin : ∀ (h' : Heap) (tk c : Nat), SetG X.w h' s.heap.objs.size (fun j => hasK ks j) c → c ≤ ks.length → (∀ b o, s.heap.get? b = some o → h'.get? b = some o) → EP X pins σ Q (.ref s.heap.objs.size) { s with heap := h', toks := tk } := fun h' tk c g _ kp =>
    ⟨.ref s.heap.objs.size, _, laid_set I g kp, rfl, k _ _ (.set ks) (Ext.new hN) ⟨_, c, rfl, fresh_at dm hN⟩ h⟩
  cases d with
  | str x =>
    rw [show v = .str x from r1] at ru
    obtain ⟨t, rfl⟩ := ru
    cases ha : x.cps.all (· < 128) with
    | true => exact call_set_ascii ks (I.ok.hd hc) ha hk hb fin
    | false => exact call_set_wide ks (I.ok.hd hc) ha hk hb fin
  | list ds =>
    obtain ⟨a, ys, e, q, ra⟩ := r1
    subst e
    obtain rfl : u = Value.ref a := ru
    obtain ⟨its, rv, pl, _⟩ := I.list (SqL.of ((hide_ext P H).lst q).at_)
    have hk' : ds = ks.map keyD := hk
    subst hk'
    exact call_set_list (items := its.toArray) ks (I.ok.hd hc) pl.isList (by rw [List.size_toArray]; exact vals_len ra rv) (fun i u e => vals_keys ra rv i u (by simpa using e)) hb fin
  | tuple ds =>
    obtain ⟨a, ys, e, q, ra⟩ := r1
    subst e
    obtain rfl : u = Value.ref a := ru
    obtain ⟨its, rv, pl, _⟩ := I.tuple ((hide_ext P H).seqT q)
    have hk' : ds = ks.map keyD := hk
    subst hk'
    exact call_set_tuple (items := its.toArray) ks (I.ok.hd hc) pl (by rw [List.size_toArray]; exact vals_len ra rv) (fun i u e => vals_keys ra rv i u (by simpa using e)) hb fin
  | _ => exact hk.elim
/-- k in a set -/
def fInK (neg : Bool) : F2 := fun d e R => ∃ k ks, d = .p (keyD k) ∧ e = .set ks ∧ R (.p (.bool (if neg then !hasK ks k else hasK ks k)))
theorem od_inK : OpR X (compareOp .In) (upO (Cx.ky X) (fInK false)) := by
  intro pins s σ H x y v u Q I rx ry ⟨d, e, R, P, dm, r1, r2, ⟨k, ks, e1, e2, h⟩, kk⟩
  subst e1 e2
  obtain ⟨a, n, rfl, ha⟩ := r2
  rw [rp_key r1] at rx
  obtain rfl : u = Value.ref a := ry
  have g := setG_get I (show H a = some (SetGO X.w a (hasK ks) n) from by
    unfold hide at ha
    split at ha
    · cases ha
    · exact ha)
  exact wpAny_inSet_of (knd := mixKind X.prog X.w) (kOf_is.mpr (rel_key rx)) (kOf_scan (rel_key rx)) g.toOf ⟨.bl (hasK ks k), H, I.tok _, rfl, kk _ H (.p (.bool (hasK ks k))) (Ext.refl H) rfl h⟩
theorem od_notinK : OpR X (compareOp .NotIn) (upO (Cx.ky X) (fInK true)) := by
  intro pins s σ H x y v u Q I rx ry ⟨d, e, R, P, dm, r1, r2, ⟨k, ks, e1, e2, h⟩, kk⟩
  subst e1 e2
  obtain ⟨a, n, rfl, ha⟩ := r2
  rw [rp_key r1] at rx
  obtain rfl : u = Value.ref a := ry
  have g := setG_get I (show H a = some (SetGO X.w a (hasK ks) n) from by
    unfold hide at ha
    split at ha
    · cases ha
    · exact ha)
  exact wpAny_notInSet_of (knd := mixKind X.prog X.w) (kOf_is.mpr (rel_key rx)) (kOf_scan (rel_key rx)) g.toOf ⟨.bl (!hasK ks k), H, I.tok _, rfl, kk _ H (.p (.bool (!hasK ks k))) (Ext.refl H) rfl h⟩
end

/-! ### sorted of a set of texts -/
/-- in order, each once -/
def RisS (xs : List Str) : Prop := xs.Pairwise fun a b => a.cps.toList < b.cps.toList
def fSortK : FL := fun ds R => ∃ ks : List Str, ds = [.set (ks.map Sum.inr)] ∧ ∀ zs, RisS zs → (∀ x, x ∈ zs ↔ x ∈ ks) → zs.length ≤ sizeLine → R (.p (.list (zs.map .str)))
theorem risS_of {ys : List Str} (nd : ys.Nodup) : RisS (ys.mergeSort (PySem.W.dataLe false PyData.str)) := by
  have e : (PySem.W.dataLe false PyData.str : Str → Str → Bool) = fun a b => decide (a.cps.toList ≤ b.cps.toList) := PySem.W.dataLe_str (β := Str) (fun b => b)
  rw [e]
  have s1 := List.pairwise_mergeSort (le := fun (a b : Str) => decide (a.cps.toList ≤ b.cps.toList)) (fun a b c h1 h2 => by
    have h1 := of_decide_eq_true h1
    have h2 := of_decide_eq_true h2
    exact decide_eq_true (Std.le_trans h1 h2)) (fun a b => by
    rcases Std.le_total (a := a.cps.toList) (b := b.cps.toList) with h | h
    · rw [decide_eq_true h]; rfl
    · rw [decide_eq_true h, Bool.or_true]) ys
  have nd2 : (ys.mergeSort fun (a b : Str) => decide (a.cps.toList ≤ b.cps.toList)).Nodup := (List.mergeSort_perm ys _).nodup_iff.mpr nd
  unfold RisS
  refine List.Pairwise.imp₂ (fun a b h1 h2 => ?_) s1 nd2
  have h1 := of_decide_eq_true h1
  exact Std.lt_of_le_of_ne h1 fun z => h2 (by
    cases a with | mk a => cases b with | mk b =>
    have z' : a.toList = b.toList := z
    rw [show a = b from Array.toList_inj.mp z'])
theorem each_vals : ∀ {us : List Value} {xs : List Str}, PySem.W.EachIs (fun v x => ∃ t, v = Value.str x t) us xs → Vals (xs.map V.str) us
  | _, _, .nil => .nil
  | _, _, .cons ⟨t, e⟩ r => .cons ⟨t, e⟩ (each_vals r)
theorem nP_strs (xs : List Str) : nP (xs.map .str) = true := by
  match xs with
  | [] => rfl
  | [_] => rfl
  | [_, _] => rfl
  | _ :: _ :: _ :: _ => rfl
theorem rpA_txt {K : PySem.W.Frag} {H : Hp} : ∀ xs : List Str, RpA K H (xs.map .str) (xs.map V.str)
  | [] => rfl
  | x :: xs => ⟨.str x, xs.map V.str, rfl, rfl, rpA_txt xs⟩
section
variable {X : Cx}
theorem cd_sortK {k : Nat} (hc : X.calm = true) (hr : Room k X.A) : CallR X (.builtin "sorted") (upC (Cx.ky X) fSortK) := by
  intro pins s σ H xs us Q I rx ⟨ds, R, P, dm, r, ⟨ks, e, h⟩, kk⟩
  subst e
  obtain ⟨v, q, e1, ⟨a, n, ev, ha⟩, e2⟩ := r
  have e3 : q = [] := e2
  subst e1 e3 ev
  obtain ⟨u, rfl, ru⟩ := Vals.one rx
  obtain rfl : u = Value.ref a := ru
  have g := setG_get I (show H a = some (SetGO X.w a (hasK (ks.map Sum.inr)) n) from by
    unfold hide at ha
    split at ha
    · cases ha
    · exact ha)
  refine sorted_setG g (I.ok.hd hc) (by have := hr.un; omega) (fun k hk => ?_) fun s' p out c zs kp hg ho hp hl each hz => ?_
  · obtain ⟨x, _, e⟩ := List.mem_map.mp (hasK_iff.mp hk)
    exact ⟨x, e.symm⟩
  · obtain ⟨ys, rfl, hyz, nd, mem⟩ := hz
    have hN : H p = none := I.hok.fresh hp
    have lenz : out.toList.length = (ys.mergeSort (PySem.W.dataLe false PyData.str)).length := each.length
    have hbd : (ys.mergeSort (PySem.W.dataLe false PyData.str)).length ≤ sizeLine := by
      rw [List.length_mergeSort]
      exact hyz
    have I2 : Inv X pins σ (upd H p (.lst ((ys.mergeSort (PySem.W.dataLe false PyData.str)).map V.str))) s' := by
      obtain ⟨h2, g2, d2, t2, o2⟩ := s'
      have eg : g2 = s.gens := hg
      have eo : o2 = s.os := ho
      subst eg eo
      have J := (I.laid (t' := t2) (o := .lst ((ys.mergeSort (PySem.W.dataLe false PyData.str)).map V.str)) kp hp ⟨by rw [List.length_map]; exact hbd, out.toList, c, each_vals each, by rw [Array.toArray_toList]; exact hl⟩)
      exact ⟨J.ok, J.os, J.bare, J.base, J.loc, J.cell, J.free, J.freeC, J.pin, J.hok, J.len⟩
    refine ⟨.ref p, _, I2, rfl, kk _ _ (.p (.list ((ys.mergeSort (PySem.W.dataLe false PyData.str)).map .str))) (Ext.new hN) (new_lst dm hN (rpA_txt _) (nP_strs _)) (h _ (risS_of nd) (fun x => ?_) hbd)⟩
    rw [(List.mergeSort_perm ys _).mem_iff, mem x, hasK_iff, List.mem_map]
    exact ⟨fun ⟨y, hy, e⟩ => Sum.inr.inj e ▸ hy, fun hx => ⟨x, hx, rfl⟩⟩
end
/-- such a list is the only one -/
theorem risS_one : ∀ {xs ys : List Str}, RisS xs → RisS ys → (∀ x, x ∈ xs ↔ x ∈ ys) → xs = ys := by
  intro xs
  induction xs with
  | nil =>
    intro ys _ _ h
    cases ys with
    | nil => rfl
    | cons y ys => exact absurd ((h y).mpr List.mem_cons_self) List.not_mem_nil
  | cons x xs ih =>
    intro ys hx hy h
    cases ys with
    | nil => exact absurd ((h x).mp List.mem_cons_self) List.not_mem_nil
    | cons y ys =>
      obtain ⟨x1, x2⟩ := List.pairwise_cons.mp hx
      obtain ⟨y1, y2⟩ := List.pairwise_cons.mp hy
      have irr : ∀ a : Str, ¬ a.cps.toList < a.cps.toList := fun a z => Std.lt_irrefl z
      have e : x = y := by
        rcases List.mem_cons.mp ((h x).mp List.mem_cons_self) with z | z
        · exact z
        · rcases List.mem_cons.mp ((h y).mpr List.mem_cons_self) with w | w
          · exact w.symm
          · exact absurd (Std.lt_trans (y1 x z) (x1 y w)) (irr y)
      subst e
      have t := ih x2 y2 fun z => by
        constructor
        · intro hz
          rcases List.mem_cons.mp ((h z).mp (List.mem_cons_of_mem _ hz)) with w | w
          · subst w
            exact absurd (x1 z hz) (irr z)
          · exact w
        · intro hz
          rcases List.mem_cons.mp ((h z).mpr (List.mem_cons_of_mem _ hz)) with w | w
          · subst w
            exact absurd (y1 z hz) (irr z)
          · exact w
      rw [t]
end MR

/-! Great ints, the script, the well of drawn numbers. -/
namespace MR
open PySem PySem.Spec PyProof.Rows L2

/-! ### bits -/
theorem Bd.mono {n m : Nat} {i : Int} (h : Bd n i) (l : n ≤ m) : Bd m i := let ⟨b, h0, h1, h2⟩ := h; ⟨b, h0, Nat.le_trans h1 l, h2⟩
theorem Bd.top {n : Nat} {i : Int} (h : Bd n i) : i.natAbs < 2 ^ n := let ⟨_, _, h1, h2⟩ := h; Nat.lt_of_lt_of_le h2 (Nat.pow_le_pow_right (by decide) h1)
theorem Bd.of {n : Nat} {i : Int} (h0 : 0 < n) (h : i.natAbs < 2 ^ n) : Bd n i := ⟨n, h0, Nat.le_refl _, h⟩
theorem Bd.mul {n m : Nat} {i j : Int} (h : Bd n i) (h' : Bd m j) : Bd (n + m) (i * j) := by
  obtain ⟨b, b0, b1, b2⟩ := h
  obtain ⟨c, c0, c1, c2⟩ := h'
  refine ⟨b + c, by omega, by omega, ?_⟩
  rw [Int.natAbs_mul, Nat.pow_add]
  exact Nat.mul_lt_mul'' b2 c2
theorem Bd.add {n : Nat} {i j : Int} (h : Bd n i) (h' : Bd n j) : Bd (n + 1) (i + j) := by
  obtain ⟨b, b0, b1, b2⟩ := h
  obtain ⟨c, c0, c1, c2⟩ := h'
  refine ⟨max b c + 1, by omega, by omega, ?_⟩
  have e1 : 2 ^ b ≤ 2 ^ max b c := Nat.pow_le_pow_right (by decide) (by omega)
  have e2 : 2 ^ c ≤ 2 ^ max b c := Nat.pow_le_pow_right (by decide) (by omega)
  have e3 := Int.natAbs_add_le i j
  rw [Nat.pow_succ]
  omega
theorem Bd.less {n : Nat} {i j : Int} (h : Bd n i) (l : j.natAbs ≤ i.natAbs) : Bd n j := let ⟨b, b0, b1, b2⟩ := h; ⟨b, b0, b1, Nat.lt_of_le_of_lt l b2⟩
theorem Bd.bits {n : Nat} {i : Int} (h : Bd n i) : Builtin.Int.intBits i ≤ n := let ⟨b, _, b1, b2⟩ := h; Nat.le_trans (intBits_le b2) b1
theorem Bd.ofBits {n : Nat} {i : Int} (h0 : 0 < n) (h : Builtin.Int.intBits i ≤ n) : Bd n i := by
  unfold Builtin.Int.intBits at h
  split at h
  · rename_i z
    have z' : i = 0 := by simpa using z
    exact ⟨1, by decide, h0, by rw [z']; decide⟩
  · exact ⟨i.natAbs.log2 + 1, by omega, by omega, Nat.lt_log2_self⟩
theorem Bd.mulOk {i j : Int} (h : Bd 30000000 i) (h' : Bd 30000000 j) : IntMulOk i j := by
  have a := h.bits
  have b := h'.bits
  unfold IntMulOk
  intro z
  rw [Bool.and_eq_true] at z
  have z2 := of_decide_eq_true (show decide (((Builtin.Int.intBits i + Builtin.Int.intBits j : Nat) : Int) > (bitsLine : Int)) = true from z.2)
  have e : bitsLine = 134217728 := by decide
  rw [e] at z2
  omega

/-! ### operations of great ints -/
abbrev CB (i j : Int) : Prop := Bd 30000000 i ∧ Bd 30000000 j
section
variable {X : Cx}
theorem od_mulB : OpR X (binaryOp .Mult) (upO (Cx.ky X) (fI CB fun i j => i * j)) := OpR.imp (opI (C := fun i j => CB i j) (g := fun i j => i * j) fun i j t u s Q E hc q => mul_int q (Bd.mulOk hc.1 hc.2)) fun x y H Q h => up_I h
abbrev CPw (i j : Int) : Prop := (j = 2 ∨ j = 3) ∧ Bd 40000000 i
theorem od_pow : OpR X (binaryOp .Pow) (upO (Cx.ky X) (fI CPw fun i j => i ^ j.toNat)) := OpR.imp (opI (C := fun i j => CPw i j) (g := fun i j => i ^ j.toNat) fun i j t u s Q E hc q => pow_int (by omega) (by
    have b := hc.2.bits
    rcases hc.1 with e | e <;> subst e <;> omega) q) fun x y H Q h => up_I h
end

/-! ### the script -/
def dScLen (t : TD) : TD := fun δ R => t δ fun d => ∃ ns, d = .scr ns ∧ R (.p (.int ns.length))
def fScIx : F2 := fun d e R => ∃ ns i y, d = .scr ns ∧ e = .p (.int i) ∧ atI ns i = some y ∧ R (.p (.int y))
def dItSc (t : TD) : TDI := fun δ R => t δ fun d => ∃ ns, d = .scr ns ∧ R (ns.map .int)
def fLenS : FL := fun ds R => ∃ ns, ds = [.scr ns] ∧ R (.p (.int ns.length))
theorem atI_map {α β : Type} {f : α → β} {xs : List α} {i : Int} {y : α} (h : atI xs i = some y) : atI (xs.map f) i = some (f y) := by
  unfold atI at h ⊢
  rw [List.length_map]
  cases e : ixN xs.length i with
  | none => rw [e] at h; cases h
  | some j =>
    rw [e] at h
    have h' : xs[j]? = some y := h
    show (xs.map f)[j]? = some (f y)
    rw [List.getElem?_map, h']
    rfl
section
variable {X : Cx} {tg e a b : Expr} {ta tb : TD} {pos : Pos}
theorem cd_lenS : CallR X (.builtin "len") (upC (Cx.ky X) fLenS) := CallR.imp call_len_seq fun xs H Q ⟨ds, R, P, dm, r, ⟨ns, e, h⟩, k⟩ => by
  subst e
  obtain ⟨v, q, e1, ⟨a, ev, hs⟩, e2⟩ := r
  have e3 : q = [] := e2
  subst e1 e3 ev
  exact ⟨a, ns.map V.int, rfl, .inl (((hide_ext P H).seqL hs).1), by rw [List.length_map]; exact k _ H (.p (.int ns.length)) (Ext.refl H) rfl h⟩
theorem de_ixS (ha : PE X a (up (Cx.ky X) ta)) (hb : PE X b (up (Cx.ky X) tb)) (hs : PlainIx b := by exact fun _ _ => rfl) : PE X (.Subscript a b pos) (up (Cx.ky X) (dOp fScIx ta tb)) :=
  PE.imp (pe_ix (IxR.imp (r := upO (Cx.ky X) fScIx) ix_list fun x y H Q ⟨d, e, R, P, dm, r1, r2, ⟨ns, i, z, e1, e2, hz, h⟩, k⟩ => by
    subst e1 e2
    obtain ⟨p, ev, hs⟩ := r1
    exact ⟨p, ns.map V.int, i, .int z, ev, r2, ((hide_ext P H).seqL hs).1, atI_map hz, k _ H (.p (.int z)) (Ext.refl H) rfl h⟩) ha hb hs) fun _ _ _ h => up_op h
theorem itk_scr {κ : Ky} {a : Addr} {ns : List Int} : ItK κ (Itl κ.K a) (ns.map .int) [.scr ns] [.ref a] where
  go := fun H P' i _ r hi => by
    obtain ⟨v, r', e, ⟨a', ev, hq⟩, _⟩ := r
    cases e
    cases ev
    rw [List.length_map] at hi
    exact ⟨ns.map V.int, .int ns[i], ((hide_ext P' H).seqL hq).1, by rw [List.getElem?_map, List.getElem?_eq_getElem hi]; rfl⟩
  stop := fun H P' i _ r hi => by
    obtain ⟨v, r', e, ⟨a', ev, hq⟩, _⟩ := r
    cases e
    cases ev
    exact ⟨ns.map V.int, ((hide_ext P' H).seqL hq).1, by rw [List.length_map] at hi ⊢; exact hi⟩
  yld := fun H P' i x H2 _ r hi hy => by
    obtain ⟨v, r', e, ⟨a', ev, hq⟩, _⟩ := r
    cases e
    cases ev
    obtain ⟨rfl, f⟩ := hy
    have g := f _ (((hide_ext P' H2).seqL hq).1)
    rw [List.length_map] at hi
    rw [List.getElem?_map, List.getElem?_eq_getElem hi] at g
    cases g
    exact ⟨.int ns[i], by rw [List.getElem?_map, List.getElem?_eq_getElem hi]; rfl, Ext.refl _, rfl⟩
theorem di_scr (he : PE X e (up (Cx.ky X) ta)) : PI X tg e (upI (Cx.ky X) (dItSc ta)) := by
  refine PI.imp (pi_list he) fun σ H R ⟨δ, R', c, L, es, h, k⟩ => ⟨δ, _, c, L, es, h, fun v H1 d x1 r1 ⟨ns, e1, h2⟩ => ?_⟩
  subst e1
  obtain ⟨a, e, q⟩ := id r1
  subst e
  exact ⟨a, rfl, ⟨_, ((hide_ext _ _).seqL q).1⟩, k _ H1 (ns.map .int) [.scr ns] [.ref a] x1 ⟨_, [], rfl, r1, rfl⟩ itk_scr h2⟩
end

/-! ### the well -/
def wellO (i j : Int) : HO := .lst [.int i, .int j]
abbrev WI (i : Int) : Prop := 0 ≤ i ∧ Bd 2000000 i
abbrev WJ (j : Int) : Prop := 0 ≤ j ∧ j < 4294967296
def dWell (t u : TD) : TD := fun δ R => t δ fun d => u δ fun e => asI d fun i => asI e fun j => WI i ∧ WJ j ∧ R .well
/-- what stands in the well: nothing more is told of it than that it is in bounds -/
def dDig (t : TD) : TD := fun δ R => t δ fun d => d = .well ∧ ∀ i, WI i → R (.p (.int i))
def dMix (t : TD) : TD := fun δ R => t δ fun d => d = .well ∧ ∀ j, WJ j → R (.p (.int j))
def dPutD (t u : TD) : TDS := fun E δ => u δ fun e => asI e fun i => t δ fun d => d = .well ∧ WI i ∧ E.nx δ
def dPutM (t u : TD) : TDS := fun E δ => u δ fun e => asI e fun j => t δ fun d => d = .well ∧ WJ j ∧ E.nx δ
theorem well_in {κ : Ky} {P : Addr → Bool} {H : Hp} {v : V} (h : Rv κ (hide P H) .well v) : ∃ a i j, v = .ref a ∧ P a = false ∧ H a = some (wellO i j) ∧ WI i ∧ WJ j := by
  obtain ⟨a, o, e, h1, i, j, rfl, w⟩ := h
  unfold hide at h1
  split at h1
  · cases h1
  · rename_i n
    exact ⟨a, i, j, e, Bool.eq_false_iff.mpr n, h1, ⟨w.1, w.2.1⟩, w.2.2⟩
theorem well_mk {i j : Int} (h : WI i) (h' : WJ j) : Well (wellO i j) := ⟨i, j, rfl, h.1, h.2, h'.1, h'.2⟩
theorem ext_well {H : Hp} {a : Addr} {i j i' j' : Int} (h : H a = some (wellO i j)) (w : WI i) (w' : WJ j) (u : WI i') (u' : WJ j') : Ext H (upd H a (wellO i' j')) := fun b o e => by
  by_cases hb : b = a
  · subst hb
    rw [h] at e
    cases e
    exact .inr ⟨well_mk w w', _, upd_same, well_mk u u'⟩
  · exact .inl (by rw [upd_ne hb]; exact e)
section
variable {X : Cx} {e : Expr} {t u : TD} {pos p1 : Pos} {j1 : _}
theorem de_dig (he : PE X e (up (Cx.ky X) t)) : PE X (.Subscript e (.Constant (.int 0) j1 p1) pos) (up (Cx.ky X) (dDig t)) := by
  refine PE.imp (pe_ix ix_list he pe_int (fun _ _ => rfl)) fun σ H Q ⟨δ, R, c, L, es, h, k⟩ => ⟨δ, _, c, L, es, h, fun v H1 d x1 r1 ⟨e1, h1⟩ => ?_⟩
  subst e1
  obtain ⟨a, i, j, ev, pa, ha, w, w'⟩ := well_in r1
  exact ⟨a, [.int i, .int j], 0, .int i, ev, rfl, SqL.of ha, rfl, k _ H1 (.p (.int i)) x1 rfl (h1 i w)⟩
theorem de_mix (he : PE X e (up (Cx.ky X) t)) : PE X (.Subscript e (.Constant (.int 1) j1 p1) pos) (up (Cx.ky X) (dMix t)) := by
  refine PE.imp (pe_ix ix_list he pe_int (fun _ _ => rfl)) fun σ H Q ⟨δ, R, c, L, es, h, k⟩ => ⟨δ, _, c, L, es, h, fun v H1 d x1 r1 ⟨e1, h1⟩ => ?_⟩
  subst e1
  obtain ⟨a, i, j, ev, pa, ha, w, w'⟩ := well_in r1
  exact ⟨a, [.int i, .int j], 1, .int j, ev, rfl, SqL.of ha, rfl, k _ H1 (.p (.int j)) x1 rfl (h1 j w')⟩
theorem ds_putD {value : Expr} {pos' : Pos} (he : PE X e (up (Cx.ky X) t)) (hv : PE X value (up (Cx.ky X) u)) (hs : swapsWithSole [.Subscript e (.Constant (.int 0) j1 p1) pos'] value pos.line X.env = pure false := by rfl) (hw : swappedStores [.Subscript e (.Constant (.int 0) j1 p1) pos'] value X.env = pure none := by rfl) :
    PS X (.Assign [.Subscript e (.Constant (.int 0) j1 p1) pos'] value pos) (upS (Cx.ky X) (dPutD t u)) := by
  refine PS.imp (ps_asg hv (pg_sub he pe_int set_list) hs hw) fun D σ H ⟨δ, E, c, L, es, h, f⟩ => ⟨δ, _, c, L, es, h, fun v H1 d x1 r1 h1 => ?_⟩
  obtain ⟨z, rfl, h2⟩ := asI_of h1
  refine ⟨δ, _, c, L, es.on x1, h2, fun w H2 d2 x2 r2 ⟨e2, wz, h3⟩ => ?_⟩
  subst e2
  obtain ⟨a, i, j, ev, pa, ha, wi, wj⟩ := well_in r2
  have ev2 : v = .int z := r1
  subst ev2
  exact ⟨a, [.int i, .int j], 0, 0, ev, rfl, ha, rfl, f.nx δ σ _ L ((es.on (x1.trans x2)).on (ext_well ha wi wj wz wj)) h3⟩
theorem ds_putM {value : Expr} {pos' : Pos} (he : PE X e (up (Cx.ky X) t)) (hv : PE X value (up (Cx.ky X) u)) (hs : swapsWithSole [.Subscript e (.Constant (.int 1) j1 p1) pos'] value pos.line X.env = pure false := by rfl) (hw : swappedStores [.Subscript e (.Constant (.int 1) j1 p1) pos'] value X.env = pure none := by rfl) :
    PS X (.Assign [.Subscript e (.Constant (.int 1) j1 p1) pos'] value pos) (upS (Cx.ky X) (dPutM t u)) := by
  refine PS.imp (ps_asg hv (pg_sub he pe_int set_list) hs hw) fun D σ H ⟨δ, E, c, L, es, h, f⟩ => ⟨δ, _, c, L, es, h, fun v H1 d x1 r1 h1 => ?_⟩
  obtain ⟨z, rfl, h2⟩ := asI_of h1
  refine ⟨δ, _, c, L, es.on x1, h2, fun w H2 d2 x2 r2 ⟨e2, wz, h3⟩ => ?_⟩
  subst e2
  obtain ⟨a, i, j, ev, pa, ha, wi, wj⟩ := well_in r2
  have ev2 : v = .int z := r1
  subst ev2
  exact ⟨a, [.int i, .int j], 1, 1, ev, rfl, ha, rfl, f.nx δ σ _ L ((es.on (x1.trans x2)).on (ext_well ha wi wj wi wz)) h3⟩
/-- [e, e2], the well -/
theorem de_well {e2 : Expr} (h1 : PE X e (up (Cx.ky X) t)) (h2 : PE X e2 (up (Cx.ky X) u)) (hs : starEach [e, e2] X.env = (false, eval e X.env) :: starEach [e2] X.env := by rfl) (hs2 : starEach [e2] X.env = (false, eval e2 X.env) :: starEach [] X.env := by rfl) : PE X (.List [e, e2] pos) (up (Cx.ky X) (dWell t u)) := by
  refine PE.imp (pe_lst (da_cons h1 (da_cons h2 da_nil hs2) hs)) fun σ H Q ⟨δ, R, c, L, es, h, k⟩ => ⟨δ, fun ds => (match ds with | [d, e] => asI d fun i => asI e fun j => WI i ∧ WJ j ∧ R .well | _ => False), c, L, es, h, fun vs H1 ds x1 r1 h1 => ?_⟩
  obtain ⟨i, j, rfl, wi, wj, hr⟩ : ∃ i j, ds = [.p (.int i), .p (.int j)] ∧ WI i ∧ WJ j ∧ R .well := by
    match ds, h1 with
    | [d, e], h1 =>
      obtain ⟨i, rfl, h2⟩ := asI_of h1
      obtain ⟨j, rfl, h3⟩ := asI_of h2
      exact ⟨i, j, rfl, h3⟩
  obtain ⟨v, w, rfl, rv, rw'⟩ := rvA2 r1
  have ev : v = .int i := rv
  have ew : w = .int j := rw'
  subst ev ew
  exact ⟨by show 2 ≤ sizeLine; decide, fun p hp => k _ _ .well (x1.trans (Ext.new hp)) ⟨p, wellO i j, rfl, fresh_at (es.on x1).dom hp, well_mk wi wj⟩ hr⟩
end
end MR

/-! A law's end for promises by data. -/
namespace MR
open PySem PySem.Spec PyProof.Rows L2
/-- what law(script) promises -/
def fLaw : FL := fun ds R => ∃ ns, ds = [.scr ns] ∧ ns.length ≤ 63 ∧ (∀ n ∈ ns, Bd 1048576 n) ∧ R (.p (.bool true))
theorem law_goes {P : Program} {w : World} {K : PySem.W.Frag} {mg mb : Str → Option Value} {k : Nat} {fa a : Addr} {fd : FuncData} {s₁ : Shared} {vs : List Value} {ns : List Int}
    (inK : K.In s₁.heap) (main : s₁.heap.Ns mainGlobals mg) (blt : s₁.heap.Ns builtinsNs mb) (boot : ∀ x : Str, x ≠ "__name__" → mb x = bootBuiltins x) (limit : s₁.heap.NoLimit) (nogen : s₁.gens = #[])
    (sys : ∃ mm, s₁.heap.Ns sysModules mm) (offK : K.lookup sysModules = none)
    (there : s₁.heap.get? a = some { cls := .type "list", data := .seq vs.toArray }) (areI : IntsAre vs ns) (short : ns.length ≤ 63) (bits : ∀ z ∈ ns, Builtin.Int.intBits z ≤ 1048576) (room : Room k callerA)
    (F : ∀ base : Heap, K.In base → base.Ns mainGlobals mg → FnG P w K mg base CX0 k fa fd ["script"] (spD ⟨K, P, w⟩ fLaw)) (bind : ∀ (s : Shared) (u : Value), BindsTo s fd ⟨[u], []⟩ [("script", u)]) :
    codeAny (model P w) callerA (.call (.ref fa) ⟨[.ref a], []⟩) (fun r s' => r = .ok (.ret (.bool true)) ∧ OldK s₁.heap s'.heap ∧ s'.os = s₁.os ∧ AllBare s'.gens) s₁ := by
  obtain ⟨mm, osys, ess, eps, sysAt, sysD, _⟩ := sys
  have rel := vals_ints areI
  have lenV := areI.length
  have aS : a ≠ sysModules := fun e => by
    subst e
    rw [there] at sysAt
    cases sysAt
    cases sysD
  -- what is tracked: the table of modules, and the script where it is none of the module's own objects
  let scr : HO := .frz { cls := .type "list", data := .seq vs.toArray } (.lst (ns.map V.int))
  let H : Hp := fun b => if b = sysModules then some (.frz osys (.own 0)) else if b = a ∧ K.lookup a = none then some scr else none
  have hS : H sysModules = some (.frz osys (.own 0)) := if_pos rfl
  have cases_ : ∀ {b : Addr} {u : HO}, H b = some u → (b = sysModules ∧ u = .frz osys (.own 0)) ∨ (b = a ∧ K.lookup a = none ∧ u = scr) := fun {b u} e => by
    by_cases h1 : b = sysModules
    · have z := (if_pos h1).symm.trans e
      exact .inl ⟨h1, (Option.some.inj z).symm⟩
    · have z := (if_neg h1).symm.trans e
      by_cases h2 : b = a ∧ K.lookup a = none
      · have z2 := (if_pos h2).symm.trans z
        exact .inr ⟨h2.1, h2.2, (Option.some.inj z2).symm⟩
      · have z2 := (if_neg h2).symm.trans z
        cases z2
  have held : HOk P w H s₁.heap := fun b u e => by
    rcases cases_ e with ⟨rfl, rfl⟩ | ⟨rfl, _, rfl⟩
    · exact ⟨sysAt, osys, sysAt⟩
    · exact ⟨there, by rw [List.length_map]; exact Nat.le_trans short (by decide), vs, _, rel, there⟩
  have offD : ∀ {b : Addr} {o : Obj} {es : Array DictEntry} {ep : Nat}, b ≠ sysModules → s₁.heap.get? b = some o → o.data = .dict es ep → H b = none := fun {b o es ep} nb e d => by
    cases q : H b with
    | none => rfl
    | some u =>
      rcases cases_ q with ⟨z, _⟩ | ⟨z, _, _⟩
      · exact absurd z nb
      · subst z
        rw [there] at e
        cases e
        cases d
  have keepNs : ∀ {b : Addr} {m : Str → Option Value}, b ≠ sysModules → s₁.heap.Ns b m → (hidT s₁.heap H).Ns b m := fun {b m} nb ⟨o, es, ep, e, d, r⟩ => ⟨o, es, ep, hidT_get e (offD nb e d), d, r⟩
  have inB : K.In (hidT s₁.heap H) := fun b o e => hidT_get (inK b o e) (by
    cases q : H b with
    | none => rfl
    | some u =>
      rcases cases_ q with ⟨z, _⟩ | ⟨z, z2, _⟩
      · subst z
        rw [offK] at e
        cases e
      · subst z
        rw [z2] at e
        cases e)
  have modB : Mod K mg (hidT s₁.heap H) := ⟨inB, keepNs (by decide) main, ⟨mb, keepNs (by decide) blt, boot⟩, let ⟨mc, h1, h2⟩ := limit; ⟨mc, keepNs (by decide) h1, h2⟩⟩
  have env0 : Env0 P w K mg (hidT s₁.heap H) callerA [] s₁ H := ⟨rfl, modB, fun b o e => of_hidT e, Nat.le_of_eq (hidT_size _ _), trivial, fun b hb => absurd hb (by show b ∉ ([] : List Addr); exact List.not_mem_nil), held, .of_eq nogen⟩
  let Pv : Addr → Bool := fun b => decide (b = sysModules)
  have dm : Dom Pv H := ⟨decide_eq_true rfl, fun b e => by
    have e' : b = sysModules := of_decide_eq_true e
    rw [e', hS]
    exact Option.some_ne_none _⟩
  have hidA : hide Pv H a = H a := hide_at (decide_eq_false aS)
  have reads : SqF K (hide Pv H) a (ns.map V.int) := by
    cases hk : K.lookup a with
    | some o =>
      have e := inK a o hk
      rw [there] at e
      cases e
      have g : ∀ H' : Hp, SqL K H' a (ns.map V.int) := fun H' => .inr ⟨_, vs.toArray, _, hk, rfl, rfl, rfl, by rw [List.size_toArray, lenV]; exact Nat.le_trans short (by decide), by simpa using rel⟩
      exact ⟨g _, .inr g⟩
    | none =>
      have q : hide Pv H a = some (.frz { cls := .type "list", data := .seq vs.toArray } (.lst (ns.map V.int))) := by
        rw [hidA]
        show (if a = sysModules then _ else if a = a ∧ K.lookup a = none then some scr else none) = some scr
        rw [if_neg aS, if_pos ⟨rfl, hk⟩]
      exact ⟨.inl (.inr ⟨_, q⟩), .inl ⟨_, q⟩⟩
  have prom : spD ⟨K, P, w⟩ fLaw [.ref a] H (fun v _ => v = .bl true) (fun _ _ _ => False) :=
    ⟨[.scr ns], fun d => d = .p (.bool true), Pv, dm, ⟨.ref a, [], rfl, ⟨a, rfl, reads⟩, rfl⟩, ⟨ns, rfl, short, fun z hz => Bd.ofBits (by decide) (bits z hz), rfl⟩, fun v H' r _ q e => by
      subst e
      exact q⟩
  refine codeAny_mono ((F _ inB (keepNs (by decide) main)).go callerA rfl [] s₁ H ⟨[.ref a], []⟩ [.ref a] [.ref a] _ _ room env0 (bind s₁ (.ref a)) (.cons rfl .nil) prom) fun r s' h => ?_
  cases r with
  | error e => exact h.elim
  | ok fl =>
    cases fl with
    | next => exact h.elim
    | brk => exact h.elim
    | cont => exact h.elim
    | ret u =>
      obtain ⟨v, H', os, bare, un, held', r', q⟩ := h
      have q' : v = .bl true := q
      subst q'
      obtain rfl : u = Value.bool true := r'
      refine ⟨rfl, OldK.of_keep fun b o e => ?_, os, bare⟩
      cases q : H b with
      | none => exact un.keep b o e q (by show b ∉ ([] : List Addr); exact List.not_mem_nil) List.not_mem_nil
      | some x =>
        have fz : ∃ ob y, x = .frz ob y := by
          rcases cases_ q with ⟨_, z⟩ | ⟨_, _, z⟩
          · exact ⟨_, _, z⟩
          · exact ⟨_, _, z⟩
        obtain ⟨ob, y, rfl⟩ := fz
        have e1 := (held b _ q).1
        have e2 := (held' b _ (un.frzs b ob y q)).1
        rw [e] at e1
        cases e1
        exact e2
theorem walk_G {l : PySem.W.OpenLaw} {k : Nat} {q : Program} {loose : List Str} {XP : (Str → Option Value) → Heap → Prop} {YP : World → Heap → Prop} {d : DefRec} {K : Params → PySem.W.Frag}
    (hn : l.most = some 63) (hdf : d.params.defaults = []) (hq : importsNone q = true) (hr : Room k callerA) (hY : ∀ (w : World) (h : Heap), YP w h → (K w.params).In h)
    (F : ∀ (w : World) (mg : Str → Option Value) (fa : Addr) (h : Heap), (K w.params).In h → h.Ns mainGlobals mg → mg d.name = some (.ref fa) → (K w.params).lookup sysModules = none ∧
      ∃ fd : FuncData, (∀ (s : Shared) (u : Value), BindsTo s fd ⟨[u], []⟩ [("script", u)]) ∧
        ∀ base : Heap, (K w.params).In base → base.Ns mainGlobals mg → FnG l.prog w (K w.params) mg base CX0 k fa fd ["script"] (spD ⟨K w.params, l.prog, w⟩ fLaw)) :
    PySem.W.WalkO q loose XP YP l.row.toRowW d [] (fun f vs => PySem.call f vs) := by
  refine Att.attach_callB hn hdf fun w s₀ s₁ mg mb fa o pm cd doc a vs ns G Y ho hd hcd hmg hobj hints hlen hbits hg => ?_
  have KX := hY w _ Y
  obtain ⟨offK, fd, hb, hF⟩ := F w mg fa _ KX G.T.g hmg
  have sys := (G.T.seer hq).mods
  exact law_goes KX G.T.g G.T.b G.T.builtins G.T.nolimit hg (let ⟨mm, h1, _⟩ := sys; ⟨mm, h1⟩) offK hobj hints hlen hbits hr hF hb
end MR

/-! More statements; the rule for a def, the reading told behind the body. -/
namespace MR
open PySem PySem.Spec PyProof.Rows L2
section
variable {P : Program} {w : World} {K : PySem.W.Frag} {mg : Str → Option Value} {base : Heap}
theorem okB {x qual : Str} {st : Stmt} {f : Addr} {fd : FuncData} {N ps : List Str} {k : Nat} {g : FL} (F : Fun K x qual st f fd) (S : FnScope N ps (defScope st)) (len : ∀ ds R, g ds R → ds.length = ps.length)
    (hb : ∀ (cdv : Value) (A : Around), A.guards = some [] → ∀ (outer : List PySem.Env) (s : Shared) (H : Hp) (E : XK), Room k (A.deeper (envOfC qual (defScope st) s.heap.objs.size f cdv)) →
      ∃ t, PSs (cxOf CX0 P w K mg base N qual (defScope st) f cdv A outer s H E).nox (defBody st) (upS ⟨K, P, w⟩ t) ∧ ∀ ds R, g ds R → t { nx := fun _ => R (.p .none), rt := R } (startD N ds)) : FnG P w K mg base CX0 (k + 1) f fd ps (spD ⟨K, P, w⟩ g) := by
  refine fnG_of F S (fun vs H Q E ⟨ds, R, P, d, r, h, q⟩ => by rw [← r.len]; exact len ds R h) fun cdv A gd outer s H vs Q E room ⟨ds, R, P', d, r, h, q⟩ => ?_
  obtain ⟨t, ht, hr⟩ := hb cdv A gd outer s H E room
  refine ⟨_, ht.nox, startD N ds, _, ⟨H, P', [], [], fun _ => false⟩, _, es_start d r, hr ds R h, ⟨fun δ σ H' L es h' => ?_, fun v H' d' x r' h' => ?_, fun _ _ _ _ _ z => z.elim, fun _ _ _ _ _ z => z.elim, fun _ _ _ _ _ _ _ z => z.elim⟩⟩
  · exact q .non H' (.p .none) (es.ext.ext fun _ => rfl) rfl h'
  · exact q v H' d' (x.ext fun _ => rfl) r' h'
/-- a def's promise from a weaker one -/
theorem FnG.impD {k : Nat} {f : Addr} {fd : FuncData} {ps : List Str} {κ : Ky} {g g' : FL} (F : FnG P w K mg base CX0 k f fd ps (spD κ g)) (h : ∀ ds R, g' ds R → g ds R) : FnG P w K mg base CX0 k f fd ps (spD κ g') :=
  F.imp fun vs H Q E ⟨ds, R, Pv, dm, r, q, kk⟩ => ⟨ds, R, Pv, dm, r, h ds R q, kk⟩
end
section
variable {X : Cx} {a b e : Expr} {ta tb : TD} {pos : Pos}
theorem ud_neg : UnR X (unaryOp .USub) (upU (Cx.ky X) fun d R => asI d fun i => R (.p (.int (-i)))) := by
  intro pins s σ H x v Q I rx ⟨d, R, P, dm, r1, h, k⟩
  obtain ⟨i, rfl, h2⟩ := asI_of h
  exact un_neg pins s σ H x v Q I rx ⟨i, r1, k _ H (.p (.int (-i))) (Ext.refl H) rfl h2⟩
/-- a, b = x, y -/
def dPar (i j : Nat) (t : TL) : TDS := fun E δ => t δ fun ds => ∃ d e, ds = [d, e] ∧ E.nx ((δ.set i (.v d)).set j (.v e))
theorem ds_par {i j : Nat} {x y : Str} {t : TL} {px py pt : Pos} {kt k2 pt2} (hc : X.calm = true) (hN : X.N.Nodup) (hi : X.N[i]? = some x) (hj : X.N[j]? = some y) (hij : i ≠ j) (hx : X.env.scope.names.lookup x = some .local) (hy : X.env.scope.names.lookup y = some .local)
    (ha : PA X [a, b] (upA (Cx.ky X) t)) (h : ∀ {ta : TA}, PA X [a, b] ta → PS X (.Assign [.Tuple [.Name x px, .Name y py] kt pt] (.Tuple [a, b] k2 pt2) pos) (tPar i j ta)) : PS X (.Assign [.Tuple [.Name x px, .Name y py] kt pt] (.Tuple [a, b] k2 pt2) pos) (upS (Cx.ky X) (dPar i j t)) := by
  refine PS.imp (h ha) fun D σ H ⟨δ, E, c, L, es, hh, f⟩ => ⟨δ, _, c, L, es, hh, fun vs H1 ds x1 r1 ⟨d, e, e1, h2⟩ => ?_⟩
  subst e1
  obtain ⟨v, q, e1, r2, u, q2, e2, r3, e3⟩ := r1
  have e4 : q2 = [] := e3
  subst e4 e2 e1
  exact ⟨v, u, rfl, f.nx _ _ H1 L (((es.on x1).set r2).set r3) h2⟩
end
end MR

/-! More operations: == of what holds no dict, == with an empty list, small powers. -/
namespace MR
open PySem PySem.Spec PyProof.Rows L2
/-- d == e where no dict lies within -/
def fEqQ (neg : Bool) : F2 := fun d e R => asP d fun x => asP e fun y => x.plain = true ∧ y.plain = true ∧ min x.depth y.depth ≤ 60 ∧ R (.p (.bool (if neg then !PyData.eqv x y else PyData.eqv x y)))
/-- xs == [] -/
def fEqE (neg : Bool) : F2 := fun d e R => asL d fun xs => e = .p (.list []) ∧ R (.p (.bool (if neg then !xs.isEmpty else xs.isEmpty)))
abbrev CPwS (i j : Int) : Prop := 0 ≤ j ∧ j ≤ 100 ∧ i.natAbs ≤ 16
section
variable {X : Cx}
theorem od_eqQ (hu : X.A.units + 64 < cLine) : OpR X (compareOp .Eq) (upO (Cx.ky X) (fEqQ false)) := by
  intro pins s σ H x y v u Q I rx ry ⟨d, e, R, P, dm, r1, r2, h, k⟩
  obtain ⟨a, rfl, h0⟩ := asP_of h
  obtain ⟨b, rfl, h1, h2, h3, h4⟩ := asP_of h0
  obtain ⟨as, ra, _⟩ := rp_reads dm.1 I r1 rx
  obtain ⟨bs, rb, _⟩ := rp_reads dm.1 I r2 ry
  exact SeqAt.eq_plain ra rb h1 h2 (by omega) ⟨.bl _, H, I, rfl, k _ H (.p (.bool (PyData.eqv a b))) (Ext.refl H) rfl h4⟩
theorem od_neQ (hu : X.A.units + 64 < cLine) : OpR X (compareOp .NotEq) (upO (Cx.ky X) (fEqQ true)) := by
  intro pins s σ H x y v u Q I rx ry ⟨d, e, R, P, dm, r1, r2, h, k⟩
  obtain ⟨a, rfl, h0⟩ := asP_of h
  obtain ⟨b, rfl, h1, h2, h3, h4⟩ := asP_of h0
  obtain ⟨as, ra, _⟩ := rp_reads dm.1 I r1 rx
  obtain ⟨bs, rb, _⟩ := rp_reads dm.1 I r2 ry
  exact SeqAt.ne_plain ra rb h1 h2 (by omega) ⟨.bl _, H, I, rfl, k _ H (.p (.bool (!PyData.eqv a b))) (Ext.refl H) rfl h4⟩
theorem od_eqE (hu : X.A.units < cLine) : OpR X (compareOp .Eq) (upO (Cx.ky X) (fEqE false)) := by
  intro pins s σ H x y v u Q I rx ry ⟨d, e, R, P, dm, r1, r2, h, k⟩
  obtain ⟨xs, rfl, rfl, h1⟩ := asL_of h
  obtain ⟨as, ra, _⟩ := rp_reads dm.1 I r1 rx
  obtain ⟨bs, rb, _⟩ := rp_reads dm.1 I r2 ry
  have hq : EP X pins σ Q (.bool xs.isEmpty) s := ⟨.bl _, H, I, rfl, k _ H (.p (.bool xs.isEmpty)) (Ext.refl H) rfl h1⟩
  cases ra with
  | list a1 a2 a3 a4 => cases rb with
    | list b1 b2 b3 b4 =>
      have n1 := SeqAt.ReadsAll.length _ _ _ a4
      have n2 := SeqAt.ReadsAll.length _ _ _ b4
      rw [Array.length_toList] at n1 n2
      rw [List.length_nil] at n2
      cases xs with
      | nil =>
        rw [List.length_nil] at n1
        exact SeqAt.RcAt.lists (e := fun _ => true) ⟨_, a1, a2, _, a3⟩ ⟨_, b1, b2, _, b3⟩ (by omega) hu (fun j h1 h2 => absurd h1 (by omega)) _ _ _ _ (by rw [List.all_eq_true.mpr fun _ _ => rfl]; exact hq)
      | cons z zs =>
        rw [List.length_cons] at n1
        exact SeqAt.RcAt.lists_lengths ⟨_, a1, a2, _, a3⟩ ⟨_, b1, b2, _, b3⟩ (by simp; omega) hu _ _ _ _ hq
theorem od_neE (hu : X.A.units < cLine) : OpR X (compareOp .NotEq) (upO (Cx.ky X) (fEqE true)) := by
  intro pins s σ H x y v u Q I rx ry ⟨d, e, R, P, dm, r1, r2, h, k⟩
  obtain ⟨xs, rfl, rfl, h1⟩ := asL_of h
  obtain ⟨as, ra, _⟩ := rp_reads dm.1 I r1 rx
  obtain ⟨bs, rb, _⟩ := rp_reads dm.1 I r2 ry
  have hq : EP X pins σ Q (.bool (!xs.isEmpty)) s := ⟨.bl _, H, I, rfl, k _ H (.p (.bool (!xs.isEmpty))) (Ext.refl H) rfl h1⟩
  cases ra with
  | list a1 a2 a3 a4 => cases rb with
    | list b1 b2 b3 b4 =>
      have n1 := SeqAt.ReadsAll.length _ _ _ a4
      have n2 := SeqAt.ReadsAll.length _ _ _ b4
      rw [Array.length_toList] at n1 n2
      rw [List.length_nil] at n2
      cases xs with
      | nil =>
        rw [List.length_nil] at n1
        exact SeqAt.RcNeAt.lists (e := fun _ => true) ⟨_, a1, a2, _, a3⟩ ⟨_, b1, b2, _, b3⟩ (by omega) hu (fun j h1 h2 => absurd h1 (by omega)) _ _ _ _ (by rw [List.all_eq_true.mpr fun _ _ => rfl]; exact hq)
      | cons z zs =>
        rw [List.length_cons] at n1
        exact SeqAt.RcNeAt.lists_lengths ⟨_, a1, a2, _, a3⟩ ⟨_, b1, b2, _, b3⟩ (by simp; omega) hu _ _ _ _ hq
theorem od_powC : OpR X (binaryOp .Pow) (upO (Cx.ky X) (fI CPwS fun i j => i ^ j.toNat)) := OpR.imp (opI (C := fun i j => CPwS i j) (g := fun i j => i ^ j.toNat) fun i j t u s Q E hc q => pow_int hc.1 (by
    have b : Builtin.Int.intBits i ≤ 5 := Bd.bits (Bd.of (by decide) (Nat.lt_of_le_of_lt hc.2.2 (by decide)))
    have h1 := hc.1
    have h2 := hc.2.1
    have : (Builtin.Int.intBits i : Int) * j ≤ 5 * 100 := Int.mul_le_mul (by omega) h2 h1 (by decide)
    omega) q) fun x y H Q h => up_I h
end
section
variable {X : Cx} {a b c : Expr} {ta tb tc : TD} {pos : Pos}
theorem up_chain {κ : Ky} {f f' : F2} {σ : Sg} {H : Hp} {Q : VK} (h : up κ (dChain f f' ta tb tc) σ H Q) : tChain (upO κ f) (upO κ f') (up κ ta) (up κ tb) (up κ tc) σ H Q := by
  obtain ⟨δ, R, c, L, es, h, k⟩ := h
  refine ⟨δ, _, c, L, es, h, fun v H1 d x1 r1 h1 => ⟨δ, _, c, L, es.on x1, h1, fun u H2 e x2 r2 h2 => ?_⟩⟩
  refine ⟨d, e, _, _, (es.on (x1.trans x2)).dom, r1.ext (x2.hide _), r2, h2, fun z H3 r x3 q1 q2 => ?_⟩
  obtain ⟨b, rfl, q3⟩ := asB_of q2
  cases b with
  | true =>
    refine ⟨true, q1, ⟨δ, _, c, L, es.on (x1.trans (x2.trans x3)), q3, fun y H4 g x4 r4 h4 => ?_⟩⟩
    exact ⟨e, g, R, _, (es.on (x1.trans (x2.trans (x3.trans x4)))).dom, r2.ext ((x3.trans x4).hide _), r4, h4, fun z' H5 r' x5 q5 q6 => k z' H5 r' (x1.trans (x2.trans (x3.trans (x4.trans x5)))) q5 q6⟩
  | false => exact ⟨false, q1, k (.bl false) H3 (.p (.bool false)) (x1.trans (x2.trans x3)) rfl q3⟩
theorem dt_chain {op op' : CmpOp} {f f' : F2} (ho : OpR X (compareOp op) (upO (Cx.ky X) f)) (ho' : OpR X (compareOp op') (upO (Cx.ky X) f')) (ha : PE X a (up (Cx.ky X) ta)) (hb : PE X b (up (Cx.ky X) tb)) (hc : PE X c (up (Cx.ky X) tc)) (hm : lastMarks [op, op'] [b, c] = false := by with_unfolding_all rfl) :
    PT X (.Compare a [op, op'] [b, c] pos) (upT (Cx.ky X) (dB (dChain f f' ta tb tc))) := by
  refine PT.imp (pt_chain ho ho' ha hb hc hm) fun σ H Q ⟨δ, R, c, L, es, h, k⟩ => ?_
  refine up_chain ⟨δ, _, c, L, es, h, fun v H' d x r hd => ?_⟩
  obtain ⟨b, rfl, q⟩ := asB_of hd
  exact ⟨b, r, k b H' x q⟩
end
end MR

/-! Reading: the formulas of data, unfolded; walks with invariants; bounds of data. -/
namespace MR
open PySem PySem.Spec PyProof.Rows L2
theorem u1 {k : Nat} {A : Around} (hr : Room k A) : A.units + 1 < cLine := by
  have := hr.un
  omega
/-! ### isinstance, len -/
def isT (d : PyData) : Bool := match d with | .tuple _ => true | _ => false
def isS (d : PyData) : Bool := match d with | .str _ => true | _ => false
theorem isi_tuple {d : PyData} {R : DV → Prop} (h : R (.p (.bool (isT d)))) : fIsi [.p d, .raw (.ty "tuple")] R := ⟨d, "tuple", isT d, rfl, by cases d <;> rfl, h⟩
theorem isi_str {d : PyData} {R : DV → Prop} (h : R (.p (.bool (isS d)))) : fIsi [.p d, .raw (.ty "str")] R := ⟨d, "str", isS d, rfl, by cases d <;> rfl, h⟩
theorem len_str {x : Str} {R : DV → Prop} (hz : x.length ≤ sizeLine) (h : R (.p (.int x.length))) : fLen [.p (.str x)] R := ⟨_, _, rfl, rfl, hz, h⟩
theorem len_lst {x : List PyData} {R : DV → Prop} (hz : x.length ≤ sizeLine) (h : R (.p (.int x.length))) : fLen [.p (.list x)] R := ⟨_, _, rfl, rfl, hz, h⟩
theorem len_tup {x : List PyData} {R : DV → Prop} (hz : x.length ≤ sizeLine) (h : R (.p (.int x.length))) : fLen [.p (.tuple x)] R := ⟨_, _, rfl, rfl, hz, h⟩
theorem all_of {bs : List Bool} {R : DV → Prop} (h : R (.p (.bool (bs.all id)))) : fAll [.p (.list (bs.map .bool))] R := ⟨bs, rfl, h⟩
/-! ### walks -/
def nI (z : PyData) : Bool := match z with | .int _ => false | _ => true
theorem nP_app {z : PyData} (h : nI z = true) : ∀ acc : List PyData, nP (acc ++ [z]) = true
  | [] => by cases z <;> rfl
  | [a] => by
    cases z with
    | int i => cases h
    | _ => cases a <;> rfl
  | a :: b :: [] => by cases a <;> first | rfl | (cases b <;> rfl)
  | a :: b :: c :: r => by cases a <;> first | rfl | (cases b <;> rfl)
/-- a comprehension whose part is a function of the element -/
theorem lc_fm {g : TDG} {tt : TB} {te : TD} {δ : Dn} {fin : List PyData → Prop} (f : PyData → Option PyData) : ∀ (ds acc : List PyData),
    (∀ d ∈ ds, ∀ (K1 : PyData → Prop) (K2 : Prop), (match f d with | some z => K1 z | none => K2) → g (.p d) δ fun δ2 => tt δ2 fun b => if b = true then te δ2 fun y => asP y K1 else K2) →
    fin (acc ++ ds.filterMap f) → (∀ d ∈ ds, ∀ z, f d = some z → nI z = true) → lcL g tt te δ fin ds acc
  | [], acc, _, h, _ => by rw [List.filterMap_nil, List.append_nil] at h; exact h
  | d :: ds, acc, hd, h, hi => by
    refine hd d List.mem_cons_self _ _ ?_
    cases e : f d with
    | some z => exact ⟨nP_app (hi d List.mem_cons_self z e) acc, lc_fm f ds (acc ++ [z]) (fun d' m => hd d' (List.mem_cons_of_mem _ m)) (by rw [List.filterMap_cons_some e] at h; rw [List.append_assoc]; exact h) fun d' m => hi d' (List.mem_cons_of_mem _ m)⟩
    | none => exact lc_fm f ds acc (fun d' m => hd d' (List.mem_cons_of_mem _ m)) (by rw [List.filterMap_cons_none e] at h; exact h) fun d' m => hi d' (List.mem_cons_of_mem _ m)
theorem lc_map {g : TDG} {te : TD} {δ : Dn} {fin : List PyData → Prop} (f : PyData → PyData) {ds : List PyData}
    (hd : ∀ d ∈ ds, ∀ (K1 : PyData → Prop), K1 (f d) → g (.p d) δ fun δ2 => te δ2 fun y => asP y K1) (h : fin (ds.map f)) (hi : ∀ d ∈ ds, nI (f d) = true := by intros; rfl) : lcL g dYes te δ fin ds [] := by
  refine lc_fm (fun d => some (f d)) ds [] (fun d m K1 K2 hk => hd d m K1 hk) ?_ fun d m z e => ?_
  · rw [List.nil_append, List.filterMap_eq_map']
    exact h
  · cases e
    exact hi d m
/-- one whose part is any of some -/
theorem lc_rel {g : TDG} {te : TD} {δ : Dn} {fin : List PyData → Prop} (p : PyData → Prop) (hi : ∀ z, p z → nI z = true) : ∀ (ds acc : List PyData),
    (∀ d ∈ ds, ∀ (K1 : PyData → Prop), (∀ z, p z → K1 z) → g (.p d) δ fun δ2 => te δ2 fun y => asP y K1) →
    (∀ zs : List PyData, zs.length = ds.length → (∀ z ∈ zs, p z) → fin (acc ++ zs)) → lcL g dYes te δ fin ds acc
  | [], acc, _, h => by have := h [] rfl (by simp); rw [List.append_nil] at this; exact this
  | d :: ds, acc, hd, h => by
    refine hd d List.mem_cons_self _ fun z hz => ⟨nP_app (hi z hz) acc, ?_⟩
    exact lc_rel p hi ds (acc ++ [z]) (fun d' m => hd d' (List.mem_cons_of_mem _ m)) fun zs e hp => by
      rw [List.append_assoc]
      exact h (z :: zs) (by simp [e]) fun y hy => by
        rcases List.mem_cons.mp hy with e | m
        · rw [e]; exact hz
        · exact hp y m
/-- for, what stays -/
theorem for_inv {E : DE} {g : TDG} {tb : TDS} (I : Dn → Prop) : ∀ (ds : List PyData) (δ : Dn), I δ → (∀ d ∈ ds, ∀ δ', I δ' → ∀ (E' : DE), E'.rt = E.rt → (∀ δ2, I δ2 → E'.nx δ2) → (∀ δ2, I δ2 → E'.ct δ2) → (∀ δ2, E.nx δ2 → E'.bk δ2) → g (.p d) δ' fun δ2 => tb E' δ2) → (∀ δ', I δ' → E.nx δ') → forL E g tb ds δ
  | [], δ, h, _, he => he δ h
  | d :: ds, δ, h, hb, he => hb d List.mem_cons_self δ h _ rfl (fun δ2 h2 => for_inv I ds δ2 h2 (fun d' m => hb d' (List.mem_cons_of_mem _ m)) he) (fun δ2 h2 => for_inv I ds δ2 h2 (fun d' m => hb d' (List.mem_cons_of_mem _ m)) he) (fun _ h => h)
end MR

/-! A text compared with anything; tuples of texts; small repetitions; more built-ins. -/
namespace MR
open PySem PySem.Spec PyProof.Rows L2
section
open PySem.SeqAt PySem.MeetsSeq
theorem dict_no_str (l : Addr) (es : Array DictEntry) (ep : Nat) (dd : Option Addr) (sl : Array (Option Value)) (b : Str) (u : Tok) :
    Meets (Builtin.«dict.__eq__» ⟨[.ref l, .str b u], []⟩) (fun _ R s => s.heap.get? l = some { cls := .type "dict", dict := dd, data := .dict es ep, slots := sl } ∧ R (.ok (.ret .notImplemented)) s) :=
  .of_wp fun prog w A R s h => by obtain ⟨hp, g, d, tk, os⟩ := s; obtain ⟨hl, h⟩ := h; have f1 := F.sub_str_dict; wp_walk using wpAny_loadPart' hl, wpAny_load hl; exact ⟨_, rfl, h⟩
theorem str_no_dict (b : Str) (u : Tok) (l : Addr) (es : Array DictEntry) (ep : Nat) (dd : Option Addr) (sl : Array (Option Value)) :
    Meets (Builtin.«str.__eq__» ⟨[.str b u, .ref l], []⟩) (fun _ R s => s.heap.get? l = some { cls := .type "dict", dict := dd, data := .dict es ep, slots := sl } ∧ R (.ok (.ret .notImplemented)) s) :=
  .of_wp fun prog w A R s h => by obtain ⟨hp, g, d, tk, os⟩ := s; obtain ⟨hl, h⟩ := h; wp_walk using wpAny_loadPart' hl, wpAny_load hl; exact ⟨_, rfl, h⟩
variable {A : Around} {s : Shared}
theorem rc_dict_str {l : Addr} {o : Obj} {es : Array DictEntry} {ep : Nat} (b : Str) (u : Tok) (ho : s.heap.get? l = some o) (hc : o.cls = .type "dict") (hd : o.data = .dict es ep) (hu : A.units < cLine) : RcAt A s (.ref l) (.str b u) false := fun prog w E Q h => by
  obtain ⟨cls, dd, data, sl⟩ := o
  simp only at hc hd
  subst hc hd
  exact rc_eq_decline_or (k := false) ⟨_, ho, rfl⟩ (typeIs_str s b u) (by decide) F.sub_str_dict F.slot_dict_eq F.slot_str_eq_refl
    (fun _ hq => call_meets F.slot_dict_eq ⟨_, ho, rfl⟩ F.entry_dict_eq (F.args_dict_eq_2 _ _) (dict_no_str l es ep dd sl b u) ⟨ho, hq⟩)
    (fun _ hq => call_meets F.slot_str_eq_refl (typeIs_str s b u) F.entry_str_eq (F.args_str_eq_2 _ _) (str_no_dict b u l es ep dd sl) ⟨ho, hq⟩)
    (fun _ hq => wpAny_of_eq (rfl : isSame (.ref l) (.str b u) = pure false) hq) (.inr hu) h
theorem rc_str_dict {l : Addr} {o : Obj} {es : Array DictEntry} {ep : Nat} (b : Str) (u : Tok) (ho : s.heap.get? l = some o) (hc : o.cls = .type "dict") (hd : o.data = .dict es ep) (hu : A.units < cLine) : RcAt A s (.str b u) (.ref l) false := fun prog w E Q h => by
  obtain ⟨cls, dd, data, sl⟩ := o
  simp only at hc hd
  subst hc hd
  exact rc_eq_decline_or (k := false) (typeIs_str s b u) ⟨_, ho, rfl⟩ (by decide) F.sub_dict_str F.slot_str_eq F.slot_dict_eq_refl
    (fun _ hq => call_meets F.slot_str_eq (typeIs_str s b u) F.entry_str_eq (F.args_str_eq_2 _ _) (str_no_dict b u l es ep dd sl) ⟨ho, hq⟩)
    (fun _ hq => call_meets F.slot_dict_eq_refl ⟨_, ho, rfl⟩ F.entry_dict_eq (F.args_dict_eq_2 _ _) (dict_no_str l es ep dd sl b u) ⟨ho, hq⟩)
    (fun _ hq => wpAny_of_eq (rfl : isSame (.str b u) (.ref l) = pure false) hq) (.inr hu) h
theorem eq_str_dict {l : Addr} {o : Obj} {es : Array DictEntry} {ep : Nat} (b : Str) (u : Tok) (ho : s.heap.get? l = some o) (hc : o.cls = .type "dict") (hd : o.data = .dict es ep) (hu : A.units < cLine) : EqAt A s (.str b u) (.ref l) false := fun prog w E Q h => by
  unfold eqBool
  refine wpAny_holding ?_
  refine wpAny_ite_split (fun hab => absurd (eq_of_beq hab) nofun) (fun _ => ?_)
  exact wpAny_bind (rc_str_dict b u ho hc hd hu prog w E _ (wpAny_truthy_bool h))
/-- data == a text -/
def eqW (x : PyData) (y : Str) : Bool := match x with
  | .str z => decide (z = y)
  | _ => false
theorem eqv_sw {x : PyData} {y : Str} : PyData.eqv x (.str y) = eqW x y := by
  cases x with
  | str z =>
    simp only [PyData.eqv, eqW]
    by_cases h : z = y
    · subst h; rw [decide_eq_true rfl]; exact beq_self_eq_true z
    · rw [decide_eq_false h]; exact beq_eq_false_iff_ne.mpr h
  | _ => simp only [PyData.eqv, eqW]
theorem eqv_ws {x : PyData} {y : Str} : PyData.eqv (.str y) x = eqW x y := by
  cases x with
  | str z =>
    simp only [PyData.eqv, eqW]
    by_cases h : z = y
    · subst h; rw [decide_eq_true rfl]; exact beq_self_eq_true z
    · rw [decide_eq_false h]; exact beq_eq_false_iff_ne.mpr (Ne.symm h)
  | _ => simp only [PyData.eqv, eqW]
theorem rc_word {x : PyData} {v : Value} {as : List Addr} (y : Str) (t : Tok) (r : Reads s.heap v x as) (hu : A.units + 64 < cLine) : RcAt A s v (.str y t) (eqW x y) := by
  have ry : Reads s.heap (.str y t) (.str y) [] := .str y t
  cases r with
  | list h1 h2 h3 h4 => exact RcAt.list_str y t ⟨_, h1, h2, _, h3⟩ (by omega)
  | tuple h1 h2 h3 h4 => exact RcAt.tuple_str y t ⟨_, h1, h2, _, h3⟩ (by omega)
  | dict h1 h2 h3 h4 h5 => exact rc_dict_str y t h1 h2 h3 (by omega)
  | none => rw [← eqv_sw]; exact rcAt_plain (as := []) (bs := []) .none ry rfl rfl (by show A.units + min 0 0 < cLine; omega)
  | bool b => rw [← eqv_sw]; exact rcAt_plain (as := []) (bs := []) (.bool b) ry rfl rfl (by show A.units + min 0 0 < cLine; omega)
  | int i u => rw [← eqv_sw]; exact rcAt_plain (as := []) (bs := []) (.int i u) ry rfl rfl (by show A.units + min 0 0 < cLine; omega)
  | str z u => rw [← eqv_sw]; exact rcAt_plain (as := []) (bs := []) (.str z u) ry rfl rfl (by show A.units + min 0 0 < cLine; omega)
theorem eq_word {x : PyData} {v : Value} {as : List Addr} (y : Str) (t : Tok) (r : Reads s.heap v x as) (hu : A.units + 64 < cLine) : EqAt A s (.str y t) v (eqW x y) := by
  have ry : Reads s.heap (.str y t) (.str y) [] := .str y t
  cases r with
  | list h1 h2 h3 h4 => exact EqAt.str_list y t ⟨_, h1, h2, _, h3⟩ (by omega)
  | tuple h1 h2 h3 h4 => exact EqAt.str_tuple y t ⟨_, h1, h2, _, h3⟩ (by omega)
  | dict h1 h2 h3 h4 h5 => exact eq_str_dict y t h1 h2 h3 (by omega)
  | none => rw [← eqv_ws]; exact eqAt_plain _ _ _ _ _ _ [] [] ry .none rfl rfl (by show A.units + min 0 0 < cLine; omega)
  | bool b => rw [← eqv_ws]; exact eqAt_plain _ _ _ _ _ _ [] [] ry (.bool b) rfl rfl (by show A.units + min 0 0 < cLine; omega)
  | int i u => rw [← eqv_ws]; exact eqAt_plain _ _ _ _ _ _ [] [] ry (.int i u) rfl rfl (by show A.units + min 0 0 < cLine; omega)
  | str z u => rw [← eqv_ws]; exact eqAt_plain _ _ _ _ _ _ [] [] ry (.str z u) rfl rfl (by show A.units + min 0 0 < cLine; omega)
end
/-- == a text, whatever stands on the left -/
def fEqW : F2 := fun d e R => asP d fun x => asS e fun y => R (.p (.bool (eqW x y)))
/-- in a tuple of texts -/
def inW (x : PyData) (ys : List Str) : Bool := ys.any fun y => eqW x y
def fInW (neg : Bool) : F2 := fun d e R => asP d fun x => ∃ ys : List Str, e = .p (.tuple (ys.map .str)) ∧ R (.p (.bool (if neg then !inW x ys else inW x ys)))
theorem strs_vals {K : PySem.W.Frag} {H : Hp} : ∀ {ys : List Str} {vs : List V} {us : List Value}, RpA K H (ys.map .str) vs → Vals vs us → PySem.W.EachIs (fun v x => ∃ t, v = Value.str x t) us ys
  | [], vs, us, h, r => by
    rw [show vs = [] from h] at r
    cases r
    exact .nil
  | y :: ys, vs, us, ⟨v, q, e, h, t⟩, r => by
    rw [e] at r
    cases r with
    | cons r1 r2 =>
      rw [show v = .str y from h] at r1
      exact .cons r1 (strs_vals t r2)
def strOf (v : Value) : Str := match v with
  | .str x _ => x
  | _ => Str.empty
theorem each_mem {P : Value → Prop} : ∀ {us : List Value} {ys : List Str}, PySem.W.EachIs (fun v x => ∃ t, v = Value.str x t) us ys → (∀ x t, P (.str x t)) → ∀ u ∈ us, P u
  | _, _, .nil, _, u, h => absurd h List.not_mem_nil
  | _, _, .cons ⟨t, e⟩ r, hp, u, h => by
    rcases List.mem_cons.mp h with z | m
    · rw [z, e]; exact hp _ _
    · exact each_mem r hp u m
theorem each_any {x : PyData} : ∀ {us : List Value} {ys : List Str}, PySem.W.EachIs (fun v x => ∃ t, v = Value.str x t) us ys → (us.any fun u => eqW x (strOf u)) = inW x ys
  | _, _, .nil => rfl
  | _, _, .cons ⟨t, e⟩ r => by
    have ih := each_any (x := x) r
    unfold inW at ih ⊢
    rw [List.any_cons, List.any_cons, ih, e]
    rfl
section
variable {X : Cx}
theorem od_eqW (hu : X.A.units + 64 < cLine) : OpR X (compareOp .Eq) (upO (Cx.ky X) fEqW) := by
  intro pins s σ H x y v u Q I rx ry ⟨d, e, R, P, dm, r1, r2, h, k⟩
  obtain ⟨a, rfl, h0⟩ := asP_of h
  obtain ⟨b, rfl, h1⟩ := asS_of h0
  obtain ⟨as, ra, _⟩ := rp_reads dm.1 I r1 rx
  rw [show y = .str b from r2] at ry
  obtain ⟨t, rfl⟩ := ry
  exact rc_word b t ra hu _ _ _ _ ⟨.bl _, H, I, rfl, k _ H (.p (.bool (eqW a b))) (Ext.refl H) rfl h1⟩
theorem od_inW (hu : X.A.units + 66 < cLine) : OpR X (compareOp .In) (upO (Cx.ky X) (fInW false)) := by
  intro pins s σ H x y v u Q I rx ry ⟨d, e, R, P, dm, r1, r2, h, k⟩
  obtain ⟨a, rfl, ys, rfl, h1⟩ := asP_of h
  obtain ⟨as, ra, _⟩ := rp_reads dm.1 I r1 rx
  obtain ⟨p, xs, e, q, rp⟩ := r2
  subst e
  obtain rfl : u = Value.ref p := ry
  obtain ⟨its, rv, tl, _⟩ := I.tuple ((hide_ext P H).seqT q)
  have each := strs_vals rp rv
  refine SeqAt.in_tupleAt (fun u => eqW a (strOf u)) tl (fun z hz => ?_) ?_
  · exact each_mem (P := fun z => SeqAt.EqAt X.A.in1 s z v (eqW a (strOf z))) each (fun x t => eq_word x t ra (by show X.A.units + 1 + 64 < cLine; omega)) z (by simpa using hz)
  · have e : (its.toArray.any fun u => eqW a (strOf u)) = inW a ys := by rw [List.any_toArray]; exact each_any each
    rw [e]
    exact ⟨.bl _, H, I, rfl, k _ H (.p (.bool (inW a ys))) (Ext.refl H) rfl h1⟩
theorem od_notinW (hu : X.A.units + 66 < cLine) : OpR X (compareOp .NotIn) (upO (Cx.ky X) (fInW true)) := by
  intro pins s σ H x y v u Q I rx ry ⟨d, e, R, P, dm, r1, r2, h, k⟩
  obtain ⟨a, rfl, ys, rfl, h1⟩ := asP_of h
  obtain ⟨as, ra, _⟩ := rp_reads dm.1 I r1 rx
  obtain ⟨p, xs, e, q, rp⟩ := r2
  subst e
  obtain rfl : u = Value.ref p := ry
  obtain ⟨its, rv, tl, _⟩ := I.tuple ((hide_ext P H).seqT q)
  have each := strs_vals rp rv
  refine SeqAt.notIn_tupleAt (fun u => eqW a (strOf u)) tl (fun z hz => ?_) ?_
  · exact each_mem (P := fun z => SeqAt.EqAt X.A.in1 s z v (eqW a (strOf z))) each (fun x t => eq_word x t ra (by show X.A.units + 1 + 64 < cLine; omega)) z (by simpa using hz)
  · have e : (its.toArray.any fun u => eqW a (strOf u)) = inW a ys := by rw [List.any_toArray]; exact each_any each
    rw [e]
    exact ⟨.bl _, H, I, rfl, k _ H (.p (.bool (!inW a ys))) (Ext.refl H) rfl h1⟩
end
end MR

/-! tuple * int; int of a truth value; max of a list of ints; == (). -/
namespace MR
open PySem PySem.Spec PyProof.Rows L2
theorem tuple_mul0 (l : Addr) (items : Array Value) (n : Nat) (dd : Option Addr) (sl : Array (Option Value)) (x : Int) (u : Tok) (c0 : (decide (x < -(2 ^ 63)) || decide (x ≥ 2 ^ 63)) = false) (c1 : (items.isEmpty || x == 1) = false) (c2 : (decide (x ≤ 0) || items.isEmpty) = true) :
    Meets (Builtin.«tuple.__mul__» ⟨[.ref l, .int x u], []⟩) (fun _ R s => s.heap.get? l = some { cls := .type "tuple", dict := dd, data := .seq items n, slots := sl } ∧
      R (.ok (.ret (Value.ref s.heap.objs.size))) { s with heap := s.heap.push { cls := Value.type "tuple", data := Data.seq #[] }, toks := s.toks }) :=
  .of_wp fun prog w A R s h => by
    obtain ⟨hp, g, d, tk, os⟩ := s
    obtain ⟨hl, h⟩ := h
    have f1 := AutoSeq1.idx_int
    wp_walk using AutoSeq1.wpAny_loadPart' hl
    repeat (first
      | (refine wpAny_ite_false (decide_eq_false (by rw [c0]; exact Bool.false_ne_true)) ?_; wp_walk using AutoSeq1.wpAny_loadPart' hl)
      | (refine wpAny_ite_false (decide_eq_false (by rw [c1]; exact Bool.false_ne_true)) ?_; wp_walk using AutoSeq1.wpAny_loadPart' hl)
      | (refine wpAny_ite_true (decide_eq_true c2) ?_; wp_walk using AutoSeq1.wpAny_loadPart' hl))
    exact ⟨_, rfl, h⟩
/-- t * 0 -/
theorem op_repT0 {X : Cx} : OpR X (binaryOp .Mult) (fun x y H Q => ∃ l xs, x = .ref l ∧ y = .int 0 ∧ SqT X.K H l xs ∧ xs ≠ [] ∧ ∀ p, H p = none → Q (.ref p) (upd H p (.tup []))) := by
  intro pins s σ H x y v u Q I rx ry h
  obtain ⟨l, xs, rfl, rfl, hT, hne, q⟩ := h
  cases rx
  obtain ⟨t, rfl⟩ := ry
  obtain ⟨its, r, ⟨⟨cls, dd, data, sl⟩, ho, hc, n, hd⟩, hs⟩ := I.tuple hT
  simp only at hc hd
  subst hc hd
  have hle : its.length = xs.length := r.length.symm
  have hn : its ≠ [] := fun e => hne (by
    rw [e] at hle
    exact List.eq_nil_of_length_eq_zero hle.symm)
  have hi : its.toArray.isEmpty = false := by
    cases its with
    | nil => exact absurd rfl hn
    | cons a b => rfl
  have c0 : (decide ((0 : Int) < -(2 ^ 63)) || decide ((0 : Int) ≥ 2 ^ 63)) = false := by decide
  have c1 : (its.toArray.isEmpty || (0 : Int) == 1) = false := by rw [hi]; rfl
  have c2 : (decide ((0 : Int) ≤ 0) || its.toArray.isEmpty) = true := by rw [hi]; rfl
  refine wpAny_binaryOp_repeat_ref (T := "tuple") (U := "int") (by decide) ⟨_, ho, rfl⟩ (fun s' => typeIs_int s' 0 t) noFill_tuple_mul F.fills_int_mul F.slot_int_rmul repeat_tuple F.slot_int_index.lookup
    (call_meets F.slot_int_rmul (typeIs_int s 0 t) F.entry_int_rmul (F.args_int_rmul_2 _ _) (int_rmul_tuple 0 t l its.toArray n dd sl)
      ⟨ho, rfl, ⟨_, ho, rfl⟩, call_meets F.slot_tuple_mul ⟨_, ho, rfl⟩ F.entry_tuple_mul (F.args_tuple_mul_2 _ _) (tuple_mul0 l its.toArray n dd sl 0 t c0 c1 c2) ⟨ho, ?_⟩⟩)
  refine ⟨.ref s.heap.objs.size, _, I.laid (t' := s.toks) (o := .tup []) (fun b ob q => Heap.get?_push_of_some _ q) (Nat.le_refl _) ?_, rfl, q _ (I.hok.fresh (Nat.le_refl _))⟩
  exact ⟨Nat.zero_le _, [], .nil, IsTup.new _ _⟩
def fRepT : F2 := fun d e R => asU d fun xs => asI e fun k => xs ≠ [] ∧ (k = 0 ∨ 2 ≤ k) ∧ k ≤ 1000 ∧ xs.length ≤ 1000 ∧ R (.p (.tuple (List.replicate k.toNat xs).flatten))
theorem RpA.rep {K : PySem.W.Frag} {H : Hp} {ds : List PyData} {vs : List V} (r : RpA K H ds vs) : ∀ n : Nat, RpA K H (List.replicate n ds).flatten (List.replicate n vs).flatten
  | 0 => rfl
  | n + 1 => by
    rw [List.replicate_succ, List.replicate_succ, List.flatten_cons, List.flatten_cons]
    exact r.app (RpA.rep r n)
section
variable {X : Cx}
theorem od_repT : OpR X (binaryOp .Mult) (upO (Cx.ky X) fRepT) := by
  intro pins s σ H x y v u Q I rx ry ⟨d, e, R, P, dm, r1, r2, h, k⟩
  obtain ⟨ds, rfl, h0⟩ := asU_of h
  obtain ⟨i, rfl, hne, h1, h2, h3, h4⟩ := asI_of h0
  obtain ⟨a, xs, ev, q, ra⟩ := r1
  have ne : xs ≠ [] := fun e => hne (List.eq_nil_of_length_eq_zero (by rw [ra.len, e]; rfl))
  rcases h1 with e0 | h1
  · subst e0
    exact op_repT0 pins s σ H x y v u Q I rx ry ⟨a, xs, ev, r2, (hide_ext P H).seqT q, ne, fun p hp => k _ _ (.p (.tuple [])) (Ext.new hp) (new_tup dm hp rfl) h4⟩
  · exact op_repT pins s σ H x y v u Q I rx ry ⟨a, i, xs, ev, r2, (hide_ext P H).seqT q, ne, h1, h2, by rw [← ra.len]; exact h3, fun p hp => k _ _ (.p (.tuple (List.replicate i.toNat ds).flatten)) (Ext.new hp) (new_tup dm hp (ra.rep i.toNat)) h4⟩
/-- int of a truth value -/
def fIntB : FL := fun ds R => ∃ b : Bool, ds = [.p (.bool b)] ∧ R (.p (.int (if b then 1 else 0)))
theorem cd_intB : CallR X (.type "int") (upC (Cx.ky X) fIntB) := CallR.imp call_int1 fun xs H Q ⟨ds, R, P, dm, r, ⟨b, e, h⟩, k⟩ => by
  subst e
  obtain ⟨v, rfl, r1⟩ := rvA1 r
  exact .inr ⟨b, by rw [show v = .bl b from r1], k _ H (.p (.int (if b then 1 else 0))) (Ext.refl H) rfl h⟩
/-- t == () -/
def fEqU (neg : Bool) : F2 := fun d e R => asU d fun xs => e = .p (.tuple []) ∧ R (.p (.bool (if neg then !xs.isEmpty else xs.isEmpty)))
theorem od_eqU (hu : X.A.units < cLine) : OpR X (compareOp .Eq) (upO (Cx.ky X) (fEqU false)) := by
  intro pins s σ H x y v u Q I rx ry ⟨d, e, R, P, dm, r1, r2, h, k⟩
  obtain ⟨xs, rfl, rfl, h1⟩ := asU_of h
  obtain ⟨as, ra, _⟩ := rp_reads dm.1 I r1 rx
  obtain ⟨bs, rb, _⟩ := rp_reads dm.1 I r2 ry
  have hq : EP X pins σ Q (.bool xs.isEmpty) s := ⟨.bl _, H, I, rfl, k _ H (.p (.bool xs.isEmpty)) (Ext.refl H) rfl h1⟩
  cases ra with
  | tuple a1 a2 a3 a4 => cases rb with
    | tuple b1 b2 b3 b4 =>
      have n1 := SeqAt.ReadsAll.length _ _ _ a4
      have n2 := SeqAt.ReadsAll.length _ _ _ b4
      rw [Array.length_toList] at n1 n2
      rw [List.length_nil] at n2
      refine SeqAt.RcAt.tuples (e := fun _ => true) ⟨_, a1, a2, _, a3⟩ ⟨_, b1, b2, _, b3⟩ hu (fun j h1 h2 => absurd h2 (by omega)) _ _ _ _ ?_
      rw [n1, n2, Nat.min_zero]
      have e : ((List.range 0).all (fun _ => true) && xs.length == 0) = xs.isEmpty := by cases xs <;> rfl
      rw [e]
      exact hq
end
end MR

/-! Lists that one slot alone holds: made, appended to, given up. -/
namespace MR
open PySem PySem.Spec PyProof.Rows L2
section
variable {κ : Ky} {c : Sc} {H : Hp} {L : Addr → Bool} {δ : Dn} {σ : Sg}
theorem set_get_own {i j : Nat} {s : Sl} {ds : List PyData} (h : (δ.set i s)[j]? = some (Sl.own ds)) : (j = i ∧ s = .own ds ∧ i < δ.length) ∨ (j ≠ i ∧ δ[j]? = some (.own ds)) := by
  by_cases hj : j = i
  · subst hj
    have hl : j < δ.length := by
      have := (List.getElem?_eq_some_iff.mp h).1
      rw [List.length_set] at this
      exact this
    rw [List.getElem?_set_self hl] at h
    exact .inl ⟨rfl, Option.some.inj h, hl⟩
  · rw [List.getElem?_set_ne (Ne.symm hj)] at h
    exact .inr ⟨hj, h⟩
theorem set_get_v {i j : Nat} {s : Sl} {d : DV} (h : (δ.set i s)[j]? = some (Sl.v d)) : (j = i ∧ s = .v d ∧ i < δ.length) ∨ (j ≠ i ∧ δ[j]? = some (.v d)) := by
  by_cases hj : j = i
  · subst hj
    have hl : j < δ.length := by
      have := (List.getElem?_eq_some_iff.mp h).1
      rw [List.length_set] at this
      exact this
    rw [List.getElem?_set_self hl] at h
    exact .inl ⟨rfl, Option.some.inj h, hl⟩
  · rw [List.getElem?_set_ne (Ne.symm hj)] at h
    exact .inr ⟨hj, h⟩
/-- appended to -/
theorem ES.put (s : ES κ c H L δ σ) {i : Nat} {ds ds' : List PyData} {a : Addr} {xs' : List V} (ho : δ[i]? = some (.own ds)) (ha : σ[i]? = some (some (V.ref a))) (r : RpA κ.K (hide (oor c.P L) H) ds' xs') (np : nP ds' = true) :
    ES κ c (upd H a (.lst xs')) L (δ.set i (.own ds')) σ := by
  obtain ⟨a', xs, e1, la, e4, _⟩ := s.own i ds ho
  rw [ha] at e1
  cases e1
  have oa : oor c.P L a = true := by unfold oor; rw [la, Bool.or_true]
  have eh : hide (oor c.P L) (upd H a (.lst xs')) = hide (oor c.P L) H := hide_same oa
  have ha0 := (s.ldom a la).2
  refine ⟨by rw [List.length_set]; exact s.len, fun j d e => ?_, fun j es e => ?_, fun j k es fs b n h1 h2 h3 => ?_, s.psys, s.pdom, fun b hb => ⟨?_, (s.ldom b hb).2⟩, fun b o e => ?_, ?_, ?_, s.mp⟩
  · rw [eh]
    rcases set_get_v e with ⟨_, z, _⟩ | ⟨_, z⟩
    · cases z
    · exact s.val j d z
  · rw [eh]
    rcases set_get_own e with ⟨rfl, z, _⟩ | ⟨nj, z⟩
    · cases z
      exact ⟨a, xs', ha, la, ⟨upd_same, noP_of r np⟩, r⟩
    · obtain ⟨b, ys, q1, q2, q3, q4⟩ := s.own j es z
      have ne : b ≠ a := fun z2 => by
        subst z2
        exact s.sep i j ds es b (Ne.symm nj) ho z ha q1
      exact ⟨b, ys, q1, q2, ⟨by rw [upd_ne ne]; exact q3.at_, q3.np⟩, q4⟩
  · have f : ∀ {j : Nat} {es : List PyData}, (δ.set i (.own ds'))[j]? = some (Sl.own es) → ∃ fs, δ[j]? = some (.own fs) := fun {j es} h => by
      rcases set_get_own h with ⟨rfl, _, _⟩ | ⟨_, z⟩
      · exact ⟨_, ho⟩
      · exact ⟨_, z⟩
    obtain ⟨_, z1⟩ := f h1
    obtain ⟨_, z2⟩ := f h2
    exact s.sep j k _ _ b n z1 z2 h3
  · by_cases hb2 : b = a
    · rw [hb2, upd_same]
      exact Option.some_ne_none _
    · rw [upd_ne hb2]
      exact (s.ldom b hb).1
  · by_cases hb2 : b = a
    · subst hb2
      rcases ha0 with z | z
      · rw [z] at e; cases e
      · exact .inr ⟨z, by rw [upd_same]; exact Option.some_ne_none _⟩
    · rw [upd_ne hb2]
      exact s.ext b o e
  · rw [eh]
    exact s.kept
  · refine s.ods.mono (fun j o e => ⟨(od_set (fun _ z => by cases z) e).2, rfl⟩) (fun b u l h k => ⟨l, ?_⟩) (by rw [eh]; exact Ext.refl _)
    rw [upd_ne (fun z => by rw [z, e4.at_] at h; cases h; exact k)]
    exact h
/-- given up: data from now on -/
theorem ES.frz (s : ES κ c H L δ σ) {i : Nat} {ds : List PyData} (ho : δ[i]? = some (.own ds)) : ∃ L', ES κ c H L' (δ.set i (.v (.p (.list ds)))) σ := by
  obtain ⟨a, xs, e1, la, ea, ra⟩ := s.own i ds ho
  let L' : Addr → Bool := fun b => L b && !decide (b = a)
  have sub : ∀ b, oor c.P L' b = true → oor c.P L b = true := fun b h => by
    unfold oor at h ⊢
    rw [Bool.or_eq_true] at h ⊢
    exact h.imp id fun z => by
      have z' : (L b && !decide (b = a)) = true := z
      rw [Bool.and_eq_true] at z'
      exact z'.1
  have hx : Ext (hide (oor c.P L) H) (hide (oor c.P L') H) := hide_less H sub
  have off : oor c.P L' a = false := by
    unfold oor
    have h1 : c.P a = false := by
      cases q : c.P a with
      | false => rfl
      | true =>
        rcases (s.ldom a la).2 with z | z
        · exact absurd z (s.pdom a q)
        · rw [s.mp a z] at q; cases q
    have h2 : L' a = false := by show (L a && !decide (a = a)) = false; rw [decide_eq_true rfl, Bool.not_true, Bool.and_false]
    rw [h1, h2]
    rfl
  refine ⟨L', by rw [List.length_set]; exact s.len, fun j d e => ?_, fun j es e => ?_, fun j k es fs b n h1 h2 h3 => ?_, s.psys, s.pdom, fun b hb => ?_, s.ext, s.kept.ext hx, s.ods.mono (fun j o e => ⟨(od_set (fun _ z => by cases z) e).2, rfl⟩) (fun b u l h k => ⟨by show (L b && !decide (b = a)) = true; rw [l, decide_eq_false (fun z => by rw [z, ea.at_] at h; cases h; exact k)]; rfl, h⟩) hx, s.mp⟩
  · rcases set_get_v e with ⟨rfl, z, _⟩ | ⟨_, z⟩
    · cases z
      exact ⟨.ref a, e1, a, xs, rfl, ⟨by rw [hide_at off]; exact ea.at_, ea.np⟩, ra.ext hx⟩
    · obtain ⟨v, q1, q2⟩ := s.val j d z
      exact ⟨v, q1, q2.ext hx⟩
  · rcases set_get_own e with ⟨_, z, _⟩ | ⟨nj, z⟩
    · cases z
    · obtain ⟨b, ys, q1, q2, q3, q4⟩ := s.own j es z
      have ne : b ≠ a := fun z2 => by
        subst z2
        exact s.sep i j ds es b (Ne.symm nj) ho z e1 q1
      exact ⟨b, ys, q1, by show (L b && !decide (b = a)) = true; rw [q2, decide_eq_false ne]; rfl, q3, q4.ext hx⟩
  · rcases set_get_own h1 with ⟨_, z, _⟩ | ⟨_, z1⟩
    · cases z
    · rcases set_get_own h2 with ⟨_, z, _⟩ | ⟨_, z2⟩
      · cases z
      · exact s.sep j k es fs b n z1 z2 h3
  · have hb' : (L b && !decide (b = a)) = true := hb
    rw [Bool.and_eq_true] at hb'
    exact s.ldom b hb'.1
/-- a new list in a slot -/
theorem ES.own1 {H' : Hp} (s : ES κ c H L δ σ) {i : Nat} {ds : List PyData} {p : Addr} {xs : List V} (x : Ext H H') (hp : H p = none) (ep : LstAt H' p xs) (r : RpA κ.K (hide (oor c.P (plus L p)) H') ds xs) :
    ES κ c H' (plus L p) (δ.set i (.own ds)) (σ.set i (some (.ref p))) := by
  have hp0 : c.H0 p = none := s.ext.none hp
  have xD : Ext (hide (oor c.P L) H) (hide (oor c.P (plus L p)) H') := fun a o e => by
    unfold hide at e ⊢
    split at e
    · cases e
    · rename_i n
      have ne : a ≠ p := ne_of_none e hp
      rw [oor_ne ne, if_neg n]
      exact x a o e
  have notp : ∀ {j : Nat} {es : List PyData} {a : Addr}, δ[j]? = some (Sl.own es) → σ[j]? = some (some (V.ref a)) → a ≠ p := fun {j es a} e1 e2 e3 => by
    obtain ⟨b, ys, q1, q2, q3, _⟩ := s.own j es e1
    rw [e2] at q1
    cases q1
    have q4 := q3.at_
    rw [e3, hp] at q4
    cases q4
  refine ⟨by rw [List.length_set, List.length_set]; exact s.len, fun j d e => ?_, fun j es e => ?_, fun j k es fs b n h1 h2 h3 => ?_, s.psys, s.pdom, fun b hb => ?_, s.ext.trans x, s.kept.ext xD, s.ods.mono (fun j o e => ⟨(od_set (fun _ z => by cases z) e).2, List.getElem?_set_ne (Ne.symm (od_set (fun _ z => by cases z) e).1)⟩) (fun b u l h k => ⟨plus_of l, x.keep h fun ⟨_, _, z, _⟩ => by rw [z] at k; exact k⟩) xD, s.mp⟩
  · rcases set_get_v e with ⟨_, z, _⟩ | ⟨nj, z⟩
    · cases z
    · obtain ⟨v, q1, q2⟩ := s.val j d z
      exact ⟨v, by rw [List.getElem?_set_ne (Ne.symm nj)]; exact q1, q2.ext xD⟩
  · rcases set_get_own e with ⟨rfl, z, hl⟩ | ⟨nj, z⟩
    · cases z
      exact ⟨p, xs, List.getElem?_set_self (by rw [← s.len]; exact hl), plus_at, ep, r⟩
    · obtain ⟨b, ys, q1, q2, q3, q4⟩ := s.own j es z
      refine ⟨b, ys, by rw [List.getElem?_set_ne (Ne.symm nj)]; exact q1, plus_of q2, x.lst q3, q4.ext xD⟩
  · rcases set_get_own h1 with ⟨rfl, z, hl⟩ | ⟨nj, z1⟩
    · rcases set_get_own h2 with ⟨rfl, _, _⟩ | ⟨nk, z2⟩
      · exact absurd rfl n
      · rw [List.getElem?_set_self (by rw [← s.len]; exact hl)] at h3
        cases h3
        rw [List.getElem?_set_ne (Ne.symm nk)]
        exact fun z3 => notp z2 z3 rfl
    · rw [List.getElem?_set_ne (Ne.symm nj)] at h3
      rcases set_get_own h2 with ⟨rfl, _, hl⟩ | ⟨nk, z2⟩
      · rw [List.getElem?_set_self (by rw [← s.len]; exact hl)]
        exact fun z3 => by
          cases z3
          exact notp z1 h3 rfl
      · rw [List.getElem?_set_ne (Ne.symm nk)]
        exact s.sep j k es fs b n z1 z2 h3
  · by_cases hb2 : b = p
    · rw [hb2, ep.at_]
      exact ⟨Option.some_ne_none _, .inl hp0⟩
    · rw [plus_ne hb2] at hb
      exact ⟨x.some (s.ldom b hb).1, (s.ldom b hb).2⟩
end
/-! ### expressions that make a new list -/
def upF (κ : Ky) (t : TD) : TE := fun σ H Q => ∃ δ R c L, ES κ c H L δ σ ∧ t δ R ∧ ∀ p H' ds xs, Ext H H' → H p = none → LstAt H' p xs → RpA κ.K (hide (oor c.P (plus L p)) H') ds xs → R (.p (.list ds)) → Q (.ref p) H'
/-- x = a new list -/
def dSetO (i : Nat) (t : TD) : TDS := fun E δ => t δ fun d => asL d fun ds => E.nx (δ.set i (.own ds))
/-- x.append(e) -/
def dApp (i : Nat) (t : TD) : TDS := fun E δ => match δ.getD i .un with
  | .own ds => t δ fun d => asP d fun z => ds.length < sizeLine ∧ nP (ds ++ [z]) = true ∧ E.nx (δ.set i (.own (ds ++ [z])))
  | _ => False
/-- from here on slot i is data -/
def dFrz (i : Nat) (t : TDS) : TDS := fun E δ => match δ.getD i .un with
  | .own ds => t E (δ.set i (.v (.p (.list ds))))
  | _ => False
theorem getD_own {δ : Dn} {i : Nat} {ds : List PyData} (h : δ.getD i .un = .own ds) : δ[i]? = some (.own ds) := by
  rw [List.getD_eq_getElem?_getD] at h
  cases e : δ[i]? with
  | none => rw [e] at h; cases h
  | some s => rw [e] at h; cases h; rfl
theorem xplus {κ : Ky} {c : Sc} {L : Addr → Bool} {H1 : Hp} {p : Addr} {o : HO} (hp : H1 p = none) : Ext (hide (oor c.P L) H1) (hide (oor c.P (plus L p)) (upd H1 p o)) := fun a u e => by
  unfold hide at e ⊢
  split at e
  · cases e
  · rename_i n
    have ne : a ≠ p := ne_of_none e hp
    rw [oor_ne ne, if_neg n, upd_ne ne]
    exact .inl e
section
variable {X : Cx} {e a b : Expr} {es : List Expr} {ta tb te : TD} {t : TL} {pos : Pos}
theorem df_lst (h : PA X es (upA (Cx.ky X) t)) : PE X (.List es pos) (upF (Cx.ky X) (dLst t)) := by
  refine PE.imp (pe_lst h) fun σ H Q ⟨δ, R, c, L, es, h, k⟩ => ⟨δ, _, c, L, es, h, fun vs H1 ds x1 r1 h1 => ?_⟩
  obtain ⟨xs, rfl, hz, np, h2⟩ := pyAll_of h1
  have rp := rvA_p r1
  exact ⟨by rw [← rp.len]; exact hz, fun p hp => k p _ xs vs (x1.trans (Ext.new hp)) (x1.none hp) ⟨upd_same, noP_of rp np⟩ (rp.ext (xplus (κ := Cx.ky X) (c := c) hp)) h2⟩
/-- xs + ys -/
def fCat : F2 := fun d e R => asL d fun xs => asL e fun ys => xs.length + ys.length ≤ sizeLine ∧ nP (xs ++ ys) = true ∧ R (.p (.list (xs ++ ys)))
theorem df_cat (ha : PE X a (up (Cx.ky X) ta)) (hb : PE X b (up (Cx.ky X) tb)) : PE X (.BinOp a .Add b pos) (upF (Cx.ky X) (dOp fCat ta tb)) := by
  refine PE.imp (pe_op op_cat ha hb) fun σ H Q ⟨δ, R, c, L, es, h, k⟩ => ⟨δ, _, c, L, es, h, fun v H1 d x1 r1 h1 => ⟨δ, _, c, L, es.on x1, h1, fun u H2 e x2 r2 h2 => ?_⟩⟩
  obtain ⟨xs, rfl, h3⟩ := asL_of h2
  obtain ⟨ys, rfl, hz, np, h4⟩ := asL_of h3
  obtain ⟨p, us, e1, q1, ra⟩ := r1
  obtain ⟨q, ws, e2, q2, rb⟩ := r2
  have q1' := (x2.hide (oor c.P L)).lst q1
  have ra' := ra.ext (x2.hide (oor c.P L))
  refine ⟨p, q, us, ws, e1, e2, ((hide_ext _ _).lst q1').at_, ((hide_ext _ _).lst q2).at_, by rw [← ra.len, ← rb.len]; exact hz, fun n hn => ?_⟩
  exact k n _ (xs ++ ys) (us ++ ws) (x1.trans (x2.trans (Ext.new hn))) ((x1.trans x2).none hn) ⟨upd_same, noP_of (ra'.app rb) np⟩ ((ra'.app rb).ext (xplus (κ := Cx.ky X) (c := c) hn)) h4
theorem ds_setO {i : Nat} {x : Str} {pos' : Pos} (hN : X.N.Nodup) (hi : X.N[i]? = some x) (hx : Loc X.env.scope x) (he : PE X e (upF (Cx.ky X) te)) (hs : swapsWith e (some (.Name x pos')) pos.line X.env = pure false := by rfl) (hf : X.fn x = true ∨ X.env.scope.names.lookup x = some .local := by first | exact .inl rfl | exact .inr rfl | assumption) : PS X (.Assign [.Name x pos'] e pos) (upS (Cx.ky X) (dSetO i te)) := by
  refine PS.imp (ps_set hN hi hx he hs hf) fun D σ H ⟨δ, E, c, L, es, h, f⟩ => ⟨δ, _, c, L, es, h, fun p H1 ds xs x1 hp ep r h1 => ?_⟩
  exact f.nx _ _ H1 _ (es.own1 x1 hp ep r) h1
theorem ds_app {i : Nat} {x : Str} {apos cpos npos : Pos} (hv : PE X (.Name x npos) (tVar i)) (he : PE X e (up (Cx.ky X) te))
    (h : ∀ {ta : TA}, PA X [e] ta → PS X (.Expr (.Call (.Attribute (.Name x npos) "append" apos) [e] [] cpos) pos) (tDrop (tBM X.K "list" rAppend (tVar i) ta)))
    (hs : starEach [e] X.env = (false, eval e X.env) :: starEach [] X.env := by rfl) : PS X (.Expr (.Call (.Attribute (.Name x npos) "append" apos) [e] [] cpos) pos) (upS (Cx.ky X) (dApp i te)) := by
  refine PS.imp (h (da_cons he da_nil hs)) fun D σ H ⟨δ, E, c, L, es, h, f⟩ => ?_
  unfold dApp at h
  cases q : δ.getD i .un with
  | un => rw [q] at h; exact h.elim
  | v d => rw [q] at h; exact h.elim
  | od o => rw [q] at h; exact h.elim
  | own ds =>
    rw [q] at h
    have ho := getD_own q
    obtain ⟨a, xs, e1, la, ea, ra⟩ := es.own i ds ho
    refine ⟨.ref a, e1, .inl ⟨rfl, _, .inl (.inl ea.at_)⟩, δ, fun ds' => (match ds' with | [d] => asP d fun z => ds.length < sizeLine ∧ nP (ds ++ [z]) = true ∧ E.nx (δ.set i (.own (ds ++ [z]))) | _ => False), c, L, es, h, fun vs H1 ds' x1 r1 h1 => ?_⟩
    · obtain ⟨z, rfl, hz, np, h2⟩ : ∃ z, ds' = [.p z] ∧ ds.length < sizeLine ∧ nP (ds ++ [z]) = true ∧ E.nx (δ.set i (.own (ds ++ [z]))) := by
        match ds', h1 with
        | [d], h1 =>
          obtain ⟨z, rfl, h2⟩ := asP_of h1
          exact ⟨z, rfl, h2⟩
      obtain ⟨v, rfl, rv⟩ := rvA1 r1
      have es1 := es.on x1
      exact ⟨a, xs, v, rfl, rfl, (x1.lst ea).at_, by rw [← ra.len]; exact hz, f.nx _ _ _ L (es1.put ho e1 ((ra.ext (x1.hide _)).app (show RpA X.K _ [z] [v] from ⟨v, [], rfl, rv, rfl⟩)) np) h2⟩
theorem ds_frz {i : Nat} {st : Stmt} {u : TDS} (h : PS X st (upS (Cx.ky X) u)) : PS X st (upS (Cx.ky X) (dFrz i u)) := by
  refine PS.imp h fun D σ H ⟨δ, E, c, L, es, h, f⟩ => ?_
  unfold dFrz at h
  cases q : δ.getD i .un with
  | un => rw [q] at h; exact h.elim
  | v d => rw [q] at h; exact h.elim
  | od o => rw [q] at h; exact h.elim
  | own ds =>
    rw [q] at h
    obtain ⟨L', es'⟩ := es.frz (getD_own q)
    exact ⟨_, E, c, L', es', h, f⟩
end
end MR

/-! list * int, max of a list of ints, tuples of texts as constants of a module. -/
namespace MR
open PySem PySem.Spec PyProof.Rows L2
def fRepL : F2 := fun d e R => asL d fun xs => asI e fun k => 0 ≤ k ∧ k ≤ 1000 ∧ xs.length ≤ 1000 ∧ nP (List.replicate k.toNat xs).flatten = true ∧ R (.p (.list (List.replicate k.toNat xs).flatten))
def fMaxL : FL := fun ds R => ∃ ns : List Int, ds = [.p (.list (ns.map .int))] ∧ 0 < ns.length ∧ ∀ m ∈ ns, (∀ y ∈ ns, y ≤ m) → R (.p (.int m))
def fMinL : FL := fun ds R => ∃ ns : List Int, ds = [.p (.list (ns.map .int))] ∧ 0 < ns.length ∧ ∀ m ∈ ns, (∀ y ∈ ns, m ≤ y) → R (.p (.int m))
theorem rpA_ints {K : PySem.W.Frag} {H : Hp} : ∀ {ns : List Int} {vs : List V}, RpA K H (ns.map .int) vs → vs = ns.map V.int
  | [], _, h => h
  | b :: bs, _, ⟨v, r, e, h, t⟩ => by rw [e, show v = .int b from h, rpA_ints t]; rfl
section
variable {X : Cx}
theorem od_repL : OpR X (binaryOp .Mult) (upO (Cx.ky X) fRepL) := by
  intro pins s σ H x y v u Q I rx ry ⟨d, e, R, P, dm, r1, r2, h, k⟩
  obtain ⟨ds, rfl, h0⟩ := asL_of h
  obtain ⟨i, rfl, h1, h2, h3, np, h4⟩ := asI_of h0
  obtain ⟨a, xs, ev, q, ra⟩ := r1
  refine op_rep pins s σ H x y v u Q I rx ry ⟨a, i, xs, ev, r2, ((hide_ext P H).lst q).at_, by omega, by omega, ?_, fun p hp => k _ _ (.p (.list (List.replicate i.toNat ds).flatten)) (Ext.new hp) (new_lst dm hp (ra.rep i.toNat) np) h4⟩
  rw [← ra.len]
  exact Nat.le_trans (Nat.mul_le_mul h3 (show i.toNat ≤ 1000 by omega)) (by decide)
theorem cd_maxL (hc : X.calm = true) : CallR X (.builtin "max") (upC (Cx.ky X) fMaxL) := CallR.imp (cr_max hc) fun xs H Q ⟨ds, R, P, dm, r, ⟨ns, e, h0, h⟩, k⟩ => by
  subst e
  obtain ⟨v, rfl, a, xs, e, q, ra⟩ := rvA1 r
  subst e
  have e2 := rpA_ints ra
  subst e2
  exact ⟨a, ns, rfl, SqL.of ((hide_ext P H).lst q).at_, h0, fun m hm hle => k _ H (.p (.int m)) (Ext.refl H) rfl (h m hm hle)⟩
theorem cd_minL (hc : X.calm = true) : CallR X (.builtin "min") (upC (Cx.ky X) fMinL) := CallR.imp (cr_min hc) fun xs H Q ⟨ds, R, P, dm, r, ⟨ns, e, h0, h⟩, k⟩ => by
  subst e
  obtain ⟨v, rfl, a, xs, e, q, ra⟩ := rvA1 r
  subst e
  have e2 := rpA_ints ra
  subst e2
  exact ⟨a, ns, rfl, SqL.of ((hide_ext P H).lst q).at_, h0, fun m hm hle => k _ H (.p (.int m)) (Ext.refl H) rfl (h m hm hle)⟩
end
/-- two texts in a tuple that the module wrote -/
def Wtn (K : PySem.W.Frag) (u : Value) (ys : List Str) : Prop := ∃ a, u = .ref a ∧ ∀ H, SqT K H a (ys.map V.str)
theorem wtn_rv {κ : Ky} {u : Value} {ys : List Str} (h : Wtn κ.K u ys) : ∃ v, RelV v u ∧ ∀ H, Rv κ H (.p (.tuple (ys.map .str))) v := by
  obtain ⟨a, rfl, h⟩ := h
  exact ⟨.ref a, rfl, fun H => ⟨a, ys.map V.str, rfl, h H, rpA_txt ys⟩⟩
theorem de_globT {X : Cx} {x : Str} {u : Value} {ys : List Str} {pos : Pos} (hg : Gl X x) (hm : X.mg x = some u) (h : Wtn X.K u ys) (hd : (x == ("__debug__" : Str)) = false := by decide) : PE X (.Name x pos) (up (Cx.ky X) (dC (.p (.tuple (ys.map .str))))) := by
  obtain ⟨v, r, q⟩ := wtn_rv (κ := Cx.ky X) h
  exact de_glob hg hm r q hd
end MR

/-! < of alike data, while, rstrip, index, displays with stars, lists turned round, pop, sorted lists of texts. -/
namespace MR
open PySem PySem.Spec PyProof.Rows L2
section
variable {X : Cx}
/-- a < b, alike data -/
def fLtA : F2 := fun d e R => asP d fun x => asP e fun y => PySem.W.alike x y = true ∧ x ≠ .none ∧ min x.depth y.depth ≤ 60 ∧ R (.p (.bool (PySem.W.dataLt x y)))
theorem od_ltA (hu : X.A.units + 64 < cLine) : OpR X (compareOp .Lt) (upO (Cx.ky X) fLtA) := by
  intro pins s σ H x y v u Q I rx ry ⟨d, e, R, P, dm, r1, r2, h, k⟩
  obtain ⟨a, rfl, h0⟩ := asP_of h
  obtain ⟨b, rfl, h1, h2, h3, h4⟩ := asP_of h0
  obtain ⟨as, ra, _⟩ := rp_reads dm.1 I r1 rx
  obtain ⟨bs, rb, _⟩ := rp_reads dm.1 I r2 ry
  exact PySem.W.lt_data ra rb h1 h2 (by omega) ⟨.bl _, H, I, rfl, k _ H (.p (.bool (PySem.W.dataLt a b))) (Ext.refl H) rfl h4⟩
end
/-! ### while -/
def dWhile (tc : TB) (tb : TDS) : TDS := fun E δ => ∃ W : Nat → Dn → Prop, (∃ m, W m δ) ∧ ∀ m δ, W m δ → tc δ fun b => if b = true then ∃ N : Dn → Prop, (∀ δ', N δ' → ∃ m', m' < m ∧ W m' δ') ∧ tb { E with nx := N, ct := N, bk := E.nx } δ else E.nx δ
section
variable {X : Cx} {c : Expr} {body : List Stmt} {tc : TB} {tb : TDS} {pos : Pos}
theorem ds_while (hp : PassesOwn (model X.prog X.w) X.A X.env X.xe) (hc : PT X c (upT (Cx.ky X) tc)) (hb : PSs X body (upS (Cx.ky X) tb)) : PS X (.While c body [] pos) (upS (Cx.ky X) (dWhile tc tb)) := by
  refine PS.imp (ps_while hp hc hb) fun D σ H ⟨δ, E, c, L, es, ⟨W, ⟨m0, w0⟩, turn⟩, f⟩ => ?_
  refine ⟨fun m σ H => ∃ δ L, ES (Cx.ky X) c H L δ σ ∧ W m δ, ⟨m0, δ, L, es, w0⟩, fun m σ1 H1 ⟨δ1, L1, es1, w1⟩ => ?_⟩
  refine ⟨δ1, _, c, L1, es1, turn m δ1 w1, fun b H2 x2 h2 => ?_⟩
  cases b with
  | true =>
    rw [if_pos rfl] at h2 ⊢
    obtain ⟨N, hN, h3⟩ := h2
    refine ⟨fun σ' H' => ∃ δ' L', ES (Cx.ky X) c H' L' δ' σ' ∧ N δ', fun σ' H' ⟨δ', L', es', n'⟩ => ?_, ?_⟩
    · obtain ⟨m', hm, w'⟩ := hN δ' n'
      exact ⟨m', hm, δ', L', es', w'⟩
    · exact ⟨δ1, _, c, L1, es1.on x2, h3, ⟨fun δ' σ' H' L' e' n' => ⟨δ', L', e', n'⟩, f.rt, fun δ' σ' H' L' e' n' => f.nx δ' σ' H' L' e' n', fun δ' σ' H' L' e' n' => ⟨δ', L', e', n'⟩, f.ro⟩⟩
  | false =>
    rw [if_neg Bool.false_ne_true] at h2 ⊢
    exact f.nx δ1 σ1 H2 L1 (es1.on x2) h2
end
/-! ### texts -/
section
variable {X : Cx} {o e : Expr} {to te : TD}
def fRst : F1S := fun a e R => asS e fun b => a.length ≤ sizeLine ∧ R (.p (.str (Txt.rstripChars a b)))
def fSix : F1S := fun a e R => asS e fun b => ∃ i rest, Builtin.Str.occurrences a b 0 a.length 1 = i :: rest ∧ R (.p (.int ((i : Nat) : Int)))
theorem de_rstrip {apos pos : Pos} (ho : PE X o (up (Cx.ky X) to)) (he : PE X e (up (Cx.ky X) te)) (hs : starEach [e] X.env = [(false, eval e X.env)] := by rfl) (hbase : attributeBase o "rstrip" X.env (eval o X.env) = eval o X.env := by rfl) (hline : (apos.endLine == pos.line) = true := by rfl) :
    PE X (.Call (.Attribute o "rstrip" apos) [e] [] pos) (up (Cx.ky X) (dM1 fRst to te)) :=
  de_m1 PySem.F.slot_str_rstrip PySem.F.type_str_rstrip mt_rstripChars (fun a y H Q h => by
    obtain ⟨d, e, R, P, dm, r1, r2, h1, k⟩ := h
    obtain ⟨a', rfl, h2⟩ := asS_of h1
    obtain ⟨b, rfl, hz, h3⟩ := asS_of h2
    have ea : V.str a = .str a' := r1
    cases ea
    exact ⟨a, b, rfl, by rw [show y = .str b from r2], hz, k _ H (.p (.str (Txt.rstripChars a b))) (Ext.refl H) rfl h3⟩) ho he hs hbase hline
theorem de_index {apos pos : Pos} (ho : PE X o (up (Cx.ky X) to)) (he : PE X e (up (Cx.ky X) te)) (hs : starEach [e] X.env = [(false, eval e X.env)] := by rfl) (hbase : attributeBase o "index" X.env (eval o X.env) = eval o X.env := by rfl) (hline : (apos.endLine == pos.line) = true := by rfl) :
    PE X (.Call (.Attribute o "index" apos) [e] [] pos) (up (Cx.ky X) (dM1 fSix to te)) :=
  de_m1 PySem.F.slot_str_index PySem.F.type_str_index mt_sindex (fun a y H Q h => by
    obtain ⟨d, e, R, P, dm, r1, r2, h1, k⟩ := h
    obtain ⟨a', rfl, h2⟩ := asS_of h1
    obtain ⟨b, rfl, i, rest, ho, h3⟩ := asS_of h2
    have ea : V.str a = .str a' := r1
    cases ea
    exact ⟨a, b, i, rest, rfl, by rw [show y = .str b from r2], ho, k _ H (.p (.int ((i : Nat) : Int))) (Ext.refl H) rfl h3⟩) ho he hs hbase hline
end
/-! ### displays with stars -/
theorem rvA_of {κ : Ky} {H : Hp} : ∀ {xs : List PyData} {vs : List V}, RpA κ.K H xs vs → RvA κ H (xs.map .p) vs
  | [], _, h => h
  | _ :: _, _, ⟨v, r, e, h, t⟩ => ⟨v, r, e, h, rvA_of t⟩
def dStar (te : TD) (t : TL) : TL := fun δ R => te δ fun d => asP d fun z => ∃ zs, (z = .tuple zs ∨ z = .list zs) ∧ t δ fun ds => R (zs.map .p ++ ds)
section
variable {X : Cx} {e : Expr} {es : List Expr} {te : TD} {t : TL} {p : Pos}
theorem da_star (he : PE X e (up (Cx.ky X) te)) (hr : PA X es (upA (Cx.ky X) t)) (hs : starEach (.Starred e p :: es) X.env = (true, eval e X.env) :: starEach es X.env := by rfl) : PA X (.Starred e p :: es) (upA (Cx.ky X) (dStar te t)) := by
  refine PA.imp (StX.pa_star he hr hs) fun σ H Q ⟨δ, R, c, L, es, h, k⟩ => ⟨δ, _, c, L, es, h, fun v H1 d x1 r1 h1 => ?_⟩
  obtain ⟨z, rfl, zs, hz, h2⟩ := asP_of h1
  have key : ∃ p xs, v = V.ref p ∧ (SqT X.K H1 p xs ∨ SqL X.K H1 p xs) ∧ RpA X.K (hide (oor c.P L) H1) zs xs := by
    rcases hz with rfl | rfl
    · obtain ⟨a, xs, e, q, ra⟩ := r1
      exact ⟨a, xs, e, .inl ((hide_ext _ _).seqT q), ra⟩
    · obtain ⟨a, xs, e, q, ra⟩ := r1
      exact ⟨a, xs, e, .inr (SqL.of ((hide_ext _ _).lst q).at_), ra⟩
  obtain ⟨a, xs, e, q, ra⟩ := key
  exact ⟨a, xs, e, q, δ, _, c, L, es.on x1, h2, fun vs H2 ds x2 r2 h3 => k _ H2 _ (x1.trans x2) ((rvA_of (ra.ext (x2.hide _))).app r2) h3⟩
end
/-! ### xs[::-1] -/
theorem RpA.rev {K : PySem.W.Frag} {H : Hp} : ∀ {ds : List PyData} {vs : List V}, RpA K H ds vs → RpA K H ds.reverse vs.reverse
  | [], vs, h => by rw [show vs = [] from h]; rfl
  | d :: ds, _, ⟨v, r, e, h, t⟩ => by
    rw [e, List.reverse_cons, List.reverse_cons]
    exact RpA.app (RpA.rev t) ⟨v, [], rfl, h, rfl⟩
theorem vals_rev : ∀ {xs : List V} {us : List Value}, Vals xs us → Vals xs.reverse us.reverse
  | _, _, .nil => .nil
  | _, _, .cons r t => by
    rw [List.reverse_cons, List.reverse_cons]
    exact (vals_rev t).append (.cons r .nil)
def dRev (te : TD) (ts : TDO) : TD := fun δ R => te δ fun d => asL d fun xs => ts δ fun o => o = some (-1) ∧ nP xs.reverse = true ∧ R (.p (.list xs.reverse))
section
variable {X : Cx} {e st : Expr} {te : TD} {ts : TDO} {p2 pos : Pos}
theorem de_rev (he : PE X e (up (Cx.ky X) te)) (hst : PO X (some st) (upP (Cx.ky X) ts)) : PE X (.Subscript e (.Slice none none (some st) p2) pos) (up (Cx.ky X) (dRev te ts)) := by
  refine ⟨fun pins s σ H Q I ⟨δ, R, c, L, es, h, k⟩ => ?_⟩
  refine Subscript_ (thn (he.run pins s σ H (fun x H1 => ∃ xs, Ext H H1 ∧ Rp X.K (hide (oor c.P L) H1) (.list xs) x ∧ ts δ fun o => o = some (-1) ∧ nP xs.reverse = true ∧ R (.p (.list xs.reverse))) I ⟨δ, _, c, L, es, h, fun v H1 d x1 r1 h1 => ?_⟩) fun v s1 ⟨x, H1, I1, r1, q1⟩ => ?_)
  · obtain ⟨xs, rfl, h2⟩ := asL_of h1
    exact ⟨xs, x1, r1, h2⟩
  obtain ⟨xs, x1, rx, h2⟩ := q1
  refine wpAny_Slice ?_
  rw [evalPart_none]
  refine wpAny_pure ?_
  refine wpAny_pure ?_
  refine thn (hst.run pins s1 σ H1 (fun o H2 => Ext H1 H2 ∧ o = some (-1) ∧ nP xs.reverse = true ∧ R (.p (.list xs.reverse))) I1 ⟨δ, _, c, L, es.on x1, h2, fun o H2 x2 h3 => ⟨x2, h3⟩⟩) fun vs s3 ⟨o, H3, I3, ps, x3, eo, np, q3⟩ => ?_
  subst eo
  have I4 : Inv X pins σ H3 { s3 with heap := s3.heap.push { cls := .type "slice", data := .fields #[.none, .none, vs] } } := I3.kept (t' := s3.toks) fun b ob q => Heap.get?_push_of_some _ q
  obtain ⟨a, us, e1, q, ra⟩ := rx.ext (x3.hide (oor c.P L))
  subst e1
  cases r1
  have q' : SqL X.K H3 a us := SqL.of ((hide_ext _ _).lst q).at_
  obtain ⟨its, rv, hl, hz⟩ := I4.list q'
  have hlen := rv.length
  show wpAny (model X.prog X.w) X.A (subscriptTail e (.Slice none none (some st) p2) (.ref a) (.ref s3.heap.objs.size)) (EP X pins σ Q) X.xe { s3 with heap := s3.heap.push { cls := .type "slice", data := .fields #[.none, .none, vs] } }
  refine tail_any (ops := [.ref a, .ref s3.heap.objs.size]) hl.isList.typeIs slot_list_getitem.lookup ?_ (by with_unfolding_all rfl)
  refine wpAny_getItem_list_slice hl.isList (Heap.IsSliceOf.new ..) .none .none ps (by decide) ?_ (by rw [List.size_toArray] <;> omega)
  rw [PySem.W.krv_pick]
  have hf : H3 { s3 with heap := s3.heap.push { cls := .type "slice", data := .fields #[.none, .none, vs] } }.heap.objs.size = none := I4.hok.fresh (Nat.le_refl _)
  refine ⟨.ref _, upd H3 _ (.lst us.reverse), I4.laid (t' := s3.toks) (o := .lst us.reverse) (fun b ob q => Heap.get?_push_of_some _ q) (Nat.le_refl _) ?_, rfl, ?_⟩
  · exact ⟨by rw [List.length_reverse]; exact hz, its.reverse, 0, vals_rev rv, Heap.get?_push_size _ rfl⟩
  · exact k _ _ (.p (.list xs.reverse)) (x1.trans (x3.trans (Ext.new hf))) (new_lst (es.on (x1.trans x3)).dom hf ra.rev np) q3
end
/-! ### sorted(xs), fewer than 64 texts -/
def fSortL : FL := fun ds R => ∃ xs : List Str, ds = [.p (.list (xs.map .str))] ∧ xs.length < 64 ∧ ∀ ys : List Str, ys.Perm xs → sortedS ys = true → R (.p (.list (ys.map .str)))
section
variable {X : Cx}
theorem cd_sortL : CallR X (.builtin "sorted") (upC (Cx.ky X) fSortL) := CallR.imp cr_sortedS fun xs H Q ⟨ds, R, P, dm, r, ⟨ys, e, hz, h⟩, k⟩ => by
  subst e
  obtain ⟨v, rfl, a, us, rfl, q, ra⟩ := rvA1 r
  have eu := rpA_strs ra
  subst eu
  exact ⟨a, ys, rfl, SqL.of ((hide_ext P H).lst q).at_, hz, fun zs p hp hs hn => k _ _ (.p (.list (zs.map .str))) (Ext.new hn) (new_lst dm hn (rpA_txt _) (nP_strs _)) (h zs hp hs)⟩
end
/-! ### lists of one slot: their length, joined, popped from -/
def dLenO (i : Nat) : TD := fun δ R => match δ.getD i .un with
  | .own ds => ds.length ≤ sizeLine ∧ R (.p (.int (ds.length : Int)))
  | _ => False
def dCatO (i : Nat) (tb : TD) : TD := fun δ R => match δ.getD i .un with
  | .own ds => tb δ fun e => asL e fun ys => ds.length + ys.length ≤ sizeLine ∧ nP (ds ++ ys) = true ∧ R (.p (.list (ds ++ ys)))
  | _ => False
def dPop (i : Nat) (t : TD) : TDS := fun E δ => match δ.getD i .un with
  | .own ds => t δ fun d => asI d fun z => ∃ k, seqIndex? z ds.length = some k ∧ k < ds.length ∧ 0 ≤ z ∧ z < 2 ^ 62 ∧ nP (ds.eraseIdx k) = true ∧ E.nx (δ.set i (.own (ds.eraseIdx k)))
  | _ => False
theorem RpA.erase {K : PySem.W.Frag} {H : Hp} : ∀ {ds : List PyData} {vs : List V} (n : Nat), RpA K H ds vs → RpA K H (ds.eraseIdx n) (vs.eraseIdx n)
  | [], vs, n, h => by rw [show vs = [] from h]; rfl
  | _ :: _, _, 0, ⟨v, r, e, h, t⟩ => by rw [e]; exact t
  | _ :: _, _, n + 1, ⟨v, r, e, h, t⟩ => by rw [e]; exact ⟨v, _, rfl, h, RpA.erase n t⟩
section
variable {X : Cx} {e a b : Expr} {ta tb te : TD} {pos p npos : Pos} {x y : Str} {i : Nat}
theorem de_lenO (hv : PE X (.Name x npos) (tVar i)) (hg : Gl X "len") (hm : X.mg "len" = none) : PE X (.Call (.Name "len" p) [.Name x npos] [] pos) (up (Cx.ky X) (dLenO i)) := by
  refine PE.imp (pe_callB call_len hg hm (by decide +kernel) (pa_cons hv pa_nil)) fun σ H Q ⟨δ, R, c, L, es, h, k⟩ => ?_
  unfold dLenO at h
  cases q : δ.getD i .un with
  | un => rw [q] at h; exact h.elim
  | v d => rw [q] at h; exact h.elim
  | od o => rw [q] at h; exact h.elim
  | own ds =>
    rw [q] at h
    obtain ⟨a, xs, e1, la, ea, ra⟩ := es.own i ds (getD_own q)
    exact ⟨.ref a, e1, .ref a, ds.length, rfl, .inl ⟨xs, SqL.of ea.at_, ra.len⟩, k _ H (.p (.int ds.length)) (Ext.refl H) rfl h.2⟩
theorem df_catO (ha : PE X a (tVar i)) (hb : PE X b (up (Cx.ky X) tb)) : PE X (.BinOp a .Add b pos) (upF (Cx.ky X) (dCatO i tb)) := by
  refine PE.imp (pe_op op_cat ha hb) fun σ H Q ⟨δ, R, c, L, es, h, k⟩ => ?_
  unfold dCatO at h
  cases q : δ.getD i .un with
  | un => rw [q] at h; exact h.elim
  | v d => rw [q] at h; exact h.elim
  | od o => rw [q] at h; exact h.elim
  | own ds =>
    rw [q] at h
    obtain ⟨a, xs, e1, la, ea, ra⟩ := es.own i ds (getD_own q)
    refine ⟨.ref a, e1, δ, _, c, L, es, h, fun u H2 e x2 r2 h2 => ?_⟩
    obtain ⟨ys, rfl, hz, np, h4⟩ := asL_of h2
    obtain ⟨q, ws, e2, q2, rb⟩ := r2
    have ra' := ra.ext (x2.hide (oor c.P L))
    refine ⟨a, q, xs, ws, rfl, e2, (x2.lst ea).at_, ((hide_ext _ _).lst q2).at_, by rw [← ra.len, ← rb.len]; exact hz, fun n hn => ?_⟩
    exact k n _ (ds ++ ys) (xs ++ ws) (x2.trans (Ext.new hn)) (x2.none hn) ⟨upd_same, noP_of (ra'.app rb) np⟩ ((ra'.app rb).ext (xplus (κ := Cx.ky X) (c := c) hn)) h4
theorem ds_pop {apos cpos : Pos} (hv : PE X (.Name x npos) (tVar i)) (he : PE X e (up (Cx.ky X) te))
    (h : ∀ {ta : TA}, PA X [e] ta → PS X (.Expr (.Call (.Attribute (.Name x npos) "pop" apos) [e] [] cpos) pos) (tDrop (tBM X.K "list" rPopAt (tVar i) ta)))
    (hs : starEach [e] X.env = (false, eval e X.env) :: starEach [] X.env := by rfl) : PS X (.Expr (.Call (.Attribute (.Name x npos) "pop" apos) [e] [] cpos) pos) (upS (Cx.ky X) (dPop i te)) := by
  refine PS.imp (h (da_cons he da_nil hs)) fun D σ H ⟨δ, E, c, L, es, h, f⟩ => ?_
  unfold dPop at h
  cases q : δ.getD i .un with
  | un => rw [q] at h; exact h.elim
  | v d => rw [q] at h; exact h.elim
  | od o => rw [q] at h; exact h.elim
  | own ds =>
    rw [q] at h
    have ho := getD_own q
    obtain ⟨a, xs, e1, la, ea, ra⟩ := es.own i ds ho
    refine ⟨.ref a, e1, .inl ⟨rfl, _, .inl (.inl ea.at_)⟩, δ, fun ds' => (match ds' with | [d] => asI d fun z => ∃ k, seqIndex? z ds.length = some k ∧ k < ds.length ∧ 0 ≤ z ∧ z < 2 ^ 62 ∧ nP (ds.eraseIdx k) = true ∧ E.nx (δ.set i (.own (ds.eraseIdx k))) | _ => False), c, L, es, h, fun vs H1 ds' x1 r1 h1 => ?_⟩
    obtain ⟨z, rfl, k, hk, hlt, h0, hz, np, h2⟩ : ∃ z, ds' = [.p (.int z)] ∧ ∃ k, seqIndex? z ds.length = some k ∧ k < ds.length ∧ 0 ≤ z ∧ z < 2 ^ 62 ∧ nP (ds.eraseIdx k) = true ∧ E.nx (δ.set i (.own (ds.eraseIdx k))) := by
      match ds', h1 with
      | [d], h1 =>
        obtain ⟨z, rfl, h2⟩ := asI_of h1
        exact ⟨z, rfl, h2⟩
    obtain ⟨v, rfl, rv⟩ := rvA1 r1
    have ev : v = .int z := rv
    subst ev
    have es1 := es.on x1
    have hl := ra.len
    obtain ⟨w, hw⟩ : ∃ w, xs[k]? = some w := ⟨_, List.getElem?_eq_getElem (by omega)⟩
    exact ⟨a, xs, z, k, w, rfl, rfl, (x1.lst ea).at_, by omega, by omega, by rw [← hl]; exact hk, hw, f.nx _ _ _ L (es1.put ho e1 ((ra.ext (x1.hide _)).erase k) np) h2⟩
end
end MR

/-! Own lists out of comprehensions, tests that read own lists, append of pop, tuples repeated, is, not in a text, fifth powers. -/
namespace MR
open PySem PySem.Spec PyProof.Rows L2
theorem up_lcF {κ : Ky} {ti : TDI} {g : TDG} {tt : TB} {te : TD} {vs : List Nat} {σ : Sg} {H : Hp} {Q : VK} (h : upF κ (dLc ti g tt te vs) σ H Q) : tLc (upI κ ti) (upG κ vs g) (upT κ tt) (up κ te) vs σ H Q := by
  obtain ⟨δ, R, c, L, es, h, k⟩ := h
  refine ⟨δ, _, c, L, es, h, fun J H1 ds bs us x1 kb itk ⟨hz, h1⟩ D nD => ?_⟩
  have hl := kb.len
  have LD : L D = false := by
    cases q : L D with
    | false => rfl
    | true => exact absurd nD ((es.on x1).ldom D q).1
  have HD : H D = none := x1.none nD
  have H0D : c.H0 D = none := es.ext.none HD
  have PD : c.P D = false := by
    cases q : c.P D with
    | false => rfl
    | true => exact absurd H0D (es.pdom D q)
  -- the private lists, the new one besides
  have hsub : ∀ a, oor c.P L a = true → oor c.P (plus L D) a = true := fun a q => by
    unfold oor at q ⊢
    rw [Bool.or_eq_true] at q ⊢
    rcases q with q | q
    · exact .inl q
    · exact .inr (plus_of q)
  have xD : Ext (hide (oor c.P L) H1) (hide (oor c.P (plus L D)) (upd H1 D (.lst []))) := fun a o e => by
    unfold hide at e ⊢
    split at e
    · cases e
    · rename_i n
      have ne : a ≠ D := ne_of_none e nD
      rw [oor_ne ne, if_neg n, upd_ne ne]
      exact .inl e
  have ownD : ∀ (i : Nat) (xs : List PyData) (a : Addr), δ[i]? = some (Sl.own xs) → σ[i]? = some (some (V.ref a)) → a ≠ D := fun i xs a e1 e2 e3 => by
    obtain ⟨b, ys, q1, q2, q3, _⟩ := es.own i xs e1
    rw [e2] at q1
    cases q1
    rw [e3] at q2
    rw [q2] at LD
    cases LD
  have fresh : ∀ {Hc : Hp} {o : HO}, (∃ ys, Hc D = some (.lst ys)) → ES κ { c with bs := bs ++ c.bs, us := us ++ c.us } Hc (plus L D) δ σ → ES κ { c with bs := bs ++ c.bs, us := us ++ c.us } (upd Hc D o) (plus L D) δ σ := fun {Hc o} ⟨ys, hD⟩ s => by
    have eD : oor c.P (plus L D) D = true := oor_plus
    have eh : hide (oor c.P (plus L D)) (upd Hc D o) = hide (oor c.P (plus L D)) Hc := hide_same eD
    refine ⟨s.len, fun i d e => ?_, fun i xs e => ?_, s.sep, s.psys, s.pdom, fun a e => ⟨?_, (s.ldom a e).2⟩, fun a o' e => ?_, ?_, ?_, s.mp⟩
    · show ∃ v, _ ∧ Rv κ (hide (oor c.P (plus L D)) (upd Hc D o)) d v
      rw [eh]
      exact s.val i d e
    · obtain ⟨a, ys, q1, q2, q3, q4⟩ := s.own i xs e
      refine ⟨a, ys, q1, q2, ⟨by rw [upd_ne (ownD i xs a e q1)]; exact q3.at_, q3.np⟩, ?_⟩
      show RpA κ.K (hide (oor c.P (plus L D)) (upd Hc D o)) xs ys
      rw [eh]
      exact q4
    · by_cases ha : a = D
      · rw [ha, upd_same]
        exact Option.some_ne_none _
      · rw [upd_ne ha]
        exact (s.ldom a e).1
    · rw [upd_ne (ne_of_none e H0D)]
      exact s.ext a o' e
    · show RvA κ (hide (oor c.P (plus L D)) (upd Hc D o)) _ _
      rw [eh]
      exact s.kept
    · refine s.ods.mono (fun _ _ e => ⟨e, rfl⟩) (fun b u l h k => ⟨l, ?_⟩) ?_
      · rw [upd_ne (fun z => by rw [z, hD] at h; cases h; exact k)]
        exact h
      · show Ext _ (hide (oor c.P (plus L D)) (upd Hc D o))
        rw [eh]
        exact Ext.refl _
  have s0 : ES κ { c with bs := bs ++ c.bs, us := us ++ c.us } (upd H1 D (.lst [])) (plus L D) δ σ := by
    have s := (es.on x1).more kb
    refine ⟨s.len, fun i d e => ?_, fun i xs e => ?_, s.sep, s.psys, s.pdom, fun a e => ?_, s.ext.trans (Ext.new nD), s.kept.ext xD, s.ods.mono (fun _ _ e => ⟨e, rfl⟩) (fun b u l h _ => ⟨plus_of l, by rw [upd_ne (fun z => by rw [z] at l; rw [LD] at l; cases l)]; exact h⟩) xD, s.mp⟩
    · obtain ⟨v, q1, q2⟩ := s.val i d e
      exact ⟨v, q1, q2.ext xD⟩
    · obtain ⟨a, ys, q1, q2, q3, q4⟩ := s.own i xs e
      exact ⟨a, ys, q1, plus_of q2, ⟨by rw [upd_ne (ownD i xs a e q1)]; exact q3.at_, q3.np⟩, q4.ext xD⟩
    · by_cases ha : a = D
      · rw [ha, upd_same]
        exact ⟨Option.some_ne_none _, .inl H0D⟩
      · rw [plus_ne ha] at e
        rw [upd_ne ha]
        exact s.ldom a e
  refine ⟨fun i m Hc => i + m = ds.length ∧ ∃ accD acc, ES κ { c with bs := bs ++ c.bs, us := us ++ c.us } Hc (plus L D) δ σ ∧ Ext H Hc ∧ LstAt Hc D acc ∧ RpA κ.K (hide (oor c.P (plus L D)) Hc) accD acc ∧ accD.length ≤ i ∧ lcL g tt te (wipeD δ vs) (fun acc => R (.p (.list acc))) (ds.drop i) accD,
    ⟨ds.length, by omega, [], [], s0, x1.trans (Ext.new nD), ⟨upd_same, fun _ _ z => by cases z⟩, rfl, Nat.le_refl 0, h1⟩, fun i m Hc ⟨em, accD, acc, s, xc, eD, ra, hlen, hh⟩ => ?_⟩
  obtain ⟨s2, kb2⟩ := s.less hl
  by_cases hi : i < ds.length
  · rw [List.drop_eq_getElem_cons hi] at hh
    refine .inr ⟨itk.go Hc _ i s2.dom kb2 hi, fun H' => ∃ accD acc, ES κ { c with bs := bs ++ c.bs, us := us ++ c.us } H' (plus L D) δ σ ∧ Ext H H' ∧ LstAt H' D acc ∧ RpA κ.K (hide (oor c.P (plus L D)) H') accD acc ∧ accD.length ≤ i + 1 ∧ lcL g tt te (wipeD δ vs) (fun acc => R (.p (.list acc))) (ds.drop (i + 1)) accD,
      fun H' ⟨accD, acc, a1, a2, a3, a4, a5, a6⟩ => ⟨m - 1, by omega, by omega, accD, acc, a1, a2, a3, a4, a5, a6⟩, fun x H2 hy => ?_⟩
    obtain ⟨y, ey, x2, ry⟩ := itk.yld Hc _ i x H2 s2.dom kb2 hi hy
    rw [List.getElem?_eq_getElem hi] at ey
    cases ey
    refine ⟨.p ds[i], wipeD δ vs, _, _, _, (s.on x2).wipe vs, ry, hh, fun δ3 σ3 s3 ew h3 => ⟨?_, ⟨δ3, _, _, _, s3, h3, fun b H3 x3 h4 => ?_⟩⟩⟩
    · rw [ew]
      apply List.ext_getElem?
      intro j
      have two : ∀ (ws : List Nat) (τ : Sg), (∀ v ∈ ws, v ∈ vs) → L2.wipe (L2.wipe τ vs) ws = L2.wipe τ vs := by
        intro ws
        induction ws with
        | nil => intro τ _; rfl
        | cons w ws ih =>
          intro τ hw
          show (L2.wipe (L2.wipe τ vs) ws).set w none = L2.wipe τ vs
          rw [ih τ fun v hv => hw v (List.mem_cons_of_mem _ hv)]
          have hwv := hw w List.mem_cons_self
          apply List.ext_getElem?
          intro j
          by_cases hj : j = w
          · subst hj
            by_cases hlt : j < τ.length
            · rw [List.getElem?_set_self (by rw [wipe_length]; exact hlt), List.getElem?_eq_getElem (by rw [wipe_length]; exact hlt)]
              cases e : (L2.wipe τ vs)[j]'(by rw [wipe_length]; exact hlt) with
              | none => rfl
              | some v =>
                have q := wipe_some (σ := τ) (vs := vs) (i := j) (x := v) (by rw [List.getElem?_eq_getElem (by rw [wipe_length]; exact hlt), e])
                exact absurd hwv q.2
            · rw [List.getElem?_eq_none (by rw [List.length_set, wipe_length]; omega), List.getElem?_eq_none (by rw [wipe_length]; omega)]
          · rw [List.getElem?_set_ne (Ne.symm hj)]
      rw [two vs σ fun _ h => h]
    · have done : ∀ {H' : Hp}, Ext H2 H' → lcL g tt te (wipeD δ vs) (fun acc => R (.p (.list acc))) (ds.drop (i + 1)) accD → ∃ accD acc, ES κ { c with bs := bs ++ c.bs, us := us ++ c.us } H' (plus L D) δ σ ∧ Ext H H' ∧ LstAt H' D acc ∧ RpA κ.K (hide (oor c.P (plus L D)) H') accD acc ∧ accD.length ≤ i + 1 ∧ lcL g tt te (wipeD δ vs) (fun acc => R (.p (.list acc))) (ds.drop (i + 1)) accD :=
        fun {H'} x h => ⟨accD, acc, s.on (x2.trans x), xc.trans (x2.trans x), (x2.trans x).lst eD, ra.ext ((x2.trans x).hide _), Nat.le_succ_of_le hlen, h⟩
      cases b with
      | false => exact done x3 h4
      | true =>
        show up κ te σ3 H3 _
        refine ⟨δ3, _, _, _, s3.on x3, h4, fun v H4 d x4 r4 h5 => ?_⟩
        obtain ⟨z, rfl, hnp, h6⟩ := asP_of h5
        have xx := x2.trans (x3.trans x4)
        have rr : RpA κ.K (hide (oor c.P (plus L D)) H4) (accD ++ [z]) (acc ++ [v]) := RpA.app (ra.ext (xx.hide _)) ⟨v, [], rfl, r4, rfl⟩
        refine ⟨acc, (xx.lst eD).at_, by rw [← ra.len]; omega, accD ++ [z], acc ++ [v], fresh ⟨_, (xx.lst eD).at_⟩ (s.on xx), fun a o e => ?_, ⟨upd_same, noP_of rr hnp⟩, ?_, by rw [List.length_append, List.length_singleton]; omega, h6⟩
        · have ne : a ≠ D := ne_of_none e HD
          rw [upd_ne ne]
          exact (xc.trans xx) a o e
        · rw [hide_same oor_plus]
          exact RpA.app (ra.ext (xx.hide _)) ⟨v, [], rfl, r4, rfl⟩
  · rw [List.drop_eq_nil_of_le (by omega)] at hh
    exact .inl ⟨itk.stop Hc _ i s2.dom kb2 (by omega), k D Hc accD acc xc HD eD ra hh⟩

section
variable {X : Cx} {elt tg iter : Expr} {ifs : List Expr} {scope : Scope} {own : List (Str × Nat)} {pos : Pos} {ti : TDI} {g : TDG} {tt : TB} {te : TD}
theorem ds_setLcO {i : Nat} {y : Str} {py spos : Pos} (hc : X.calm = true) (hN : X.N.Nodup) (hy : X.N[i]? = some y) (hyl : X.env.scope.names.lookup y = some .local)
    (hsw : swapsWith (.ListComp elt [⟨tg, iter, ifs, 0⟩] scope pos) (some (.Name y py)) spos.line X.env = pure true) (hi : PI X tg iter (upI (Cx.ky X) ti)) (ok : BlkOk X.N X.env.scope scope own)
    (hg : ∀ (s : Shared) (H : Hp) (C : Addr) (cl : List (Str × Addr)) (fp : List Addr), PG (X.blk s H scope (compEnvC scope cl C X.env) fp) tg (upG (Cx.ky X) (own.map (·.2)) g)) (ht : ∀ (s : Shared) (H : Hp) (C : Addr) (cl : List (Str × Addr)) (fp : List Addr), PTs (X.blk s H scope (compEnvC scope cl C X.env) fp) ifs (upT (Cx.ky X) tt))
    (he : ∀ (s : Shared) (H : Hp) (C : Addr) (cl : List (Str × Addr)) (fp : List Addr), PE (X.blk s H scope (compEnvC scope cl C X.env) fp) elt (up (Cx.ky X) te)) (hs : ∀ x, foldedSetIterable iter X.env x = pure x := by intro _; rfl) :
    PS X (.Assign [.Name y py] (.ListComp elt [⟨tg, iter, ifs, 0⟩] scope pos) spos) (upS (Cx.ky X) (dSetO i (dLc ti g tt te (own.map (·.2))))) := by
  refine PS.imp (ps_setLc hc hN hy hyl hsw hi ok hg ht he hs) fun D σ H ⟨δ, E, c, L, es, h, f⟩ => ?_
  exact up_lcF ⟨δ, _, c, L, es, h, fun p H1 ds xs x1 hp ep r h1 => f.nx _ _ H1 _ (es.own1 x1 hp ep r) h1⟩
end
/-! ### tests that read an own list -/
def dFrzT (i : Nat) (t : TB) : TB := fun δ R => match δ.getD i .un with
  | .own ds => t (δ.set i (.v (.p (.list ds)))) R
  | _ => False
theorem dt_frz {X : Cx} {c : Expr} {t : TB} {i : Nat} (h : PT X c (upT (Cx.ky X) t)) : PT X c (upT (Cx.ky X) (dFrzT i t)) := by
  refine PT.imp h fun σ H Q ⟨δ, R, c, L, es, h, k⟩ => ?_
  unfold dFrzT at h
  cases q : δ.getD i .un with
  | un => rw [q] at h; exact h.elim
  | v d => rw [q] at h; exact h.elim
  | od o => rw [q] at h; exact h.elim
  | own ds =>
    rw [q] at h
    obtain ⟨L', es'⟩ := es.frz (getD_own q)
    exact ⟨_, R, c, L', es', h, k⟩
/-! ### xs.append(ys.pop(e)) -/
def dAppPop (i j : Nat) (t : TD) : TDS := fun E δ => match δ.getD i .un, δ.getD j .un with
  | .own ds, .own es => t δ fun d => asI d fun z => ∃ k y, seqIndex? z es.length = some k ∧ es[k]? = some y ∧ 0 ≤ z ∧ z < 2 ^ 62 ∧ nP (es.eraseIdx k) = true ∧ ds.length < sizeLine ∧ nP (ds ++ [y]) = true ∧ E.nx ((δ.set j (.own (es.eraseIdx k))).set i (.own (ds ++ [y])))
  | _, _ => False
section
variable {X : Cx} {e o1 o2 : Expr} {te : TD} {st : Stmt} {i j : Nat}
theorem ds_appPop (hij : i ≠ j) (he : PE X e (up (Cx.ky X) te)) (h : ∀ {ta : TA}, PA X [e] ta → PS X st (tDrop (tBM X.K "list" rAppend (tVar i) (tCons (tBM X.K "list" rPopAt (tVar j) ta) tNil))))
    (hs : starEach [e] X.env = (false, eval e X.env) :: starEach [] X.env := by rfl) : PS X st (upS (Cx.ky X) (dAppPop i j te)) := by
  refine PS.imp (h (da_cons he da_nil hs)) fun D σ H ⟨δ, E, c, L, es, h, f⟩ => ?_
  unfold dAppPop at h
  cases q : δ.getD i .un with
  | un => rw [q] at h; exact h.elim
  | v d => rw [q] at h; exact h.elim
  | od o => rw [q] at h; exact h.elim
  | own ds =>
    cases q2 : δ.getD j .un with
    | un => rw [q, q2] at h; exact h.elim
    | v d => rw [q, q2] at h; exact h.elim
    | od o => rw [q, q2] at h; exact h.elim
    | own ls =>
      rw [q, q2] at h
      have ho := getD_own q
      have ho2 := getD_own q2
      obtain ⟨a, xs, e1, la, ea, ra⟩ := es.own i ds ho
      obtain ⟨b, ys, f1, lb, eb, rb⟩ := es.own j ls ho2
      have hab : a ≠ b := fun z => by
        subst z
        exact es.sep i j ds ls a hij ho ho2 e1 f1
      refine ⟨.ref a, e1, .inl ⟨rfl, _, .inl (.inl ea.at_)⟩, .ref b, f1, .inl ⟨rfl, _, .inl (.inl eb.at_)⟩, δ, fun ds' => (match ds' with | [d] => asI d fun z => ∃ k y, seqIndex? z ls.length = some k ∧ ls[k]? = some y ∧ 0 ≤ z ∧ z < 2 ^ 62 ∧ nP (ls.eraseIdx k) = true ∧ ds.length < sizeLine ∧ nP (ds ++ [y]) = true ∧ E.nx ((δ.set j (.own (ls.eraseIdx k))).set i (.own (ds ++ [y]))) | _ => False), c, L, es, h, fun vs H1 ds' x1 r1 h1 => ?_⟩
      obtain ⟨z, rfl, k, y, hk, hy, h0, hz, np1, hl, np2, h2⟩ : ∃ z, ds' = [.p (.int z)] ∧ ∃ k y, seqIndex? z ls.length = some k ∧ ls[k]? = some y ∧ 0 ≤ z ∧ z < 2 ^ 62 ∧ nP (ls.eraseIdx k) = true ∧ ds.length < sizeLine ∧ nP (ds ++ [y]) = true ∧ E.nx ((δ.set j (.own (ls.eraseIdx k))).set i (.own (ds ++ [y]))) := by
        match ds', h1 with
        | [d], h1 =>
          obtain ⟨z, rfl, h2⟩ := asI_of h1
          exact ⟨z, rfl, h2⟩
      obtain ⟨v, rfl, rv⟩ := rvA1 r1
      have ev : v = .int z := rv
      subst ev
      have es1 := es.on x1
      have rb1 := rb.ext (x1.hide (oor c.P L))
      have ra1 := ra.ext (x1.hide (oor c.P L))
      obtain ⟨w, hw, rw1⟩ := rb1.get hy
      have es2 := es1.put ho2 f1 (rb1.erase k) np1
      have oL : oor c.P L b = true := by unfold oor; rw [lb, Bool.or_true]
      have eh : hide (oor c.P L) (upd H1 b (.lst (ys.eraseIdx k))) = hide (oor c.P L) H1 := hide_same oL
      have ho3 : (δ.set j (.own (ls.eraseIdx k)))[i]? = some (.own ds) := by rw [List.getElem?_set_ne (Ne.symm hij)]; exact ho
      refine ⟨b, ys, z, k, w, rfl, rfl, (x1.lst eb).at_, by omega, by omega, by rw [← rb.len]; exact hk, hw, a, xs, w, rfl, rfl, ?_, by rw [← ra.len]; exact hl, f.nx _ _ _ L (es2.put ho3 e1 (by rw [eh]; exact ra1.app (show RpA X.K _ [y] [w] from ⟨w, [], rfl, rw1, rfl⟩)) np2) h2⟩
      rw [upd_ne hab]
      exact (x1.lst ea).at_
end
/-! ### operations -/
section
variable {X : Cx}
def fNotInS : F2 := fun d e R => asS d fun x => asS e fun y => R (.p (.bool (!inS x y)))
theorem od_notinS : OpR X (compareOp .NotIn) (upO (Cx.ky X) fNotInS) := OpR.imp op_notIn_str fun x y H Q ⟨d, e, R, P, dm, r1, r2, h1, k⟩ => by
  obtain ⟨a, rfl, h2⟩ := asS_of h1
  obtain ⟨b, rfl, h3⟩ := asS_of h2
  exact ⟨a, b, r1, r2, k _ H (.p (.bool (!inS a b))) (Ext.refl H) rfl h3⟩
def fIsB : F2 := fun d e R => asB d fun x => asB e fun y => R (.p (.bool (decide (x = y))))
theorem od_isB : OpR X (compareOp .Is) (upO (Cx.ky X) fIsB) := OpR.imp op_isBl fun x y H Q ⟨d, e, R, P, dm, r1, r2, h1, k⟩ => by
  obtain ⟨a, rfl, h2⟩ := asB_of h1
  obtain ⟨b, rfl, h3⟩ := asB_of h2
  exact ⟨a, b, r1, r2, k _ H (.p (.bool (decide (a = b)))) (Ext.refl H) rfl h3⟩
abbrev CPw5 (i j : Int) : Prop := 0 ≤ j ∧ j ≤ 60 ∧ Bd 2000000 i
theorem od_pow5 : OpR X (binaryOp .Pow) (upO (Cx.ky X) (fI CPw5 fun i j => i ^ j.toNat)) := OpR.imp (opI (C := fun i j => CPw5 i j) (g := fun i j => i ^ j.toNat) fun i j t u s Q E hc q => pow_int hc.1 (by
    have b := hc.2.2.bits
    have h1 := hc.1
    have h2 := hc.2.1
    have : (Builtin.Int.intBits i : Int) * j ≤ 2000000 * 60 := Int.mul_le_mul (by omega) h2 h1 (by decide)
    omega) q) fun x y H Q h => up_I h
end
/-! ### tuples repeated, any number of times -/
theorem tuple_mul1 (l : Addr) (items : Array Value) (n : Nat) (dd : Option Addr) (sl : Array (Option Value)) (x : Int) (u : Tok) (c0 : (decide (x < -(2 ^ 63)) || decide (x ≥ 2 ^ 63)) = false) (c1 : (items.isEmpty || x == 1) = true) :
    Meets (Builtin.«tuple.__mul__» ⟨[.ref l, .int x u], []⟩) (fun _ R s => s.heap.get? l = some { cls := .type "tuple", dict := dd, data := .seq items n, slots := sl } ∧
      R (.ok (.ret (Value.ref l))) s) :=
  .of_wp fun prog w A R s h => by
    obtain ⟨hp, g, d, tk, os⟩ := s
    obtain ⟨hl, h⟩ := h
    have f1 := AutoSeq1.idx_int
    wp_walk using AutoSeq1.wpAny_loadPart' hl
    repeat (first
      | (refine wpAny_ite_false (decide_eq_false (by rw [c0]; exact Bool.false_ne_true)) ?_; wp_walk using AutoSeq1.wpAny_loadPart' hl)
      | (refine wpAny_ite_true (decide_eq_true c1) ?_; wp_walk using AutoSeq1.wpAny_loadPart' hl))
    exact ⟨_, rfl, h⟩
theorem op_repT1 {X : Cx} : OpR X (binaryOp .Mult) (fun x y H Q => ∃ l xs k, x = .ref l ∧ y = .int k ∧ SqT X.K H l xs ∧ (xs = [] ∨ k = 1) ∧ 0 ≤ k ∧ k < 2 ^ 62 ∧ Q (.ref l) H) := by
  intro pins s σ H x y v u Q I rx ry h
  obtain ⟨l, xs, k, rfl, rfl, hT, hne, hk0, hk1, q⟩ := h
  cases rx
  obtain ⟨t, rfl⟩ := ry
  obtain ⟨its, r, ⟨⟨cls, dd, data, sl⟩, ho, hc, n, hd⟩, hs⟩ := I.tuple hT
  simp only at hc hd
  subst hc hd
  have hle : its.length = xs.length := r.length.symm
  have c0 : (decide (k < -(2 ^ 63)) || decide (k ≥ 2 ^ 63)) = false := by
    rw [decide_eq_false (by omega), decide_eq_false (by omega)]
    rfl
  have c1 : (its.toArray.isEmpty || k == 1) = true := by
    rcases hne with e | e
    · have : its = [] := List.eq_nil_of_length_eq_zero (by rw [hle, e]; rfl)
      rw [this]
      rfl
    · rw [e]
      simp
  exact wpAny_binaryOp_repeat_ref (T := "tuple") (U := "int") (by decide) ⟨_, ho, rfl⟩ (fun s' => typeIs_int s' k t) noFill_tuple_mul F.fills_int_mul F.slot_int_rmul repeat_tuple F.slot_int_index.lookup
    (call_meets F.slot_int_rmul (typeIs_int s k t) F.entry_int_rmul (F.args_int_rmul_2 _ _) (int_rmul_tuple k t l its.toArray n dd sl)
      ⟨ho, rfl, ⟨_, ho, rfl⟩, call_meets F.slot_tuple_mul ⟨_, ho, rfl⟩ F.entry_tuple_mul (F.args_tuple_mul_2 _ _) (tuple_mul1 l its.toArray n dd sl k t c0 c1) ⟨ho, .ref l, H, I, rfl, q⟩⟩)
def fRepT1 : F2 := fun d e R => asU d fun xs => asI e fun k => 0 ≤ k ∧ k ≤ 1000 ∧ xs.length ≤ 1000 ∧ R (.p (.tuple (List.replicate k.toNat xs).flatten))
theorem od_repT1 {X : Cx} : OpR X (binaryOp .Mult) (upO (Cx.ky X) fRepT1) := by
  intro pins s σ H x y v u Q I rx ry ⟨d, e, R, P, dm, r1, r2, h, k⟩
  obtain ⟨ds, rfl, h0⟩ := asU_of h
  obtain ⟨i, rfl, h1, h2, h3, h4⟩ := asI_of h0
  obtain ⟨a, xs, ev, q, ra⟩ := id r1
  by_cases hs : ds = [] ∨ i = 1
  · have e2 : (List.replicate i.toNat ds).flatten = ds := by
      rcases hs with e | e
      · rw [e]
        induction i.toNat with
        | zero => rfl
        | succ n ih => rw [List.replicate_succ, List.flatten_cons, ih]; rfl
      · rw [e]
        simp
    rw [e2] at h4
    have xe : xs = [] ∨ i = 1 := hs.imp (fun z => List.eq_nil_of_length_eq_zero (by rw [← ra.len, z]; rfl)) id
    exact op_repT1 pins s σ H x y v u Q I rx ry ⟨a, xs, i, ev, r2, (hide_ext P H).seqT q, xe, h1, by omega, k _ H (.p (.tuple ds)) (Ext.refl H) (by rw [← ev]; exact r1) h4⟩
  · have ne : ds ≠ [] := fun z => hs (.inl z)
    have n1 : i ≠ 1 := fun z => hs (.inr z)
    exact od_repT pins s σ H x y v u Q I rx ry ⟨_, _, R, P, dm, r1, r2, ⟨ne, by omega, h2, h3, h4⟩, k⟩
end MR

/-! Two own lists at once. -/
namespace MR
open PySem PySem.Spec PyProof.Rows L2
def dListO (t : TD) : TD := fun δ R => t δ fun d => asP d fun z => ∃ zs, (z = .list zs ∨ z = .tuple zs) ∧ nP zs = true ∧ R (.p (.list zs))
def dParO (i j : Nat) (t : TD) : TDS := fun E δ => t δ fun d => asL d fun ds => E.nx ((δ.set i (.own ds)).set j (.own []))
section
variable {X : Cx} {e a b : Expr} {te ta : TD} {pos p : Pos} {x y : Str} {i j : Nat}
theorem df_listOf (he : PE X e (up (Cx.ky X) te)) (hg : Gl X "list") (hm : X.mg "list" = none) (hs : starEach [e] X.env = (false, eval e X.env) :: starEach [] X.env := by rfl) (hpl : (backTo pos (starEach [] X.env)).any (·.1) = false := by rfl) : PE X (.Call (.Name "list" p) [e] [] pos) (upF (Cx.ky X) (dListO te)) := by
  refine PE.imp (pe_callTy call_list_of hg hm (by decide +kernel) (pa_cons he pa_nil hs) (by decide) (by decide) hs hpl) fun σ H Q ⟨δ, R, c, L, es, h, k⟩ => ⟨δ, _, c, L, es, h, fun v H1 d x1 r1 h1 => ?_⟩
  obtain ⟨z, rfl, zs, hz, np, h2⟩ := asP_of h1
  have key : ∃ p xs, v = V.ref p ∧ (SqL X.K H1 p xs ∨ SqT X.K H1 p xs) ∧ RpA X.K (hide (oor c.P L) H1) zs xs := by
    rcases hz with rfl | rfl
    · obtain ⟨a, xs, e, q, ra⟩ := r1
      exact ⟨a, xs, e, .inl (SqL.of ((hide_ext _ _).lst q).at_), ra⟩
    · obtain ⟨a, xs, e, q, ra⟩ := r1
      exact ⟨a, xs, e, .inr ((hide_ext _ _).seqT q), ra⟩
  obtain ⟨a, xs, e, q, ra⟩ := key
  subst e
  exact ⟨a, xs, rfl, q, fun l hl => k l _ zs xs (x1.trans (Ext.new hl)) (x1.none hl) ⟨upd_same, noP_of ra np⟩ (ra.ext (xplus (κ := Cx.ky X) (c := c) hl)) h2⟩
theorem ds_parO {px py pt : Pos} {kt k2 pt2 pb} (hij : i ≠ j) (ha : PE X a (upF (Cx.ky X) ta)) (h : ∀ {t : TA}, PA X [a, .List [] pb] t → PS X (.Assign [.Tuple [.Name x px, .Name y py] kt pt] (.Tuple [a, .List [] pb] k2 pt2) pos) (tPar i j t))
    (hs : starEach [a, .List [] pb] X.env = (false, eval a X.env) :: starEach [.List [] pb] X.env := by rfl) : PS X (.Assign [.Tuple [.Name x px, .Name y py] kt pt] (.Tuple [a, .List [] pb] k2 pt2) pos) (upS (Cx.ky X) (dParO i j ta)) := by
  refine PS.imp (h (pa_cons ha (pa_cons (pe_lst pa_nil) pa_nil) hs)) fun D σ H ⟨δ, E, c, L, es, h, f⟩ => ⟨δ, _, c, L, es, h, fun p H1 ds xs x1 hp ep r h1 => ?_⟩
  refine ⟨by show 0 ≤ sizeLine; exact Nat.zero_le _, fun q hq => ⟨.ref p, .ref q, rfl, ?_⟩⟩
  have es1 := es.own1 x1 hp ep r (i := i)
  have es2 := es1.own1 (Ext.new hq) hq ⟨upd_same, fun _ _ z => by cases z⟩ (show RpA X.K _ [] [] from rfl) (i := j)
  exact f.nx _ _ _ _ es2 h1
end
end MR

/-! Houses: lent to be read. -/
namespace MR
open PySem PySem.Spec PyProof.Rows L2

/-! ### what data is read from: no instance, no locked dict -/
def datK : HO → Prop
  | .lst _ => True
  | .tup _ => True
  | .frz _ (.tup _) => True
  | .dK _ => True
  | _ => False
def ExtD (H H' : Hp) : Prop := ∀ a o, H a = some o → datK o → H' a = some o
theorem ExtD.seqT {K : PySem.W.Frag} {H H' : Hp} {a : Addr} {xs : List V} (x : ExtD H H') (h : SqT K H a xs) : SqT K H' a xs := by
  rcases h with (h | ⟨o, h⟩) | h
  · exact .inl (.inl (x a _ h trivial))
  · exact .inl (.inr ⟨o, x a _ h trivial⟩)
  · exact .inr h
mutual
theorem Rp.extD {K : PySem.W.Frag} {H H' : Hp} (x : ExtD H H') : ∀ {d : PyData} {v : V}, Rp K H d v → Rp K H' d v
  | .none, _, h => h
  | .bool _, _, h => h
  | .int _, _, h => h
  | .str _, _, h => h
  | .list _, _, ⟨a, xs, e, q, r⟩ => ⟨a, xs, e, ⟨x a _ q.at_ trivial, q.np⟩, RpA.extD x r⟩
  | .tuple _, _, ⟨a, xs, e, q, r⟩ => ⟨a, xs, e, x.seqT q, RpA.extD x r⟩
  | .dict _, _, ⟨a, es, e, q, n, r⟩ => ⟨a, es, e, x a _ q trivial, n, RpK.extD x r⟩
theorem RpA.extD {K : PySem.W.Frag} {H H' : Hp} (x : ExtD H H') : ∀ {ds : List PyData} {vs : List V}, RpA K H ds vs → RpA K H' ds vs
  | [], _, h => h
  | _ :: _, _, ⟨v, r, e, h, t⟩ => ⟨v, r, e, Rp.extD x h, RpA.extD x t⟩
theorem RpK.extD {K : PySem.W.Frag} {H H' : Hp} (x : ExtD H H') : ∀ {ds : List (PyData × PyData)} {vs : List (Key × V)}, RpK K H ds vs → RpK K H' ds vs
  | [], _, h => h
  | (_, _) :: _, _, ⟨k, v, q, e, ek, h, t⟩ => ⟨k, v, q, e, ek, Rp.extD x h, RpK.extD x t⟩
end
theorem mem_t {as : List Addr} {b : Addr} : mem as b = true ↔ b ∈ as := by unfold mem; rw [decide_eq_true_iff]
theorem mem_f {as : List Addr} {b : Addr} : mem as b = false ↔ b ∉ as := by unfold mem; rw [decide_eq_false_iff_not]
def lessA (L : Addr → Bool) (as : List Addr) : Addr → Bool := fun b => L b && !mem as b
theorem lessA_t {L : Addr → Bool} {as : List Addr} {b : Addr} : lessA L as b = true ↔ L b = true ∧ b ∉ as := by
  unfold lessA
  rw [Bool.and_eq_true, Bool.not_eq_true', mem_f]
theorem lessA_f {L : Addr → Bool} {as : List Addr} {b : Addr} (h : b ∈ as) : lessA L as b = false := by
  unfold lessA
  rw [mem_t.mpr h, Bool.not_true, Bool.and_false]
theorem hide_f {P : Addr → Bool} {H : Hp} {a : Addr} {o : HO} (h : hide P H a = some o) : P a = false ∧ H a = some o := by
  unfold hide at h
  split at h
  · cases h
  · rename_i n
    exact ⟨Bool.eq_false_iff.mpr n, h⟩
theorem hide_t {P : Addr → Bool} {H : Hp} {a : Addr} {o : HO} (p : P a = false) (h : H a = some o) : hide P H a = some o := by rw [hide_at p]; exact h
theorem oor_f {P L : Addr → Bool} {b : Addr} : oor P L b = false ↔ P b = false ∧ L b = false := by unfold oor; rw [Bool.or_eq_false_iff]
section
variable {κ : Ky} {c : Sc} {H H' : Hp} {L : Addr → Bool} {δ : Dn} {σ : Sg} {i : Nat} {C a d : Addr} {es : Ents}
theorem ES.lp (s : ES κ c H L δ σ) {b : Addr} (h : L b = true) : c.P b = false := by
  cases q : c.P b with
  | false => rfl
  | true =>
    rcases (s.ldom b h).2 with z | z
    · exact absurd z (s.pdom b q)
    · rw [s.mp b z] at q; cases q
theorem ES.sys (s : ES κ c H L δ σ) {b : Addr} (h : L b = true) : b ≠ sysModules := fun z => by
  have := s.lp h
  rw [z, s.psys] at this
  cases this
theorem getD_od {o : OD} (h : δ.getD i .un = .od o) : δ[i]? = some (.od o) := by
  rw [List.getD_eq_getElem?_getD] at h
  cases e : δ[i]? with
  | none => rw [e] at h; cases h
  | some s => rw [e] at h; cases h; rfl
theorem own_not {a b : Addr} {xs : List V} {u : HO} (h : LstAt H b xs) (hu : H a = some u) (k : odK u) : b ≠ a := fun z => by
  have := h.at_
  rw [z, hu] at this
  cases this
  exact k
/-- lent to be read: its dict locked -/
theorem ES.lend (s : ES κ c H L δ σ) (ho : δ[i]? = some (.od (.hs C a d es))) : ∃ kvs, H d = some (.dK kvs) ∧ a ≠ d ∧ L a = true ∧ L d = true ∧ (∃ C dx fs, H a = some (.ins C dx fs)) ∧ ∀ od, ES κ c (upd H d (.frz od (.dK kvs))) (lessA L [a, d]) (δ.set i (.v (.hs C es))) σ := by
  obtain ⟨e1, ⟨dx, vm, kvs, h1, h2, r⟩, hl⟩ := s.ods.rd i _ ho
  have la : L a = true := hl a List.mem_cons_self
  have ld : L d = true := hl d (List.mem_cons_of_mem _ List.mem_cons_self)
  have ad : a ≠ d := fun z => by rw [z, h2] at h1; cases h1
  refine ⟨kvs, h2, ad, la, ld, ⟨_, _, _, h1⟩, fun od => ?_⟩
  have up_ : ∀ {b o}, H b = some o → b ≠ d → upd H d (.frz od (.dK kvs)) b = some o := fun h n => by rw [upd_ne n]; exact h
  have x : Ext (hide (oor c.P L) H) (hide (oor c.P (lessA L [a, d])) (upd H d (.frz od (.dK kvs)))) := fun b o e => by
    obtain ⟨p, h⟩ := hide_f e
    obtain ⟨p1, p2⟩ := oor_f.mp p
    refine .inl (hide_t (oor_f.mpr ⟨p1, ?_⟩) (up_ h fun z => by rw [z, ld] at p2; cases p2))
    unfold lessA
    rw [p2, Bool.false_and]
  have il : i < δ.length := (List.getElem?_eq_some_iff.mp ho).1
  refine ⟨by rw [List.length_set]; exact s.len, fun j e q => ?_, fun j ds q => ?_, fun j k ds fs b n q1 q2 q3 => ?_, s.psys, s.pdom, fun b hb => ?_, fun b o e => ?_, s.kept.ext x, ?_, s.mp⟩
  · rcases set_get_v q with ⟨rfl, z, _⟩ | ⟨_, z⟩
    · cases z
      refine ⟨.ref a, e1, a, d, dx, vm, od, kvs, rfl, hide_t (oor_f.mpr ⟨s.lp la, lessA_f List.mem_cons_self⟩) (up_ h1 ad), hide_t (oor_f.mpr ⟨s.lp ld, lessA_f (List.mem_cons_of_mem _ List.mem_cons_self)⟩) upd_same, r.ext x⟩
    · obtain ⟨v, q1, q2⟩ := s.val j e z
      exact ⟨v, q1, q2.ext x⟩
  · rcases set_get_own q with ⟨_, z, _⟩ | ⟨nj, z⟩
    · cases z
    · obtain ⟨b, ys, q1, q2, q3, q4⟩ := s.own j ds z
      have n1 := own_not q3 h1 trivial
      have n2 := own_not q3 h2 trivial
      exact ⟨b, ys, q1, lessA_t.mpr ⟨q2, fun m => (List.mem_cons.mp m).elim n1 fun m => n2 (List.mem_singleton.mp m)⟩, ⟨up_ q3.at_ n2, q3.np⟩, q4.ext x⟩
  · rcases set_get_own q1 with ⟨_, z, _⟩ | ⟨_, z1⟩
    · cases z
    · rcases set_get_own q2 with ⟨_, z, _⟩ | ⟨_, z2⟩
      · cases z
      · exact s.sep j k ds fs b n z1 z2 q3
  · obtain ⟨hb1, hb2⟩ := lessA_t.mp hb
    obtain ⟨q1, q2⟩ := s.ldom b hb1
    exact ⟨by rw [upd_ne (fun z => hb2 (by rw [z]; exact List.mem_cons_of_mem _ List.mem_cons_self))]; exact q1, q2⟩
  · by_cases z : b = d
    · subst z
      rcases (s.ldom b ld).2 with z | z
      · rw [z] at e; cases e
      · exact .inr ⟨z, by rw [upd_same]; exact Option.some_ne_none _⟩
    · rw [upd_ne z]
      exact s.ext b o e
  · refine ⟨fun j o q => ?_, fun j k o o' n q1 q2 => s.ods.dj j k o o' n (od_set (fun _ z => by cases z) q1).2 (od_set (fun _ z => by cases z) q2).2⟩
    obtain ⟨nj, q⟩ := od_set (fun _ z => by cases z) q
    obtain ⟨q1, q2, q3⟩ := s.ods.rd j o q
    have dj := s.ods.dj j i o _ nj q ho
    refine ⟨q1, q2.mono (fun b u m hb _ => up_ hb fun z => ?_) x, fun b m => lessA_t.mpr ⟨q3 b m, dj b m⟩⟩
    subst z
    exact dj b m (List.mem_cons_of_mem _ List.mem_cons_self)
def dLend (i : Nat) (t : TD) : TD := fun δ R => match δ.getD i .un with
  | .od (.hs C _ _ es) => t (δ.set i (.v (.hs C es))) fun r => asP r fun z => R (.p z)
  | _ => False
theorem de_lend {X : Cx} {e : Expr} {t : TD} (he : PE X e (up (Cx.ky X) t)) : PE X e (up (Cx.ky X) (dLend i t)) := by
  refine PE.imp (pe_lock he) fun σ H Q ⟨δ, R, c, L, s, h, k⟩ => ?_
  unfold dLend at h
  cases q : δ.getD i .un with
  | un => rw [q] at h; exact h.elim
  | v _ => rw [q] at h; exact h.elim
  | own _ => rw [q] at h; exact h.elim
  | od o =>
    rw [q] at h
    cases o with
    | dc _ _ => exact h.elim
    | hs C a d es =>
      obtain ⟨kvs, hd, ad, la, ld, ⟨C', dx, fs, ha⟩, hes⟩ := s.lend (getD_od q)
      refine ⟨d, .dK kvs, hd, trivial, fun od => ⟨_, _, c, _, hes od, h, fun v H' r x rr h2 => ?_⟩⟩
      obtain ⟨z, rfl, h3⟩ := asP_of h2
      have fd : H' d = some (.frz od (.dK kvs)) := x.keep upd_same fun ⟨_, _, z, _⟩ => by cases z
      have fa : H' a = some (.ins C' dx fs) := x.keep (by rw [upd_ne ad]; exact ha) fun ⟨_, _, z, _⟩ => by cases z
      refine ⟨fd, k v _ (.p z) (fun b o e => ?_) (Rp.extD (fun b o e dk => ?_) rr) h3⟩
      · by_cases zb : b = d
        · subst zb
          rw [hd] at e
          cases e
          exact .inl upd_same
        · rw [upd_ne zb]
          exact x b o (by rw [upd_ne zb]; exact e)
      · obtain ⟨p, hb⟩ := hide_f e
        obtain ⟨p1, p2⟩ := oor_f.mp p
        have nd : b ≠ d := fun z => by rw [z, fd] at hb; cases hb; exact dk
        have na : b ≠ a := fun z => by rw [z, fa] at hb; cases hb; exact dk
        refine hide_t (oor_f.mpr ⟨p1, ?_⟩) (by rw [upd_ne nd]; exact hb)
        cases lb : L b with
        | false => rfl
        | true =>
          have : lessA L [a, d] b = true := lessA_t.mpr ⟨lb, fun m => (List.mem_cons.mp m).elim na fun m => nd (List.mem_singleton.mp m)⟩
          rw [this] at p2
          cases p2
end
end MR

/-! Houses: lent to be changed; defs that change one. -/
namespace MR
open PySem PySem.Spec PyProof.Rows L2
def OD.like : OD → OD → Prop
  | .hs C a d _, .hs C' a' d' _ => C' = C ∧ a' = a ∧ d' = d
  | .dc d _, .dc d' _ => d' = d
  | _, _ => False
theorem OD.like.as {o o' : OD} (h : o.like o') : o'.as = o.as := by
  cases o <;> cases o' <;> first | exact h.elim | (obtain ⟨_, h1, h2⟩ := h; subst h1 h2; rfl) | (have h : _ = _ := h; subst h; rfl)
theorem OD.like.at_ {o o' : OD} (h : o.like o') : o'.at_ = o.at_ := by
  cases o <;> cases o' <;> first | exact h.elim | (obtain ⟨_, h1, h2⟩ := h; subst h1 h2; rfl) | (have h : _ = _ := h; subst h; rfl)
theorem OD.like.refl (o : OD) : o.like o := by cases o <;> first | exact ⟨rfl, rfl, rfl⟩ | exact rfl
theorem OD.like.trans {o1 o2 o3 : OD} (h : o1.like o2) (k : o2.like o3) : o1.like o3 := by
  cases o1 <;> cases o2 <;> first | exact h.elim | (cases o3 <;> first | exact k.elim | (obtain ⟨a1, a2, a3⟩ := h; obtain ⟨b1, b2, b3⟩ := k; exact ⟨b1.trans a1, b2.trans a2, b3.trans a3⟩) | exact (show _ = _ from k).trans (show _ = _ from h))
abbrev FH := OD → List DV → (PyData → OD → Prop) → Prop
/-- what a def asks that is lent something to be changed (as the object itself among its arguments) -/
def spH (κ : Ky) (g : FH) : Sp := fun vs H Q _ => ∃ o ds R P, Dom P H ∧ (∀ b ∈ o.as, P b = true ∧ b ≠ sysModules) ∧ OdRd κ (hide P H) H o ∧ RvA κ (hide P H) ds vs ∧ g o ds R ∧
  ∀ v H' z o', o.like o' → ExtM (mem o.as) H H' → OdRd κ (hide P H') H' o' → Rp κ.K (hide P H') z v → R z o' → Q v H'
section
variable {κ : Ky} {c : Sc} {H H' : Hp} {L : Addr → Bool} {δ : Dn} {σ : Sg} {i : Nat} {o o' : OD}
/-- the slots behind a change of what a slot owns -/
theorem ES.meth (s : ES κ c H L δ σ) (ho : δ[i]? = some (.od o)) (lk : o.like o') (x : ExtM (mem o.as) H H') (r : OdRd κ (hide (oor c.P L) H') H' o') : ES κ c H' L (δ.set i (.od o')) σ := by
  obtain ⟨e1, r0, hl⟩ := s.ods.rd i _ ho
  have nb : ∀ {b : Addr} {u : HO}, H b = some u → b ∉ o.as → H' b = some u ∨ (Well u ∧ ∃ u', H' b = some u' ∧ Well u') := fun {b u} h n => by
    rcases x b u h with ⟨_, z⟩ | ⟨z, _⟩
    · exact z
    · rw [mem_f.mpr n] at z; cases z
  have hx : Ext (hide (oor c.P L) H) (hide (oor c.P L) H') := fun b u e => by
    obtain ⟨p, h⟩ := hide_f e
    have n : b ∉ o.as := fun m => by
      have := hl b m
      rw [(oor_f.mp p).2] at this
      cases this
    rcases nb h n with z | ⟨w, u', z, w'⟩
    · exact .inl (hide_t p z)
    · exact .inr ⟨w, u', hide_t p z, w'⟩
  have il : i < δ.length := (List.getElem?_eq_some_iff.mp ho).1
  have nown : ∀ {j : Nat} {ds : List PyData}, (δ.set i (.od o'))[j]? = some (Sl.own ds) → δ[j]? = some (Sl.own ds) := fun {j ds} q => by
    rcases set_get_own q with ⟨_, z, _⟩ | ⟨_, z⟩
    · cases z
    · exact z
  refine ⟨by rw [List.length_set]; exact s.len, fun j e q => ?_, fun j ds q => ?_, fun j k ds fs b n q1 q2 q3 => s.sep j k ds fs b n (nown q1) (nown q2) q3, s.psys, s.pdom, fun b hb => ?_, fun b u e => ?_, s.kept.ext hx, ⟨fun j p q => ?_, fun j k p p' n q1 q2 => ?_⟩, s.mp⟩
  · rcases set_get_v q with ⟨_, z, _⟩ | ⟨_, z⟩
    · cases z
    · obtain ⟨v, q1, q2⟩ := s.val j e z
      exact ⟨v, q1, q2.ext hx⟩
  · obtain ⟨b, ys, q1, q2, q3, q4⟩ := s.own j ds (nown q)
    have n : b ∉ o.as := fun m => by
      obtain ⟨u, hu, k⟩ := r0.kinds m
      exact own_not q3 hu k rfl
    refine ⟨b, ys, q1, q2, ⟨?_, q3.np⟩, q4.ext hx⟩
    rcases nb q3.at_ n with z | ⟨⟨i', j', z, _⟩, _⟩
    · exact z
    · cases z
      exact absurd rfl (q3.np i' j')
  · obtain ⟨q1, q2⟩ := s.ldom b hb
    exact ⟨x.some q1, q2⟩
  · rcases s.ext b u e with ⟨m, z⟩ | ⟨m, z⟩
    · have n : b ∉ o.as := fun mm => by
        rcases (s.ldom b (hl b mm)).2 with q | q
        · rw [q] at e; cases e
        · rw [q] at m; cases m
      refine .inl ⟨m, ?_⟩
      rcases z with z | ⟨w, u', z, w'⟩
      · exact nb z n
      · rcases nb z n with k | ⟨_, u2, k, w2⟩
        · exact .inr ⟨w, u', k, w'⟩
        · exact .inr ⟨w, u2, k, w2⟩
    · exact .inr ⟨m, x.some z⟩
  · by_cases hj : j = i
    · subst hj
      rw [List.getElem?_set_self il] at q
      cases q
      exact ⟨by rw [lk.at_]; exact e1, r, fun b m => hl b (by rw [← lk.as]; exact m)⟩
    · rw [List.getElem?_set_ne (Ne.symm hj)] at q
      obtain ⟨q1, q2, q3⟩ := s.ods.rd j p q
      have dj := s.ods.dj j i p o hj q ho
      refine ⟨q1, q2.mono (fun b u m hb k => ?_) hx, q3⟩
      rcases nb hb (dj b m) with z | ⟨⟨_, _, z, _⟩, _⟩
      · exact z
      · rw [z] at k; exact k.elim
  · have back : ∀ {j : Nat} {p : OD}, (δ.set i (.od o'))[j]? = some (Sl.od p) → ∃ p0, δ[j]? = some (Sl.od p0) ∧ p.as = p0.as := fun {j p} q => by
      by_cases hj : j = i
      · subst hj
        rw [List.getElem?_set_self il] at q
        cases q
        exact ⟨o, ho, lk.as⟩
      · rw [List.getElem?_set_ne (Ne.symm hj)] at q
        exact ⟨p, q, rfl⟩
    obtain ⟨p0, b1, b2⟩ := back q1
    obtain ⟨p1, b3, b4⟩ := back q2
    rw [b2, b4]
    exact s.ods.dj j k p0 p1 n b1 b3
/-- the object itself, as a value -/
theorem ES.rawed (s : ES κ c H L δ σ) (ho : δ[i]? = some (.od o)) : ES κ c H L (δ.set i (.v (.raw (.ref o.at_)))) σ := by
  obtain ⟨e1, r0, hl⟩ := s.ods.rd i _ ho
  have nown : ∀ {j : Nat} {ds : List PyData}, (δ.set i (.v (.raw (.ref o.at_))))[j]? = some (Sl.own ds) → δ[j]? = some (Sl.own ds) := fun {j ds} q => by
    rcases set_get_own q with ⟨_, z, _⟩ | ⟨_, z⟩
    · cases z
    · exact z
  refine ⟨by rw [List.length_set]; exact s.len, fun j e q => ?_, fun j ds q => s.own j ds (nown q), fun j k ds fs b n q1 q2 q3 => s.sep j k ds fs b n (nown q1) (nown q2) q3, s.psys, s.pdom, s.ldom, s.ext, s.kept, s.ods.mono (fun j p q => ⟨(od_set (fun _ z => by cases z) q).2, rfl⟩) (fun _ _ l h _ => ⟨l, h⟩) (Ext.refl _), s.mp⟩
  rcases set_get_v q with ⟨rfl, z, _⟩ | ⟨_, z⟩
  · cases z
    exact ⟨_, e1, rfl⟩
  · exact s.val j e z
theorem ES.odP (s : ES κ c H L δ σ) (ho : δ[i]? = some (.od o)) : ∀ b ∈ o.as, oor c.P L b = true ∧ b ≠ sysModules := fun b m => by
  have l := (s.ods.rd i _ ho).2.2 b m
  exact ⟨by unfold oor; rw [l, Bool.or_true], s.sys l⟩
end
/-! ### a def that is lent something at its parameter p -/
def endM (p : Nat) (o : OD) (R : PyData → OD → Prop) : DE where
  nx := fun δ => ∃ o', δ.getD p .un = .od o' ∧ o.like o' ∧ R .none o'
  rt := fun D => match D with
    | .rt o' (some z) => o.like o' ∧ R z o'
    | _ => False
theorem oor_lessA {P : Addr → Bool} {as : List Addr} (h : ∀ b ∈ as, P b = true) : oor (lessA P as) (mem as) = P := funext fun b => by
  unfold oor lessA
  by_cases m : b ∈ as
  · rw [mem_t.mpr m, Bool.or_true, h b m]
  · rw [mem_f.mpr m, Bool.not_false, Bool.and_true, Bool.or_false]
theorem es_startM {κ : Ky} {N : List Str} {H : Hp} {P : Addr → Bool} {ds : List DV} {vs : List V} {o : OD} {p : Nat} (d : Dom P H) (hp : ∀ b ∈ o.as, P b = true ∧ b ≠ sysModules) (r0 : OdRd κ (hide P H) H o) (r : RvA κ (hide P H) ds vs) (hd : ds[p]? = some (.raw (.ref o.at_))) :
    ES κ ⟨H, lessA P o.as, [], [], mem o.as⟩ H (mem o.as) ((startD N ds).set p (.od o)) (L2.start N vs) := by
  have s := es_start (N := N) d r
  have eP : oor (lessA P o.as) (mem o.as) = P := oor_lessA fun b m => (hp b m).1
  have eP0 : oor P (fun _ => false) = P := oor_off P
  have hl : p < ds.length := (List.getElem?_eq_some_iff.mp hd).1
  have hlN : p < (startD N ds).length := by
    unfold startD
    rw [List.length_append, List.length_map]
    omega
  have ep : (startD N ds)[p]? = some (.v (.raw (.ref o.at_))) := by
    unfold startD
    rw [List.getElem?_append_left (by rw [List.length_map]; exact hl), List.getElem?_map, hd]
    rfl
  obtain ⟨vp, ev, ev2⟩ := s.val p _ ep
  have ev2 : vp = .ref o.at_ := ev2
  subst ev2
  have nown : ∀ {j : Nat} {es : List PyData}, ((startD N ds).set p (.od o))[j]? = some (Sl.own es) → (startD N ds)[j]? = some (Sl.own es) := fun {j es} q => by
    rcases set_get_own q with ⟨_, z, _⟩ | ⟨_, z⟩
    · cases z
    · exact z
  have nod : ∀ {j : Nat} {q : OD}, (startD N ds)[j]? ≠ some (Sl.od q) := fun {j q} h => by
    unfold startD at h
    by_cases hi : j < ds.length
    · rw [List.getElem?_append_left (by rw [List.length_map]; exact hi), List.getElem?_map, List.getElem?_eq_getElem hi] at h
      cases h
    · rw [List.getElem?_append_right (by rw [List.length_map]; omega), List.getElem?_replicate] at h
      split at h <;> cases h
  have only : ∀ {j : Nat} {q : OD}, ((startD N ds).set p (.od o))[j]? = some (Sl.od q) → j = p ∧ q = o := fun {j q} h => by
    by_cases hj : j = p
    · subst hj
      rw [List.getElem?_set_self hlN] at h
      cases h
      exact ⟨rfl, rfl⟩
    · rw [List.getElem?_set_ne (Ne.symm hj)] at h
      exact absurd h nod
  refine ⟨by rw [List.length_set]; exact s.len, fun j e q => ?_, fun j es q => ?_, fun j k es fs b n q1 q2 q3 => s.sep j k es fs b n (nown q1) (nown q2) q3, ?_, fun b hb => ?_, fun b hb => ?_, ExtM.refl _ _, rfl, ⟨fun j q h => ?_, fun j k q q' n h1 h2 => absurd ((only h1).1.trans (only h2).1.symm) n⟩, fun b hb => lessA_f (mem_t.mp hb)⟩
  · rcases set_get_v q with ⟨_, z, _⟩ | ⟨_, z⟩
    · cases z
    · obtain ⟨v, q1, q2⟩ := s.val j e z
      refine ⟨v, q1, ?_⟩
      have q2 : Rv κ (hide (oor P fun _ => false) H) e v := q2
      show Rv κ (hide (oor (lessA P o.as) (mem o.as)) H) e v
      rw [eP]
      rw [eP0] at q2
      exact q2
  · obtain ⟨b, ys, _, q2, _⟩ := s.own j es (nown q)
    cases q2
  · exact lessA_t.mpr ⟨d.1, fun m => (hp _ m).2 rfl⟩
  · exact d.2 b (lessA_t.mp hb).1
  · exact ⟨d.2 b (hp b (mem_t.mp hb)).1, .inr hb⟩
  · obtain ⟨rfl, rfl⟩ := only h
    refine ⟨ev, ?_, fun b m => mem_t.mpr m⟩
    show OdRd κ (hide (oor (lessA P q.as) (mem q.as)) H) H q
    rw [eP]
    exact r0
section
variable {P : Program} {w : World} {K : PySem.W.Frag} {mg : Str → Option Value} {base : Heap}
theorem okM {x qual : Str} {st : Stmt} {f : Addr} {fd : FuncData} {N ps : List Str} {k : Nat} {g : FH} (p : Nat) (F : Fun K x qual st f fd) (S : FnScope N ps (defScope st)) (len : ∀ o ds R, g o ds R → ds.length = ps.length ∧ ds[p]? = some (.raw (.ref o.at_)))
    (hb : ∀ (cdv : Value) (A : Around), A.guards = some [] → ∀ (outer : List PySem.Env) (s : Shared) (H : Hp) (E : XK), Room k (A.deeper (envOfC qual (defScope st) s.heap.objs.size f cdv)) →
      ∃ t, PSs (cxOf CX0 P w K mg base N qual (defScope st) f cdv A outer s H E).nox (defBody st) (upS ⟨K, P, w⟩ t) ∧ ∀ o ds R, g o ds R → t (endM p o R) ((startD N ds).set p (.od o))) : FnG P w K mg base CX0 (k + 1) f fd ps (spH ⟨K, P, w⟩ g) := by
  refine fnG_of F S (fun vs H Q E ⟨o, ds, R, P, d, hp, r0, r, h, q⟩ => by rw [← r.len]; exact (len o ds R h).1) fun cdv A gd outer s H vs Q E room ⟨o, ds, R, P', d, hp, r0, r, h, q⟩ => ?_
  obtain ⟨t, ht, hr⟩ := hb cdv A gd outer s H E room
  refine ⟨_, ht.nox, _, _, ⟨H, lessA P' o.as, [], [], mem o.as⟩, _, es_startM d hp r0 r (len o ds R h).2, hr o ds R h, ⟨fun δ σ H' L es ⟨o', e, lk, h'⟩ => ?_, fun v H' d' x r' h' => ?_, fun _ _ _ _ _ z => z.elim, fun _ _ _ _ _ z => z.elim, fun _ _ _ _ _ _ _ z => z.elim⟩⟩
  · obtain ⟨_, r1, hl⟩ := es.ods.rd p o' (getD_od e)
    refine q .non H' .none o' lk es.ext ?_ rfl h'
    refine r1.mono (fun _ _ _ h _ => h) (hide_less H' fun b hb => ?_)
    unfold oor
    by_cases m : b ∈ o.as
    · rw [hl b (by rw [lk.as]; exact m), Bool.or_true]
    · show (lessA P' o.as b || L b) = true
      rw [show lessA P' o.as b = true from lessA_t.mpr ⟨hb, m⟩, Bool.true_or]
  · cases d' with
    | rt o' z =>
      cases z with
      | none => exact h'.elim
      | some z =>
        obtain ⟨lk, h2⟩ := h'
        obtain ⟨r1, r2⟩ := r'
        have eh : hide (mem o'.as) (hide (lessA P' o.as) H') = hide P' H' := funext fun b => by
          rw [lk.as]
          by_cases m : b ∈ o.as
          · unfold hide
            rw [mem_t.mpr m, if_pos rfl, (hp b m).1, if_pos rfl]
          · unfold hide
            rw [mem_f.mpr m, if_neg Bool.false_ne_true]
            cases pb : P' b with
            | true => rw [show lessA P' o.as b = true from lessA_t.mpr ⟨pb, m⟩]
            | false => rw [show lessA P' o.as b = false from by unfold lessA; rw [pb, Bool.false_and]]
        refine q v H' z o' lk x (r1.mono (fun b u m h _ => (hide_f h).2) (by rw [eh]; exact Ext.refl _)) ?_ h2
        have r2 : Rp K (hide (mem o'.as) (hide (lessA P' o.as) H')) z v := r2
        rw [eh] at r2
        exact r2
    | _ => exact h'.elim
end
/-- return e, in a def that is lent what is at slot p -/
def dRetM (p : Nat) (t : TD) : TDS := fun E δ => t δ fun r => asP r fun z => match δ.getD p .un with
  | .od o => E.rt (.rt o (some z))
  | _ => False
theorem ds_retM {X : Cx} {e : Expr} {te : TD} {pos : Pos} {p : Nat} (he : PE X e (up (Cx.ky X) te)) : PS X (.Return (some e) pos) (upS (Cx.ky X) (dRetM p te)) :=
  PS.imp (ps_ret he) fun D σ H ⟨δ, E, c, L, es, h, f⟩ => ⟨δ, _, c, L, es, h, fun v H1 d x1 r1 h1 => by
    obtain ⟨z, rfl, h2⟩ := asP_of h1
    cases q : δ.getD p .un with
    | od o =>
      rw [q] at h2
      have es1 := es.on x1
      obtain ⟨_, r2, hl⟩ := es1.ods.rd p o (getD_od q)
      have hle : Ext (hide (oor c.P L) H1) (hide (mem o.as) (hide c.P H1)) := fun b u e => by
        obtain ⟨pb, hb⟩ := hide_f e
        obtain ⟨p1, p2⟩ := oor_f.mp pb
        refine .inl (hide_t (mem_f.mpr fun m => ?_) (hide_t p1 hb))
        rw [hl b m] at p2
        cases p2
      refine f.rt v H1 (.rt o (some z)) (es.ext.trans x1) ⟨r2.mono (fun b u m h _ => hide_t (es1.lp (hl b m)) h) hle, Rp.ext hle r1⟩ h2
    | un => rw [q] at h2; exact h2.elim
    | v _ => rw [q] at h2; exact h2.elim
    | own _ => rw [q] at h2; exact h2.elim⟩
end MR

/-! Houses: entries; fields, methods, changes. -/
namespace MR
open PySem PySem.Spec PyProof.Rows L2
/-! ### entries -/
def getE (es : Ents) (n : Str) : Option PyData := (es.find? fun e => decide (e.1 = n)).map (·.2)
def putE (es : Ents) (n : Str) (z : PyData) : Ents := if (es.any fun e => decide (e.1 = n)) = true then es.map (fun e => if e.1 = n then (e.1, z) else e) else es ++ [(n, z)]
def dropE (es : Ents) (n : Str) : Ents := es.filter fun e => decide (e.1 ≠ n)
theorem inr_eq {n m : Str} : ((Sum.inr n : Key) = Sum.inr m) = (n = m) := by
  apply propext
  exact ⟨fun h => by cases h; rfl, fun h => by rw [h]⟩
section
variable {K : PySem.W.Frag} {H : Hp}
theorem RpE.len : ∀ {es : Ents} {kvs : List (Key × V)}, RpE K H es kvs → es.length = kvs.length
  | [], kvs, h => by rw [show kvs = [] from h]; rfl
  | (_, _) :: _, _, ⟨v, q, e, _, t⟩ => by rw [e, List.length_cons, List.length_cons, RpE.len t]
theorem RpE.val {n : Str} : ∀ {es : Ents} {kvs : List (Key × V)}, RpE K H es kvs → (getE es n = none → valV kvs (.inr n) = none) ∧ ∀ z, getE es n = some z → ∃ v, valV kvs (.inr n) = some v ∧ Rp K H z v
  | [], kvs, h => by
    rw [show kvs = [] from h]
    exact ⟨fun _ => rfl, fun _ z => by cases z⟩
  | (m, d) :: es, _, ⟨v, q, e, h, t⟩ => by
    subst e
    have ih := RpE.val (n := n) t
    by_cases z : m = n
    · subst z
      rw [valV_pos (p := (Sum.inr m, v)) rfl]
      unfold getE
      rw [List.find?_cons_of_pos (by simp)]
      refine ⟨fun z => ?_, fun y z => ?_⟩
      · have z : (some d : Option PyData) = none := z
        cases z
      · have z : some d = some y := z
        cases z
        exact ⟨v, rfl, h⟩
    · rw [valV_neg (p := (Sum.inr m, v)) (fun q => z (by cases q; rfl))]
      unfold getE at ih ⊢
      rw [List.find?_cons_of_neg (by simpa using z)]
      exact ih
theorem RpE.any {n : Str} : ∀ {es : Ents} {kvs : List (Key × V)}, RpE K H es kvs → (kvs.any fun kv => decide (kv.1 = Sum.inr n)) = es.any fun e => decide (e.1 = n)
  | [], kvs, h => by rw [show kvs = [] from h]; rfl
  | (m, d) :: es, _, ⟨v, q, e, h, t⟩ => by
    subst e
    rw [List.any_cons, List.any_cons, RpE.any t]
    congr 1
    exact decide_eq_decide.mpr ⟨fun h => by cases h; rfl, fun h => by rw [show m = n from h]⟩
theorem RpE.app : ∀ {es fs : Ents} {kvs lvs : List (Key × V)}, RpE K H es kvs → RpE K H fs lvs → RpE K H (es ++ fs) (kvs ++ lvs)
  | [], _, kvs, _, h, g => by rw [show kvs = [] from h]; exact g
  | (m, d) :: es, _, _, _, ⟨v, q, e, h, t⟩, g => by
    subst e
    exact ⟨v, _, rfl, h, RpE.app t g⟩
theorem RpE.map {n : Str} {z : PyData} {y : V} (r : Rp K H z y) : ∀ {es : Ents} {kvs : List (Key × V)}, RpE K H es kvs → RpE K H (es.map fun e => if e.1 = n then (e.1, z) else e) (kvs.map fun kv => if kv.1 = Sum.inr n then (kv.1, y) else kv)
  | [], kvs, h => by rw [show kvs = [] from h]; rfl
  | (m, d) :: es, _, ⟨v, q, e, h, t⟩ => by
    subst e
    have ih := RpE.map (n := n) r t
    rw [List.map_cons, List.map_cons]
    by_cases w : m = n
    · subst w
      rw [if_pos rfl, if_pos rfl]
      exact ⟨y, _, rfl, r, ih⟩
    · rw [if_neg w, if_neg (fun q => w (by cases q; rfl))]
      exact ⟨v, _, rfl, h, ih⟩
theorem RpE.put {n : Str} {z : PyData} {y : V} {es : Ents} {kvs : List (Key × V)} (h : RpE K H es kvs) (r : Rp K H z y) : RpE K H (putE es n z) (putK kvs (.inr n) y) := by
  unfold putE putK
  rw [h.any]
  by_cases q : (es.any fun e => decide (e.1 = n)) = true
  · rw [if_pos q, if_pos q]
    exact h.map r
  · rw [if_neg q, if_neg q]
    exact h.app ⟨y, [], rfl, r, rfl⟩
theorem RpE.drop {n : Str} : ∀ {es : Ents} {kvs : List (Key × V)}, RpE K H es kvs → RpE K H (dropE es n) (dropK kvs (.inr n))
  | [], kvs, h => by rw [show kvs = [] from h]; rfl
  | (m, d) :: es, _, ⟨v, q, e, h, t⟩ => by
    subst e
    have ih := RpE.drop (n := n) t
    unfold dropE dropK at ih ⊢
    by_cases w : m = n
    · rw [List.filter_cons_of_neg (by simpa using w), List.filter_cons_of_neg (by simpa using w)]
      exact ih
    · rw [List.filter_cons_of_pos (by simpa using w), List.filter_cons_of_pos (by simpa using w)]
      exact ⟨v, _, rfl, h, ih⟩
end
/-! ### a house that is read -/
def asH (C : Addr) (d : DV) (K : Ents → Prop) : Prop := match d with
  | .hs C' es => C' = C ∧ K es
  | _ => False
theorem asH_of {C : Addr} {d : DV} {K : Ents → Prop} (h : asH C d K) : ∃ es, d = .hs C es ∧ K es := by
  cases d with
  | hs C' es => obtain ⟨rfl, h⟩ := h; exact ⟨es, rfl, h⟩
  | _ => exact h.elim
def asD (d : DV) (K : Ents → Prop) : Prop := match d with
  | .hd es => K es
  | _ => False
theorem asD_of {d : DV} {K : Ents → Prop} (h : asD d K) : ∃ es, d = .hd es ∧ K es := by
  cases d with
  | hd es => exact ⟨es, rfl, h⟩
  | _ => exact h.elim
/-- e._entries -/
def dEnts (C : Addr) (te : TD) : TD := fun δ R => te δ fun d => asH C d fun es => R (.hd es)
def dInH (tk td : TD) : TD := fun δ R => tk δ fun k => asS k fun n => td δ fun d => asD d fun es => R (.p (.bool (getE es n).isSome))
def dLenH (td : TD) : TD := fun δ R => td δ fun d => asD d fun es => R (.p (.int es.length))
def dGetH (td tk : TD) : TD := fun δ R => td δ fun d => asD d fun es => tk δ fun k => asS k fun n => R (.p ((getE es n).getD .none))
section
variable {X : Cx} {e o i : Expr} {te td tk : TD} {C : Addr} {pos p : Pos}
theorem de_ents (c : Cls X.K C) (n : NoAttr X.K C "_entries") (he : PE X e (up (Cx.ky X) te)) (hb : attributeBase e "_entries" X.env (eval e X.env) = eval e X.env := by rfl) : PE X (.Attribute e "_entries" pos) (up (Cx.ky X) (dEnts C te)) := by
  refine PE.imp (pe_fld he hb) fun σ H Q ⟨δ, R, cc, L, s, h, k⟩ => ⟨δ, _, cc, L, s, h, fun v H1 d x1 r1 h1 => ?_⟩
  obtain ⟨es, rfl, h2⟩ := asH_of h1
  obtain ⟨a, dd, dx, vm, od, kvs, rfl, e1, e2, r⟩ := r1
  exact ⟨a, C, dx, _, .ref dd, rfl, (hide_f e1).2, c, n, rfl, k (.ref dd) H1 (.hd es) x1 ⟨dd, od, kvs, rfl, e2, r⟩ h2⟩
theorem rd_hd {κ : Ky} {H : Hp} {P : Addr → Bool} {es : Ents} {v : V} (h : Rv κ (hide P H) (.hd es) v) : ∃ d kvs, v = .ref d ∧ Rd H d (.dK kvs) ∧ RpE κ.K (hide P H) es kvs := by
  obtain ⟨d, od, kvs, rfl, e, r⟩ := h
  exact ⟨d, kvs, rfl, .inr ⟨od, (hide_f e).2⟩, r⟩
theorem dget_of {κ : Ky} {H : Hp} {P : Addr → Bool} {es : Ents} {d : Addr} {kvs : List (Key × V)} {n : Str} (e : Rd H d (.dK kvs)) : DGet H d (.str n) (valV kvs (.inr n)) := .inl ⟨kvs, .inr n, e, rfl, rfl⟩
theorem isSome_of {K : PySem.W.Frag} {H : Hp} {es : Ents} {kvs : List (Key × V)} {n : Str} (r : RpE K H es kvs) : (valV kvs (.inr n)).isSome = (getE es n).isSome := by
  obtain ⟨h1, h2⟩ := r.val (n := n)
  cases q : getE es n with
  | none => rw [h1 q]; rfl
  | some z =>
    obtain ⟨v, e, _⟩ := h2 z q
    rw [e]; rfl
theorem dt_inH (hu : X.A.units + 1 < cLine) (hk : PE X e (up (Cx.ky X) tk)) (hd : PE X o (up (Cx.ky X) td)) (h1 : behindInMarks .In o = false := by first | exact nobehind _ (by decide) (by decide) | rfl) : PT X (.Compare e [.In] [o] pos) (upT (Cx.ky X) (dB (dInH tk td))) := by
  refine PT.imp (pt_cmp (pc_din hu hk hd) h1) fun σ H Q ⟨δ, R, cc, L, s, h, k⟩ => ⟨δ, _, cc, L, s, h, fun v H1 d x1 r1 h1 => ?_⟩
  obtain ⟨n, rfl, h2⟩ := asS_of h1
  refine ⟨δ, _, cc, L, s.on x1, h2, fun v2 H2 d2 x2 r2 h3 => ?_⟩
  obtain ⟨es, rfl, h4⟩ := asD_of h3
  obtain ⟨dd, kvs, rfl, e1, r⟩ := rd_hd r2
  refine ⟨dd, _, rfl, by rw [show v = .str n from r1]; exact dget_of (κ := Cx.ky X) (P := oor cc.P L) (es := es) e1, _, rfl, ?_⟩
  rw [isSome_of r]
  exact k _ H2 (x1.trans x2) h4
theorem cr_lenH : CallR X (.builtin "len") (fun xs H Q => ∃ a kvs, xs = [V.ref a] ∧ Rd H a (.dK kvs) ∧ Q (.int kvs.length) H) := by
  intro pins s σ H xs us Q I r h
  obtain ⟨a, kvs, rfl, ha, q⟩ := h
  obtain ⟨u, rfl, ru⟩ := Vals.one r
  cases ru
  exact d_len I ha fun t s' I' => ⟨.int kvs.length, H, I', ⟨t, rfl⟩, q⟩
theorem de_lenH (hd : PE X o (up (Cx.ky X) td)) (hg : Gl X "len") (hm : X.mg "len" = none) (he : starEach [o] X.env = [(false, eval o X.env)] := by rfl) : PE X (.Call (.Name "len" p) [o] [] pos) (up (Cx.ky X) (dLenH td)) := by
  refine PE.imp (pe_callB cr_lenH hg hm (by decide +kernel) (pa_cons hd pa_nil he) (by decide) (by decide) he rfl) fun σ H Q ⟨δ, R, cc, L, s, h, k⟩ => ⟨δ, _, cc, L, s, h, fun v H1 d x1 r1 h1 => ?_⟩
  obtain ⟨es, rfl, h2⟩ := asD_of h1
  obtain ⟨dd, kvs, rfl, e1, r⟩ := rd_hd r1
  exact ⟨dd, kvs, rfl, e1, k _ H1 (.p (.int kvs.length)) x1 rfl (by rw [← r.len]; exact h2)⟩
theorem de_getH {apos cpos : Pos} (hu : X.A.units + 1 < cLine) (hd : PE X o (up (Cx.ky X) td)) (hk : PE X e (up (Cx.ky X) tk)) (m : M1 X o "get" apos e cpos) : PE X (.Call (.Attribute o "get" apos) [e] [] cpos) (up (Cx.ky X) (dGetH td tk)) := by
  refine PE.imp (pe_dget1 hu hd hk m) fun σ H Q ⟨δ, R, cc, L, s, h, k⟩ => ⟨δ, _, cc, L, s, h, fun v H1 d x1 r1 h1 => ?_⟩
  obtain ⟨es, rfl, h2⟩ := asD_of h1
  obtain ⟨dd, kvs, rfl, e1, r⟩ := rd_hd r1
  refine ⟨dd, rfl, .inl ⟨kvs, e1⟩, δ, _, cc, L, s.on x1, h2, fun v2 H2 d2 x2 r2 h3 => ?_⟩
  obtain ⟨n, rfl, h4⟩ := asS_of h3
  obtain ⟨dd2, kvs2, e3, e2, rr⟩ := rd_hd (r1.ext (x2.hide _))
  cases e3
  refine ⟨_, by rw [show v2 = .str n from r2]; exact dget_of (κ := Cx.ky X) (P := oor cc.P L) (es := es) e2, ?_⟩
  obtain ⟨h1, hv⟩ := rr.val (n := n)
  cases q : getE es n with
  | none =>
    rw [h1 q]
    rw [q] at h4
    exact k .non H2 (.p .none) (x1.trans x2) rfl h4
  | some z =>
    obtain ⟨y, e, ry⟩ := hv z q
    rw [e]
    rw [q] at h4
    exact k y H2 (.p z) (x1.trans x2) ry h4
end
end MR

/-! Houses: methods called, changes, new ones. -/
namespace MR
open PySem PySem.Spec PyProof.Rows L2
/-- o.m(es, kws): gV puts the values in the parameters' order (the object first) -/
def tMethK (C : Addr) (m : Str) (sp : Sp) (gV : List V → List V → List V) (E : XK) (ta : TE) (t tk : TA) : TE := fun σ H Q => ta σ H fun x H1 => ∃ a dx fs, x = .ref a ∧ H1 a = some (.ins C dx fs) ∧ fs.lookup m = none ∧
  t σ H1 fun vs H2 => tk σ H2 fun zs H3 => sp (gV (x :: vs) zs) H3 Q E
def gPlain (dvs : List V) : List V → List V → List V := fun vs _ => vs ++ dvs
section
variable {X : Cx} {CX : CXT} {k : Nat} {f C : Addr} {fd : FuncData} {ps ks : List Str} {sp : Sp} {dvs : List V} {ds : List Value} {E : XK} {x m : Str} {p pos apos : Pos} {e o : Expr} {es : List Expr} {kws : List Keyword} {ta : TE} {t tk : TA}
  {g : List Value → List Value → List Value} {gV : List V → List V → List V}
theorem goesK {pins : List (Addr × Obj)} {σ : Sg} {H : Hp} {s : Shared} {Q : VK} {us ws : List Value} {vs zs : List V} (F : FnG X.prog X.w X.K X.mg X.base CX k f fd ps sp) (gd : X.A.guards = some []) (room : Room k X.A) (hb : KBinds X.K fd ps ks g gV) (hx : Passes CX X E)
    (I : Inv X pins σ H s) (r : Vals vs us) (rz : Vals zs ws) (h : sp (gV vs zs) H Q E) : wpAny (model X.prog X.w) X.A (call (.ref f) us (ks.zip ws)) (EP X pins σ Q) X.xe s := by
  have r2 := hb.rel r rz
  have hl : (g us ws).length = ps.length := by rw [← r2.length]; exact F.len _ _ _ _ h
  refine wpAny_call (codeAny_mono (F.go X.A gd X.stack s H ⟨us, ks.zip ws⟩ (g us ws) (gV vs zs) Q E room I.env0 (hb.to s us ws I.kIn hl) r2 h) fun r s' hq => ?_)
  cases r with
  | error e => exact hx pins σ H s e s' I hq
  | ok fl =>
    cases fl with
    | ret u => exact I.after hq
    | next => exact False.elim hq
    | brk => exact False.elim hq
    | cont => exact False.elim hq
theorem pe_methG {pl : Sem Bool} (he : PE X o ta) (c : Cls X.K C) (hm : Meth X.K C m f) (F : FnG X.prog X.w X.K X.mg X.base CX k f fd ps sp) (gd : X.A.guards = some []) (hr : Room k X.A) (hb : L2.Binds X.K fd ps ds) (hd : Vals dvs ds) (hx : Passes CX X E) (ha : PA X (e :: es) t)
    (hst : starEach (e :: es) X.env = (false, eval e X.env) :: starEach es X.env := by rfl) (hpl : (backTo pos (starEach es X.env)).any (·.1) = false := by rfl)
    (ht : eval (.Call (.Attribute o m apos) (e :: es) [] pos) X.env = (do
      let ov ← eval o X.env
      standAt apos.atName
      let (f, first) ← holding [ov] (getMethod ov m pl)
      callWith pos f first (backTo pos (starEach (e :: es) X.env)) (backToKw pos (keywordEach [] X.env))) := by rfl) :
    PE X (.Call (.Attribute o m apos) (e :: es) [] pos) (tMethK C m sp (gPlain dvs) E ta t tNil) := by
  refine ⟨fun pins s σ H Q I h => ?_⟩
  refine PySem.W.methodCall_KW (pl := pl) (thn (he.run pins s σ H _ I h) fun u s1 ⟨x, H1, I1, rx, a, dx, fs, ex, ea, l, q⟩ => ?_) ht
  subst ex
  obtain rfl : u = Value.ref a := rx
  refine getmeth_ok I1 ea c hm l ?_
  refine PySem.W.callWith_K (first := [.ref a]) (h₀ := X.base) I.ok.mod.kin hm.kp (thn (ha.run pos pins s1 σ H1 _ I1 q) fun us s2 ⟨vs, H2, I2, r, q2⟩ => ⟨I2.kIn, ?_⟩) hst hpl
  exact goes (us := .ref a :: us) (vs := .ref a :: vs) F gd hr hb hd hx I2 (.cons rfl r) q2
theorem pe_methG0 {pl : Sem Bool} (he : PE X o ta) (c : Cls X.K C) (hm : Meth X.K C m f) (F : FnG X.prog X.w X.K X.mg X.base CX k f fd ps sp) (gd : X.A.guards = some []) (hr : Room k X.A) (hb : L2.Binds X.K fd ps ds) (hd : Vals dvs ds) (hx : Passes CX X E)
    (ht : eval (.Call (.Attribute o m apos) [] [] pos) X.env = (do
      let ov ← eval o X.env
      standAt apos.atName
      let (f, first) ← holding [ov] (getMethod ov m pl)
      callWith pos f first (backTo pos (starEach [] X.env)) (backToKw pos (keywordEach [] X.env))) := by rfl) :
    PE X (.Call (.Attribute o m apos) [] [] pos) (tMethK C m sp (gPlain dvs) E ta tNil tNil) := by
  refine ⟨fun pins s σ H Q I h => ?_⟩
  refine PySem.W.methodCall_KW (pl := pl) (thn (he.run pins s σ H _ I h) fun u s1 ⟨x, H1, I1, rx, a, dx, fs, ex, ea, l, q⟩ => ?_) ht
  subst ex
  obtain rfl : u = Value.ref a := rx
  refine getmeth_ok I1 ea c hm l ?_
  exact PySem.W.callWith_K0 (first := [.ref a]) I1.kIn hm.kp (goes (us := [.ref a]) (vs := [.ref a]) F gd hr hb hd hx I1 (.cons rfl .nil) q)
theorem pe_methGK {pl : Sem Bool} (he : PE X o ta) (c : Cls X.K C) (hm : Meth X.K C m f) (F : FnG X.prog X.w X.K X.mg X.base CX k f fd ps sp) (gd : X.A.guards = some []) (hr : Room k X.A) (hb : KBinds X.K fd ps ks g gV) (hx : Passes CX X E) (ha : PA X (e :: es) t) (hkw : PK X kws tk)
    (hall : (backToKw pos (keywordEach kws X.env)).all (·.1.isSome) = true := by rfl) (hks : (backToKw pos (keywordEach kws X.env)).filterMap (·.1) = ks := by rfl)
    (hst : starEach (e :: es) X.env = (false, eval e X.env) :: starEach es X.env := by rfl) (hpl : ((backTo pos (starEach (e :: es) X.env)).any (·.1) || (backToKw pos (keywordEach kws X.env)).any (·.1.isNone)) = false := by rfl)
    (ht : eval (.Call (.Attribute o m apos) (e :: es) kws pos) X.env = (do
      let ov ← eval o X.env
      standAt apos.atName
      let (f, first) ← holding [ov] (getMethod ov m pl)
      callWith pos f first (backTo pos (starEach (e :: es) X.env)) (backToKw pos (keywordEach kws X.env))) := by rfl) :
    PE X (.Call (.Attribute o m apos) (e :: es) kws pos) (tMethK C m sp gV E ta t tk) := by
  refine ⟨fun pins s σ H Q I h => ?_⟩
  refine PySem.W.methodCall_KW (pl := pl) (thn (he.run pins s σ H _ I h) fun u s1 ⟨x, H1, I1, rx, a, dx, fs, ex, ea, l, q⟩ => ?_) ht
  subst ex
  obtain rfl : u = Value.ref a := rx
  refine getmeth_ok I1 ea c hm l ?_
  refine PySem.W.callWith_KW (first := [.ref a]) (h₀ := X.base) I.ok.mod.kin hm.kp hall (thn (ha.run pos pins s1 σ H1 _ I1 q) fun us s2 ⟨vs, H2, I2, r, q2⟩ => ?_) hpl hst
  refine thn (hkw.run pos pins s2 σ H2 _ I2 q2) fun ws s3 ⟨zs, H3, I3, rz, q3⟩ => ⟨I3.kIn, ?_⟩
  rw [hks]
  exact goesK (us := .ref a :: us) (vs := .ref a :: vs) F gd hr hb hx I3 (.cons rfl r) rz q3
end
/-! ### a method of a house that is read -/
def dMethR (C : Addr) (g : FL) (to : TD) (ta : TL) (ddv : List DV) : TD := fun δ R => to δ fun h => asH C h fun es => ta δ fun ds => g (.hs C es :: (ds ++ ddv)) R
section
variable {X : Cx} {k : Nat} {f C : Addr} {fd : FuncData} {ps : List Str} {m : Str} {pos apos : Pos} {e o : Expr} {es : List Expr} {to : TD} {ta : TL} {gf : FL} {te : TE}
theorem up_methR {κ : Ky} {E : XK} {σ : Sg} {H : Hp} {Q : VK} (nm : m ≠ "_entries") (nm2 : m ≠ "memory") {t : TA} (htt : ∀ σ H Q, upA κ ta σ H Q → t σ H Q) (h : up κ (dMethR C gf to ta []) σ H Q) : tMethK C m (spD κ gf) (gPlain []) E (up κ to) t tNil σ H Q := by
  obtain ⟨δ, R, c, L, s, h, k⟩ := h
  refine ⟨δ, _, c, L, s, h, fun v H1 d x1 r1 h1 => ?_⟩
  obtain ⟨es, rfl, h2⟩ := asH_of h1
  obtain ⟨a, dd, dx, vm, od, kvs, rfl, e1, e2, r⟩ := id r1
  refine ⟨a, dx, _, rfl, (hide_f e1).2, ?_, htt _ _ _ ⟨δ, _, c, L, s.on x1, h2, fun vs H2 ds x2 r2 h3 => ?_⟩⟩
  · rw [List.lookup_cons, beq_eq_false_iff_ne.mpr nm, List.lookup_cons, beq_eq_false_iff_ne.mpr nm2]
    rfl
  · show spD κ gf ((V.ref a :: vs) ++ []) H2 Q E
    rw [List.append_nil]
    rw [List.append_nil] at h3
    exact ⟨.hs C es :: ds, R, _, (s.on (x1.trans x2)).dom, ⟨_, vs, rfl, r1.ext (x2.hide _), r2⟩, h3, fun v H3 d x3 q1 q2 => k v H3 d (x1.trans (x2.trans x3)) q1 q2⟩
theorem de_methR {pl : Sem Bool} (nm : m ≠ "_entries") (nm2 : m ≠ "memory") (he : PE X o (up (Cx.ky X) to)) (c : Cls X.K C) (hm : Meth X.K C m f) (F : FnG X.prog X.w X.K X.mg X.base CX0 k f fd ps (spD (Cx.ky X) gf)) (gd : X.A.guards = some []) (hr : Room k X.A) (hb : L2.Binds X.K fd ps []) {E : XK} (hx : Passes CX0 X E)
    (ha : PA X (e :: es) (upA (Cx.ky X) ta)) (hst : starEach (e :: es) X.env = (false, eval e X.env) :: starEach es X.env := by rfl) (hpl : (backTo pos (starEach es X.env)).any (·.1) = false := by rfl)
    (ht : eval (.Call (.Attribute o m apos) (e :: es) [] pos) X.env = (do
      let ov ← eval o X.env
      standAt apos.atName
      let (f, first) ← holding [ov] (getMethod ov m pl)
      callWith pos f first (backTo pos (starEach (e :: es) X.env)) (backToKw pos (keywordEach [] X.env))) := by rfl) : PE X (.Call (.Attribute o m apos) (e :: es) [] pos) (up (Cx.ky X) (dMethR C gf to ta [])) :=
  PE.imp (pe_methG (pl := pl) he c hm F gd hr hb .nil hx ha hst hpl ht) fun _ _ _ h => up_methR nm nm2 (fun _ _ _ z => z) h
theorem de_methR0 {pl : Sem Bool} (nm : m ≠ "_entries") (nm2 : m ≠ "memory") (he : PE X o (up (Cx.ky X) to)) (c : Cls X.K C) (hm : Meth X.K C m f) (F : FnG X.prog X.w X.K X.mg X.base CX0 k f fd ps (spD (Cx.ky X) gf)) (gd : X.A.guards = some []) (hr : Room k X.A) (hb : L2.Binds X.K fd ps []) {E : XK} (hx : Passes CX0 X E)
    (ht : eval (.Call (.Attribute o m apos) [] [] pos) X.env = (do
      let ov ← eval o X.env
      standAt apos.atName
      let (f, first) ← holding [ov] (getMethod ov m pl)
      callWith pos f first (backTo pos (starEach [] X.env)) (backToKw pos (keywordEach [] X.env))) := by rfl) : PE X (.Call (.Attribute o m apos) [] [] pos) (up (Cx.ky X) (dMethR C gf to dNil [])) :=
  PE.imp (pe_methG0 (pl := pl) he c hm F gd hr hb .nil hx ht) fun _ _ _ h => up_methR nm nm2 (fun _ H Q ⟨δ, R, c, L, es, h, k⟩ => k [] H [] (Ext.refl _) rfl h) h
end
/-! ### a method that changes its house; a def that changes what it is lent -/
/-- how the keywords' data stand in the parameters' order -/
def KOk (κ : Ky) (gV : List V → List V → List V) (gD : List DV → List DV → List DV) : Prop := ∀ (H : Hp) (ds ks : List DV) (vs zs : List V), RvA κ H ds vs → RvA κ H ks zs → RvA κ H (gD ds ks) (gV vs zs)
/-- slot i's house changed by a method; n: what is done with the answer -/
def dMethM (i : Nat) (g : FH) (gD : List DV → List DV → List DV) (ts tk : TL) (n : DE → PyData → Dn → Prop) : TDS := fun E δ => match δ.getD i .un with
  | .od o => ts (δ.set i (.v (.raw (.ref o.at_)))) fun ds => tk (δ.set i (.v (.raw (.ref o.at_)))) fun ks => g o (gD (.raw (.ref o.at_) :: ds) ks) fun z o' => n E z (δ.set i (.od o'))
  | _ => False
def nDrop : DE → PyData → Dn → Prop := fun E _ δ => E.nx δ
section
variable {X : Cx} {i : Nat} {C : Addr} {m : Str} {g : FH} {gV : List V → List V → List V} {gD : List DV → List DV → List DV} {ts tk : TL} {n : DE → PyData → Dn → Prop} {t tkk : TA} {E' : XK}
theorem up_methM {κ : Ky} (nm : m ≠ "_entries") (nm2 : m ≠ "memory") (hk : KOk κ gV gD) (htt : ∀ σ H Q, upA κ ts σ H Q → t σ H Q) (htk : ∀ σ H Q, upA κ tk σ H Q → tkk σ H Q) {σ : Sg} {H : Hp} {δ : Dn} {E : DE} {c : Sc} {L : Addr → Bool} {Q : VK} {a d : Addr} {es : Ents}
    (s : ES κ c H L δ σ) (q : δ.getD i .un = .od (.hs C a d es)) (h : dMethM i g gD ts tk n E δ)
    (fin : ∀ v H' z δ', ES κ c H' L δ' σ → Rp κ.K (hide (oor c.P L) H') z v → n E z δ' → Q v H') : tMethK C m (spH κ g) gV E' (tVar i) t tkk σ H Q := by
  unfold dMethM at h
  rw [q] at h
  have ho := getD_od q
  obtain ⟨e1, ⟨dx, vm, kvs, h1, h2, r⟩, hl⟩ := s.ods.rd i _ ho
  have s1 := s.rawed ho
  refine ⟨.ref a, e1, a, dx, _, rfl, h1, ?_, htt _ _ _ ⟨_, _, c, L, s1, h, fun vs H2 ds x2 r2 h3 => htk _ _ _ ⟨_, _, c, L, s1.on x2, h3, fun zs H3 ks x3 r3 h4 => ?_⟩⟩⟩
  · rw [List.lookup_cons, beq_eq_false_iff_ne.mpr nm, List.lookup_cons, beq_eq_false_iff_ne.mpr nm2]
    rfl
  · have s3 := s.on (x2.trans x3)
    refine ⟨.hs C a d es, _, _, oor c.P L, s3.dom, s3.odP ho, (s3.ods.rd i _ ho).2.1, hk _ _ ks _ zs (show RvA κ (hide (oor c.P L) H3) (.raw (.ref a) :: ds) (.ref a :: vs) from ⟨_, vs, rfl, rfl, r2.ext (x3.hide _)⟩) r3, h4, fun v H' z o' lk x r' rz h5 => ?_⟩
    exact fin v H' z _ (s3.meth ho lk x r') rz h5
end
end MR

/-! Houses: statements; new ones. -/
namespace MR
open PySem PySem.Spec PyProof.Rows L2
/-- the house in a slot, of the class C -/
def asO (C : Addr) (s : Sl) (K : Addr → Addr → Ents → Prop) : Prop := match s with
  | .od (.hs C' a d es) => C' = C ∧ K a d es
  | _ => False
theorem asO_of {C : Addr} {s : Sl} {K : Addr → Addr → Ents → Prop} (h : asO C s K) : ∃ a d es, s = .od (.hs C a d es) ∧ K a d es := by
  cases s with
  | od o => cases o with
    | hs C' a d es => obtain ⟨rfl, h⟩ := h; exact ⟨a, d, es, rfl, h⟩
    | dc _ _ => exact h.elim
  | _ => exact h.elim
def dMeth (C : Addr) (i : Nat) (g : FH) (gD : List DV → List DV → List DV) (ts tk : TL) : TDS := fun E δ => asO C (δ.getD i .un) fun _ _ _ => dMethM i g gD ts tk nDrop E δ
section
variable {X : Cx} {k : Nat} {f C : Addr} {fd : FuncData} {ps ks : List Str} {m x : Str} {pos apos npos spos : Pos} {e : Expr} {es : List Expr} {kws : List Keyword} {i : Nat} {g : FH} {gD : List DV → List DV → List DV} {ts tk : TL} {dvs : List V} {dsd : List Value}
  {gg : List Value → List Value → List Value} {gV : List V → List V → List V}
theorem ds_meth {pl : Sem Bool} (hv : PE X (.Name x npos) (tVar i)) (nm : m ≠ "_entries") (nm2 : m ≠ "memory") (c : Cls X.K C) (hm : Meth X.K C m f) (F : FnG X.prog X.w X.K X.mg X.base CX0 k f fd ps (spH (Cx.ky X) g)) (gd : X.A.guards = some []) (hr : Room k X.A)
    (hb : L2.Binds X.K fd ps dsd) (hdv : Vals dvs dsd) {E : XK} (hx : Passes CX0 X E) (hk : KOk (Cx.ky X) (gPlain dvs) gD) (ha : PA X (e :: es) (upA (Cx.ky X) ts)) (hst : starEach (e :: es) X.env = (false, eval e X.env) :: starEach es X.env := by rfl) (hpl : (backTo pos (starEach es X.env)).any (·.1) = false := by rfl)
    (ht : eval (.Call (.Attribute (.Name x npos) m apos) (e :: es) [] pos) X.env = (do
      let ov ← eval (.Name x npos) X.env
      standAt apos.atName
      let (f, first) ← holding [ov] (getMethod ov m pl)
      callWith pos f first (backTo pos (starEach (e :: es) X.env)) (backToKw pos (keywordEach [] X.env))) := by rfl)
    (hs : swapsWith (.Call (.Attribute (.Name x npos) m apos) (e :: es) [] pos) none spos.line X.env = pure false := by rfl) :
    PS X (.Expr (.Call (.Attribute (.Name x npos) m apos) (e :: es) [] pos) spos) (upS (Cx.ky X) (dMeth C i g gD ts dNil)) := by
  refine PS.imp (ps_expr (pe_methG (pl := pl) hv c hm F gd hr hb hdv hx ha hst hpl ht) hs) fun D σ H ⟨δ, E, cc, L, s, h, ff⟩ => ?_
  obtain ⟨a, d, ents, q, h⟩ := asO_of h
  exact up_methM nm nm2 hk (fun _ _ _ z => z) (fun _ H Q ⟨δ, R, c, L, es, h, k⟩ => k [] H [] (Ext.refl _) rfl h) s q h fun v H' z δ' s' _ h' => ff.nx δ' σ H' L s' h'
theorem ds_methK {pl : Sem Bool} {tkk : TA} (hv : PE X (.Name x npos) (tVar i)) (nm : m ≠ "_entries") (nm2 : m ≠ "memory") (c : Cls X.K C) (hm : Meth X.K C m f) (F : FnG X.prog X.w X.K X.mg X.base CX0 k f fd ps (spH (Cx.ky X) g)) (gd : X.A.guards = some []) (hr : Room k X.A)
    (hb : KBinds X.K fd ps ks gg gV) {E : XK} (hx : Passes CX0 X E) (hk : KOk (Cx.ky X) gV gD) (ha : PA X (e :: es) (upA (Cx.ky X) ts)) (hkw : PK X kws tkk) (htk : ∀ σ H Q, upA (Cx.ky X) tk σ H Q → tkk σ H Q)
    (hall : (backToKw pos (keywordEach kws X.env)).all (·.1.isSome) = true := by rfl) (hks : (backToKw pos (keywordEach kws X.env)).filterMap (·.1) = ks := by rfl)
    (hst : starEach (e :: es) X.env = (false, eval e X.env) :: starEach es X.env := by rfl) (hpl : ((backTo pos (starEach (e :: es) X.env)).any (·.1) || (backToKw pos (keywordEach kws X.env)).any (·.1.isNone)) = false := by rfl)
    (ht : eval (.Call (.Attribute (.Name x npos) m apos) (e :: es) kws pos) X.env = (do
      let ov ← eval (.Name x npos) X.env
      standAt apos.atName
      let (f, first) ← holding [ov] (getMethod ov m pl)
      callWith pos f first (backTo pos (starEach (e :: es) X.env)) (backToKw pos (keywordEach kws X.env))) := by rfl)
    (hs : swapsWith (.Call (.Attribute (.Name x npos) m apos) (e :: es) kws pos) none spos.line X.env = pure false := by rfl) :
    PS X (.Expr (.Call (.Attribute (.Name x npos) m apos) (e :: es) kws pos) spos) (upS (Cx.ky X) (dMeth C i g gD ts tk)) := by
  refine PS.imp (ps_expr (pe_methGK (pl := pl) hv c hm F gd hr hb hx ha hkw hall hks hst hpl ht) hs) fun D σ H ⟨δ, E, cc, L, s, h, ff⟩ => ?_
  obtain ⟨a, d, ents, q, h⟩ := asO_of h
  exact up_methM nm nm2 hk (fun _ _ _ z => z) htk s q h fun v H' z δ' s' _ h' => ff.nx δ' σ H' L s' h'
end
/-- the values of keywords, by data -/
theorem dk_cons {X : Cx} {nm : Option Str} {e : Expr} {kpos : Pos} {kws : List Keyword} {te : TD} {tk : TL} (he : PE X e (up (Cx.ky X) te)) (h : ∃ t, PK X kws t ∧ ∀ σ H Q, upA (Cx.ky X) tk σ H Q → t σ H Q) :
    ∃ t, PK X (⟨nm, e, kpos⟩ :: kws) t ∧ ∀ σ H Q, upA (Cx.ky X) (dCons te tk) σ H Q → t σ H Q := by
  obtain ⟨t, h1, h2⟩ := h
  refine ⟨_, pk_cons he h1, fun σ H Q ⟨δ, R, c, L, es, h, k⟩ => ?_⟩
  refine ⟨δ, _, c, L, es, h, fun v H1 d x1 r1 h3 => h2 _ _ _ ⟨δ, _, c, L, es.on x1, h3, fun us H2 ds x2 r2 h4 => ?_⟩⟩
  exact k _ H2 (d :: ds) (x1.trans x2) ⟨v, us, rfl, r1.ext (x2.hide _), r2⟩ h4
theorem dk_nil {X : Cx} : ∃ t, PK X [] t ∧ ∀ σ H Q, upA (Cx.ky X) dNil σ H Q → t σ H Q := ⟨_, pk_nil, fun σ H Q ⟨δ, R, c, L, es, h, k⟩ => k [] H [] (Ext.refl _) rfl h⟩

/-! ### self._entries[k] = v, self.memory = {} -/
def dHput (C : Addr) (i : Nat) (tk tv : TD) : TDS := fun E δ => asO C (δ.getD i .un) fun a d es => tv δ fun v => asP v fun z => tk δ fun k => asS k fun n => es.length < sizeLine ∧ E.nx (δ.set i (.od (.hs C a d (putE es n z))))
def dHmem (C : Addr) (i : Nat) : TDS := fun E δ => asO C (δ.getD i .un) fun _ _ _ => E.nx δ
theorem extM_upd {H : Hp} {as : List Addr} {b : Addr} {u : HO} (m : b ∈ as) : ExtM (mem as) H (upd H b u) := fun c o e => by
  by_cases h : c ∈ as
  · refine .inr ⟨mem_t.mpr h, ?_⟩
    by_cases z : c = b
    · rw [z, upd_same]; exact Option.some_ne_none _
    · rw [upd_ne z, e]; exact Option.some_ne_none _
  · exact .inl ⟨mem_f.mpr h, .inl (by rw [upd_ne (fun z => h (by rw [z]; exact m))]; exact e)⟩
theorem hide_upd {P : Addr → Bool} {H : Hp} {b : Addr} {u : HO} (h : P b = true) : hide P (upd H b u) = hide P H := hide_same h
section
variable {X : Cx} {C : Addr} {i : Nat} {x : Str} {e value : Expr} {tk tv : TD} {pos pos' apos npos : Pos}
theorem set_same {δ : Dn} {i : Nat} {s : Sl} (h : δ[i]? = some s) : δ.set i s = δ := by
  apply List.ext_getElem?
  intro j
  by_cases hj : j = i
  · subst hj
    rw [List.getElem?_set_self (List.getElem?_eq_some_iff.mp h).1, h]
  · rw [List.getElem?_set_ne (Ne.symm hj)]
theorem ds_hput (hu : X.A.units + 1 < cLine) (c : Cls X.K C) (na : NoAttr X.K C "_entries") (hv : PE X (.Name x npos) (tVar i)) (hk : PE X e (up (Cx.ky X) tk)) (hval : PE X value (up (Cx.ky X) tv))
    (hs : swapsWith value (some (.Subscript (.Attribute (.Name x npos) "_entries" apos) e pos')) pos.line X.env = pure false := by rfl) (hb : attributeBase (.Name x npos) "_entries" X.env (eval (.Name x npos) X.env) = eval (.Name x npos) X.env := by rfl) :
    PS X (.Assign [.Subscript (.Attribute (.Name x npos) "_entries" apos) e pos'] value pos) (upS (Cx.ky X) (dHput C i tk tv)) := by
  refine PS.imp (ps_dput hu (pe_fld hv hb) hk hval hs) fun D σ H ⟨δ, E, cc, L, s, h, ff⟩ => ?_
  obtain ⟨a, d, es, q, h⟩ := asO_of h
  have ho := getD_od q
  refine ⟨δ, _, cc, L, s, h, fun v H1 dv x1 r1 h1 => ?_⟩
  obtain ⟨z, rfl, h2⟩ := asP_of h1
  have s1 := s.on x1
  obtain ⟨e1, ⟨dx, vm, kvs, g1, g2, r⟩, hl⟩ := s1.ods.rd i _ ho
  refine ⟨.ref a, e1, a, C, dx, _, .ref d, rfl, g1, c, na, rfl, δ, _, cc, L, s1, h2, fun v2 H2 d2 x2 r2 h3 => ?_⟩
  obtain ⟨n, rfl, hlen, h5⟩ := asS_of h3
  have s2 := s1.on x2
  obtain ⟨_, ⟨dx2, vm2, kvs2, g3, g4, r3⟩, _⟩ := s2.ods.rd i _ ho
  refine ⟨d, _, rfl, by rw [show v2 = .str n from r2]; exact DPut.k (k := Sum.inr n) g4 (by rw [← r3.len]; exact hlen), ?_⟩
  have ld : L d = true := hl d (List.mem_cons_of_mem _ List.mem_cons_self)
  have ad : a ≠ d := fun z => by rw [z, g4] at g3; cases g3
  have eh : hide (oor cc.P L) (upd H2 d (.dK (putK kvs2 (.inr n) v))) = hide (oor cc.P L) H2 := hide_upd (by unfold oor; rw [ld, Bool.or_true])
  refine ff.nx _ σ _ L (s2.meth (o' := .hs C a d (putE es n z)) ho ⟨rfl, rfl, rfl⟩ (extM_upd (List.mem_cons_of_mem _ List.mem_cons_self)) ⟨dx2, vm2, _, by rw [upd_ne ad]; exact g3, upd_same, ?_⟩) h5
  rw [eh]
  exact r3.put (Rp.ext (x2.hide _) r1)
theorem ds_hmem (c : Cls X.K C) (na : NoAttr X.K C "memory") (hv : PE X (.Name x npos) (tVar i)) (hs : swapsWith (.Dict [] [] pos') (some (.Attribute (.Name x npos) "memory" apos)) pos.line X.env = pure false := by rfl) :
    PS X (.Assign [.Attribute (.Name x npos) "memory" apos] (.Dict [] [] pos') pos) (upS (Cx.ky X) (dHmem C i)) := by
  refine PS.imp (ps_fld hv pe_dnewK hs) fun D σ H ⟨δ, E, cc, L, s, h, ff⟩ => ?_
  obtain ⟨a, d, es, q, h⟩ := asO_of h
  have ho := getD_od q
  refine fun p hp => ?_
  have s1 := s.on (Ext.new (o := .dK []) hp)
  obtain ⟨e1, ⟨dx, vm, kvs, g1, g2, r⟩, hl⟩ := s1.ods.rd i _ ho
  refine ⟨.ref a, e1, a, C, dx, _, rfl, g1, c, na, (show 2 < 1000 by decide), ?_⟩
  have la : L a = true := hl a List.mem_cons_self
  have ad : d ≠ a := fun z => by rw [z, g1] at g2; cases g2
  have eh : hide (oor cc.P L) (upd (upd H p (.dK [])) a (.ins C dx (putF "memory" (.ref p) [("_entries", .ref d), ("memory", vm)]))) = hide (oor cc.P L) (upd H p (.dK [])) := hide_upd (by unfold oor; rw [la, Bool.or_true])
  have := s1.meth (o' := .hs C a d es) ho ⟨rfl, rfl, rfl⟩ (extM_upd (u := .ins C dx (putF "memory" (.ref p) [("_entries", .ref d), ("memory", vm)])) List.mem_cons_self) ⟨dx, .ref p, kvs, upd_same, by rw [upd_ne ad]; exact g2, by rw [eh]; exact r⟩
  rw [set_same ho] at this
  exact ff.nx _ σ _ L this h
end
end MR

/-! New houses: made, returned, put into slots. -/
namespace MR
open PySem PySem.Spec PyProof.Rows L2
abbrev TDN := Dn → (OD → Prop) → Prop
def plusL (L : Addr → Bool) (as : List Addr) : Addr → Bool := fun b => L b || mem as b
theorem plusL_t {L : Addr → Bool} {as : List Addr} {b : Addr} : plusL L as b = true ↔ L b = true ∨ b ∈ as := by unfold plusL; rw [Bool.or_eq_true, mem_t]
/-- an expression that makes a new owned thing -/
def upN (κ : Ky) (t : TDN) : TE := fun σ H Q => ∃ δ R c L, ES κ c H L δ σ ∧ t δ R ∧ ∀ o H', Ext H H' → (∀ b ∈ o.as, H b = none) → OdRd κ (hide (oor c.P (plusL L o.as)) H') H' o → R o → Q (.ref o.at_) H'
section
variable {κ : Ky} {c : Sc} {H H' : Hp} {L : Addr → Bool} {δ : Dn} {σ : Sg} {i : Nat} {o : OD}
theorem ES.newOd (s : ES κ c H L δ σ) (x : Ext H H') (fr : ∀ b ∈ o.as, H b = none) (r : OdRd κ (hide (oor c.P (plusL L o.as)) H') H' o) : ES κ c H' (plusL L o.as) (δ.set i (.od o)) (σ.set i (some (.ref o.at_))) := by
  have hx : Ext (hide (oor c.P L) H) (hide (oor c.P (plusL L o.as)) H') := fun b u e => by
    obtain ⟨p, h⟩ := hide_f e
    obtain ⟨p1, p2⟩ := oor_f.mp p
    have n : b ∉ o.as := fun m => by rw [fr b m] at h; cases h
    have p' : oor c.P (plusL L o.as) b = false := oor_f.mpr ⟨p1, by unfold plusL; rw [p2, mem_f.mpr n]; rfl⟩
    rcases x b u h with z | ⟨w, u', z, w'⟩
    · exact .inl (hide_t p' z)
    · exact .inr ⟨w, u', hide_t p' z, w'⟩
  have nown : ∀ {j : Nat} {ds : List PyData}, (δ.set i (.od o))[j]? = some (Sl.own ds) → j ≠ i ∧ δ[j]? = some (Sl.own ds) := fun {j ds} q => by
    rcases set_get_own q with ⟨_, z, _⟩ | ⟨n, z⟩
    · cases z
    · exact ⟨n, z⟩
  refine ⟨by rw [List.length_set, List.length_set]; exact s.len, fun j e q => ?_, fun j ds q => ?_, fun j k ds fs b n q1 q2 q3 => ?_, s.psys, s.pdom, fun b hb => ?_, s.ext.trans x, s.kept.ext hx, ⟨fun j p q => ?_, fun j k p p' n q1 q2 => ?_⟩, s.mp⟩
  · rcases set_get_v q with ⟨_, z, _⟩ | ⟨nj, z⟩
    · cases z
    · obtain ⟨v, q1, q2⟩ := s.val j e z
      exact ⟨v, by rw [List.getElem?_set_ne (Ne.symm nj)]; exact q1, q2.ext hx⟩
  · obtain ⟨nj, z⟩ := nown q
    obtain ⟨b, ys, q1, q2, q3, q4⟩ := s.own j ds z
    exact ⟨b, ys, by rw [List.getElem?_set_ne (Ne.symm nj)]; exact q1, plusL_t.mpr (.inl q2), x.lst q3, q4.ext hx⟩
  · obtain ⟨n1, z1⟩ := nown q1
    obtain ⟨n2, z2⟩ := nown q2
    rw [List.getElem?_set_ne (Ne.symm n1)] at q3
    rw [List.getElem?_set_ne (Ne.symm n2)]
    exact s.sep j k ds fs b n z1 z2 q3
  · rcases plusL_t.mp hb with l | m
    · obtain ⟨q1, q2⟩ := s.ldom b l
      exact ⟨x.some q1, q2⟩
    · obtain ⟨u, hu, _⟩ := r.kinds m
      exact ⟨by rw [hu]; exact Option.some_ne_none _, .inl (s.ext.none (fr b m))⟩
  · by_cases hj : j = i
    · subst hj
      have il : j < δ.length := by
        have := (List.getElem?_eq_some_iff.mp q).1
        rw [List.length_set] at this
        exact this
      rw [List.getElem?_set_self il] at q
      cases q
      exact ⟨List.getElem?_set_self (by rw [← s.len]; exact il), r, fun b m => plusL_t.mpr (.inr m)⟩
    · rw [List.getElem?_set_ne (Ne.symm hj)] at q
      obtain ⟨q1, q2, q3⟩ := s.ods.rd j p q
      exact ⟨by rw [List.getElem?_set_ne (Ne.symm hj)]; exact q1, q2.mono (fun b u _ h k => x.keep h fun ⟨_, _, z, _⟩ => by rw [z] at k; exact k) hx, fun b m => plusL_t.mpr (.inl (q3 b m))⟩
  · have il : ∀ {p : OD}, (δ.set i (.od o))[i]? = some (Sl.od p) → p = o := fun {p} q => by
      have il : i < δ.length := by
        have := (List.getElem?_eq_some_iff.mp q).1
        rw [List.length_set] at this
        exact this
      rw [List.getElem?_set_self il] at q
      cases q
      rfl
    have old : ∀ {j : Nat} {p : OD}, δ[j]? = some (Sl.od p) → ∀ b ∈ p.as, b ∉ o.as := fun {j p} q b m m2 => by
      have l := (s.ods.rd j p q).2.2 b m
      exact (s.ldom b l).1 (fr b m2)
    by_cases hj : j = i
    · subst hj
      rw [il q1]
      rw [List.getElem?_set_ne n] at q2
      exact fun b m m2 => old q2 b m2 m
    · rw [List.getElem?_set_ne (Ne.symm hj)] at q1
      by_cases hk : k = i
      · subst hk
        rw [il q2]
        exact old q1
      · rw [List.getElem?_set_ne (Ne.symm hk)] at q2
        exact s.ods.dj j k p p' n q1 q2
end
def dSetN (i : Nat) (t : TDN) : TDS := fun E δ => t δ fun o => E.nx (δ.set i (.od o))
theorem ds_setN {X : Cx} {i : Nat} {x : Str} {e : Expr} {t : TDN} {pos pos' : Pos} (hN : X.N.Nodup) (hi : X.N[i]? = some x) (hx : Loc X.env.scope x) (he : PE X e (upN (Cx.ky X) t)) (hs : swapsWith e (some (.Name x pos')) pos.line X.env = pure false := by rfl)
    (hf : X.fn x = true ∨ X.env.scope.names.lookup x = some .local := by first | exact .inl rfl | exact .inr rfl | assumption) : PS X (.Assign [.Name x pos'] e pos) (upS (Cx.ky X) (dSetN i t)) :=
  PS.imp (ps_set hN hi hx he hs hf) fun D σ H ⟨δ, E, c, L, es, h, f⟩ => ⟨δ, _, c, L, es, h, fun o H1 x1 fr r h1 => f.nx _ _ H1 _ (es.newOd x1 fr r) h1⟩
/-! ### House() -/
def spInit (C : Addr) : Sp := fun vs H Q _ => ∃ a dx, vs = [.ref a] ∧ H a = some (.ins C dx []) ∧ ∀ d m, H d = none → upd (upd H d (.dK [])) a (.ins C dx [("_entries", .ref d)]) m = none →
  Q .non (upd (upd (upd (upd H d (.dK [])) a (.ins C dx [("_entries", .ref d)])) m (.dK [])) a (.ins C dx [("_entries", .ref d), ("memory", .ref m)]))
theorem ok_hinit {P : Program} {w : World} {K : PySem.W.Frag} {mg : Str → Option Value} {base : Heap} {qual : Str} {st : Stmt} {f C : Addr} {fd : FuncData} {p1 p2 p3 p4 q1 q2 q3 q4 : Pos} (F : Fun K "__init__" qual st f fd) (S : FnScope [("self" : Str)] [("self" : Str)] (defScope st)) (hv : ∀ (X : Cx) (p : Pos), X.env.scope = defScope st → X.N = [("self" : Str)] → PE X (.Name "self" p) (tVar 0))
    (hst : defBody st = [.Assign [.Attribute (.Name "self" p1) "_entries" p2] (.Dict [] [] p3) p4, .Assign [.Attribute (.Name "self" q1) "memory" q2] (.Dict [] [] q3) q4])
    (c : Cls K C) (nE : NoAttr K C "_entries") (nM : NoAttr K C "memory") : FnOk P w K mg base CX0 1 f fd [("self" : Str)] (spInit C) := by
  refine F.ok S (fun vs H Q E ⟨a, dx, e, _⟩ => by rw [e]; rfl) (fun cdv A outer s H vs Q E hr ⟨a, dx, e, ha, k⟩ => ?_)
  subst e
  rw [hst]
  refine ⟨_, pss_cons (ps_fld (hv _ _ rfl rfl) pe_dnewK rfl) (pss_one (ps_fld (hv _ _ rfl rfl) pe_dnewK rfl)), ?_⟩
  intro d hd
  have ad : a ≠ d := ne_of_none ha hd
  refine ⟨_, rfl, a, C, dx, [], rfl, by rw [upd_ne ad]; exact ha, c, nE, (show 0 < 1000 by decide), ?_⟩
  intro m hm
  have am : a ≠ m := fun z => by rw [← z, upd_same] at hm; cases hm
  refine ⟨_, rfl, a, C, dx, [("_entries", .ref d)], rfl, by rw [upd_ne am]; exact upd_same, c, nM, (show 1 < 1000 by decide), ?_⟩
  exact k d m hd hm
def dNewH (C : Addr) : TDN := fun _ R => ∀ a d, R (.hs C a d [])
theorem de_newH {X : Cx} {C f : Addr} {fd : FuncData} {x : Str} {p pos : Pos} {k : Nat} {E : XK} (M : Mk X.K C f) (F : FnOk X.prog X.w X.K X.mg X.base CX0 k f fd [("self" : Str)] (spInit C)) (hr : Room (k + 1) X.A) (hg : Gl X x) (hm : X.mg x = some (.ref C)) (hb : L2.Binds X.K fd [("self" : Str)] []) (hx : Passes CX0 X E)
    (hdb : (x == ("__debug__" : Str)) = false := by decide) : PE X (.Call (.Name x p) [] [] pos) (upN (Cx.ky X) (dNewH C)) := by
  refine PE.imp (pe_make0 M F hr hg hm hb .nil hx hdb) fun σ H Q ⟨δ, R, c, L, s, h, k⟩ => ?_
  intro a dx na ndx nad
  show spInit C [.ref a] _ _ _
  refine ⟨a, dx, rfl, upd_same, fun d m nd nm => ⟨rfl, ?_⟩⟩
  have ad : a ≠ d := fun z => by rw [← z, upd_same] at nd; cases nd
  have am : a ≠ m := fun z => by rw [← z, upd_same] at nm; cases nm
  have dm : d ≠ m := fun z => by rw [← z, upd_ne ad.symm, upd_same] at nm; cases nm
  have dxd : d ≠ dx := fun z => by rw [z, upd_ne nad, upd_same] at nd; cases nd
  have nd0 : H d = none := by rw [upd_ne ad.symm, upd_ne dxd] at nd; exact nd
  refine k (.hs C a d []) _ (fun b u e => .inl ?_) (fun b mm => ?_) ⟨dx, .ref m, [], upd_same, ?_, rfl⟩ (h a d)
  · have nb : ∀ {c : Addr}, H c = none → b ≠ c := fun {c} z w => by rw [w, z] at e; cases e
    have nbm : b ≠ m := fun w => by
      have : upd (upd (upd (upd H dx (.own a)) a (.ins C dx [])) d (.dK [])) a (.ins C dx [("_entries", .ref d)]) b = some u := by
        rw [upd_ne (nb na), upd_ne (nb nd0), upd_ne (nb na), upd_ne (nb ndx)]; exact e
      rw [w, nm] at this
      cases this
    rw [upd_ne (nb na), upd_ne nbm, upd_ne (nb na), upd_ne (nb nd0), upd_ne (nb na), upd_ne (nb ndx)]
    exact e
  · rcases List.mem_cons.mp mm with z | z
    · rw [z]; exact na
    · rw [List.mem_singleton.mp z]; exact nd0
  · rw [upd_ne ad.symm, upd_ne dm, upd_ne ad.symm, upd_same]
/-! ### a def that returns what it made -/
def spN (κ : Ky) (g : List DV → (OD → Prop) → Prop) : Sp := fun vs H Q _ => ∃ ds R P, Dom P H ∧ RvA κ (hide P H) ds vs ∧ g ds R ∧ ∀ o H', Ext H H' → (∀ b ∈ o.as, H b = none) → OdRd κ (hide (fun b => P b || mem o.as b) H') H' o → R o → Q (.ref o.at_) H'
def dCallN (g : List DV → (OD → Prop) → Prop) (ta : TL) : TDN := fun δ R => ta δ fun ds => g ds R
theorem de_callN {X : Cx} {k : Nat} {f : Addr} {fd : FuncData} {ps : List Str} {g : List DV → (OD → Prop) → Prop} {ta : TL} {x : Str} {p pos : Pos} {a : Expr} {es : List Expr} {E : XK} (F : FnG X.prog X.w X.K X.mg X.base CX0 k f fd ps (spN (Cx.ky X) g)) (gd : X.A.guards = some []) (hr : Room k X.A) (hg : Gl X x) (hm : X.mg x = some (.ref f)) (hk : PySem.W.keepIn X.K (.ref f) = true)
    (hb : L2.Binds X.K fd ps []) (hx : Passes CX0 X E) (ha : PA X (a :: es) (upA (Cx.ky X) ta)) (hdb : (x == ("__debug__" : Str)) = false := by decide) (he : starEach (a :: es) X.env = (false, eval a X.env) :: starEach es X.env := by rfl)
    (hpl : (backTo pos (starEach es X.env)).any (·.1) = false := by rfl) : PE X (.Call (.Name x p) (a :: es) [] pos) (upN (Cx.ky X) (dCallN g ta)) := by
  refine PE.imp (pe_callG F gd hr hg hm hk hb .nil hx ha hdb he hpl) fun σ H Q ⟨δ, R, c, L, es, h, k1⟩ => ?_
  refine ⟨δ, _, c, L, es, h, fun vs H1 ds x1 r1 h1 => ?_⟩
  show spN (Cx.ky X) g (vs ++ []) H1 Q E
  rw [List.append_nil]
  refine ⟨ds, R, oor c.P L, (es.on x1).dom, r1, h1, fun o H' x2 fr rr h2 => k1 o H' (x1.trans x2) (fun b m => x1.none (fr b m)) (rr.mono (fun _ _ _ h _ => h) (hide_less H' fun b z => ?_)) h2⟩
  show (oor c.P L b || mem o.as b) = true
  have z : (c.P b || (L b || mem o.as b)) = true := z
  unfold oor
  rw [Bool.or_assoc]
  exact z
def dRetN0 (i : Nat) : TDS := fun E δ => match δ.getD i .un with
  | .od o => E.ro o
  | _ => False
theorem ds_retN0 {X : Cx} {i : Nat} {x : Str} {pos p : Pos} (hv : PE X (.Name x p) (tVar i)) : PS X (.Return (some (.Name x p)) pos) (upS (Cx.ky X) (dRetN0 i)) := by
  refine PS.imp (ps_ret hv) fun D σ H ⟨δ, E, c, L, s, h, f⟩ => ?_
  unfold dRetN0 at h
  cases q : δ.getD i .un with
  | od o =>
    rw [q] at h
    have ho := getD_od q
    exact ⟨_, (s.ods.rd i o ho).1, f.ro o δ σ H L s ⟨i, ho⟩ h⟩
  | un => rw [q] at h; exact h.elim
  | v _ => rw [q] at h; exact h.elim
  | own _ => rw [q] at h; exact h.elim
theorem okN {P : Program} {w : World} {K : PySem.W.Frag} {mg : Str → Option Value} {base : Heap} {x qual : Str} {st : Stmt} {f : Addr} {fd : FuncData} {N ps : List Str} {k : Nat} {g : List DV → (OD → Prop) → Prop} (F : Fun K x qual st f fd) (S : FnScope N ps (defScope st)) (len : ∀ ds R, g ds R → ds.length = ps.length)
    (hb : ∀ (cdv : Value) (A : Around), A.guards = some [] → ∀ (outer : List PySem.Env) (s : Shared) (H : Hp) (E : XK), Room k (A.deeper (envOfC qual (defScope st) s.heap.objs.size f cdv)) →
      ∃ t, PSs (cxOf CX0 P w K mg base N qual (defScope st) f cdv A outer s H E).nox (defBody st) (upS ⟨K, P, w⟩ t) ∧ ∀ ds R, g ds R → t { nx := fun _ => False, rt := fun _ => False, ro := R } (startD N ds)) : FnG P w K mg base CX0 (k + 1) f fd ps (spN ⟨K, P, w⟩ g) := by
  refine fnG_of F S (fun vs H Q E ⟨ds, R, P, d, r, h, q⟩ => by rw [← r.len]; exact len ds R h) fun cdv A gd outer s H vs Q E room ⟨ds, R, P', d, r, h, q⟩ => ?_
  obtain ⟨t, ht, hr⟩ := hb cdv A gd outer s H E room
  refine ⟨_, ht.nox, startD N ds, _, ⟨H, P', [], [], fun _ => false⟩, _, es_start d r, hr ds R h, ⟨fun δ σ H' L es h' => h'.elim, fun v H' d' x r' h' => h'.elim, fun _ _ _ _ _ z => z.elim, fun _ _ _ _ _ z => z.elim, fun o δ σ H' L es ⟨i, ho⟩ h' => ?_⟩⟩
  obtain ⟨_, r1, hl⟩ := es.ods.rd i o ho
  refine q o H' (es.ext.ext fun _ => rfl) (fun b m => ?_) (r1.mono (fun _ _ _ h _ => h) (hide_less H' fun b z => ?_)) h'
  · rcases (es.ldom b (hl b m)).2 with z | z
    · exact z
    · cases z
  · unfold oor
    have z : (P' b || mem o.as b) = true := z
    rcases (Bool.or_eq_true _ _).mp z with z | z
    · rw [show (⟨H, P', [], [], fun _ => false⟩ : Sc).P b = true from z, Bool.true_or]
    · rw [hl b (mem_t.mp z), Bool.or_true]
end MR

/-! Dicts with text keys as data; sorted of one; truth of texts; None asked; what is never reached. -/
namespace MR
open PySem PySem.Spec PyProof.Rows L2
def entsD (es : Ents) : List (PyData × PyData) := es.map fun e => (.str e.1, e.2)
theorem rpK_E {K : PySem.W.Frag} {H : Hp} : ∀ {es : Ents} {kvs : List (Key × V)}, RpK K H (entsD es) kvs ↔ RpE K H es kvs
  | [], kvs => Iff.rfl
  | (n, d) :: es, kvs => by
    constructor
    · rintro ⟨k, v, q, e, ek, h, t⟩
      cases k with
      | inl i => cases ek
      | inr m =>
        have ek : PyData.str n = .str m := ek
        cases ek
        exact ⟨v, q, e, h, rpK_E.mp t⟩
    · rintro ⟨v, q, e, h, t⟩
      exact ⟨.inr n, v, q, e, rfl, h, rpK_E.mpr t⟩
/-! ### sorted(d) -/
def kS (k : Key) : Str := match k with
  | .inr x => x
  | .inl _ => Str.empty
def sortK (ns : List Str) : List Str := ns.mergeSort (PySem.W.dataLe false PyData.str)
theorem eachIs_of {α β : Type} {R : α → β → Prop} : ∀ {vs : List α} {ws : List β}, vs.length = ws.length → (∀ (j : Nat) v, vs[j]? = some v → ∃ w, ws[j]? = some w ∧ R v w) → PySem.W.EachIs R vs ws
  | [], [], _, _ => .nil
  | [], _ :: _, h, _ => by cases h
  | _ :: _, [], h, _ => by cases h
  | v :: vs, w :: ws, h, f => by
    obtain ⟨w', e, r⟩ := f 0 v rfl
    cases e
    exact .cons r (eachIs_of (Nat.succ.inj h) fun j u e => f (j + 1) u e)
theorem kv_at : ∀ {kvs : List (Key × V)} {vs : List (Key × Value)}, KV kvs vs → ∀ {j : Nat} {k : Key} {x : Value}, vs[j]? = some (k, x) → ∃ p, kvs[j]? = some p ∧ p.1 = k ∧ RelV p.2 x
  | _, _, .nil, j, k, x, e => by cases j <;> cases e
  | _, _, .cons r t, 0, k, x, e => by
    cases e
    exact ⟨_, rfl, r.1, r.2⟩
  | _, _, .cons r t, j + 1, k, x, e => kv_at t (j := j) e
/-- what is collected from a dict, and that the heap has grown -/
theorem collect_src {prog : Program} {w : World} {A : Around} {E : Value → Shared → Prop} {s : Shared} {T : String} {r d : Addr} {n : Nat} {P : Nat → Value → Prop} {OK : Heap → Prop} {R : List Value → Shared → Prop} (src : PySem.W.KdlSrc prog w T r d n P OK) (hand : A.handled = none) (ok : OK s.heap) (small : n ≤ sizeLine)
    (fin : ∀ (g : Heap) (tk : Nat) (acc : Array Value), (∀ b o, s.heap.get? b = some o → g.get? b = some o) → s.heap.objs.size ≤ g.objs.size → ItemsOf P acc n → R acc.toList { s with heap := g, toks := tk }) : wpAny (model prog w) A (collect (.ref r)) R E s := by
  have far := src.there _ ok
  unfold collect
  refine wpAny_bind (wpAny_runValue (codeAny_builtin entry_proto_collect' ?_))
  rw [Around.under_plainId PySem.F.plain_proto_collect _]
  show wpAny _ A.in1 (newList [] >>= fun l => again (.builtin "list.__iadd__" ⟨[l, .ref r], []⟩)) _ _ s
  refine wpAny_bind (wpAny_newObj_type (wpAny_pure ⟨plainId_quiet PySem.F.plain_list_iadd _, codeAny_builtin entry_list_iadd' ?_⟩))
  rw [Around.under_plainId PySem.F.plain_list_iadd _]
  have here : (s.heap.push { cls := .type "list", data := .seq ([] : List Value).toArray }).get? s.heap.objs.size = some { cls := .type "list", data := .seq #[] } := Heap.get?_push_size _ rfl
  show wpAny _ A.in1 (Builtin.List.listExtendWith (.ref s.heap.objs.size) (.ref r) (.ref s.heap.objs.size)) _ _ _
  refine wpAny_mono (PySem.W.kdl_extend (A := A) (s := { s with heap := s.heap.push { cls := .type "list", data := .seq ([] : List Value).toArray } })
    (R := fun q s2 => ∃ (g : Heap) (tk : Nat) (acc : Array Value) (c : Nat), q = .ok (.ret (.ref s.heap.objs.size)) ∧ s2 = { s with heap := g, toks := tk } ∧ (∀ b o, s.heap.get? b = some o → g.get? b = some o) ∧
      g.get? s.heap.objs.size = some { cls := .type "list", dict := none, data := .seq acc c, slots := #[] } ∧ ItemsOf P acc n)
    src hand (src.keep _ _ ok fun _ _ _ e => Heap.get?_push_of_some _ e) s.heap.objs.size (Nat.ne_of_gt far.1) (Nat.ne_of_gt far.2) (.ref s.heap.objs.size) 0 here
    (fun g tk acc c k1 k2 k3 => ⟨g, tk, acc, c, rfl, rfl, fun b o e => k1 b o (Nat.ne_of_lt (Heap.lt_size e)) (Heap.get?_push_of_some _ e), k2, k3⟩) small) (fun f s2 x => ?_) fun e s2 x => ?_
  · cases f with
    | done v =>
      obtain ⟨g, tk, acc, c, e, rfl, k1, k2, k3⟩ := x
      cases e
      show wpAny _ A (load s.heap.objs.size >>= _) _ _ _
      exact wpAny_bind (wpAny_load k2 (wpAny_pure (fin g tk acc k1 (Nat.le_of_lt (Heap.lt_size k2)) k3)))
    | again v =>
      refine ⟨x.1, codeAny_mono x.2 fun q s3 y => ?_⟩
      obtain ⟨g, tk, acc, c, rfl, rfl, k1, k2, k3⟩ := y
      show wpAny _ A (load s.heap.objs.size >>= _) _ _ _
      exact wpAny_bind (wpAny_load k2 (wpAny_pure (fin g tk acc k1 (Nat.le_of_lt (Heap.lt_size k2)) k3)))
  · obtain ⟨_, _, _, _, e2, _⟩ := x
    cases e2
section
variable {X : Cx}
theorem cr_sortD (hc : X.calm = true) (hu : X.A.units + 64 < cLine) : CallR X (.builtin "sorted") (fun xs H Q => ∃ a kvs, xs = [V.ref a] ∧ Rd H a (.dK kvs) ∧ (∀ e ∈ kvs, ∃ n, e.1 = Sum.inr n) ∧ ∀ p, H p = none → Q (.ref p) (upd H p (.lst ((sortK (kvs.map fun e => kS e.1)).map V.str)))) := by
  intro pins s σ H xs us Q I r ⟨a, kvs, ea, rd, hk, q⟩
  subst ea
  obtain ⟨u, rfl, ru⟩ := Vals.one r
  cases ru
  obtain ⟨z, hd, vs, rel, dd⟩ := dk_rd I.hok rd
  obtain ⟨ep, hat⟩ := dd.dictAt
  have lenv : vs.length = kvs.length := by
    have rel' : KV kvs vs := rel
    unfold KV at rel'
    exact rel'.length.symm
  refine Calls.call_function_entry kind_sorted plain_sorted entry_sorted (args_sorted1 _) ?_
  unfold Builtin.«sorted»
  refine wpAny_bind (m := checkCount "sorted" 1 1 _) (wpAny_pure (wpAny_bind (collect_src (A := X.A.in1) (PySem.W.kdl_dict (knd := mixKind X.prog X.w) (kvs := vs) (ep := ep) hd) (I.ok.hd hc) hat (by rw [lenv]; exact z) fun h1 tk acc k1 hp io => ?_)))
  obtain ⟨al, ai⟩ := io
  have al' : acc.toList.length = kvs.length := by rw [Array.length_toList, al, lenv]
  have each : PySem.W.EachIs (fun v x => ∃ t, v = Value.str x t) acc.toList (kvs.map fun e => kS e.1) := by
    refine eachIs_of (by rw [List.length_map, al']) fun j v e => ?_
    obtain ⟨k, x, hv, hi⟩ := ai j v (by rw [← Array.getElem?_toList]; exact e)
    obtain ⟨p, hp, e1, _⟩ := kv_at rel hv
    obtain ⟨n, en⟩ := hk p (List.mem_of_getElem? hp)
    refine ⟨kS p.1, by rw [List.getElem?_map, hp]; rfl, ?_⟩
    have hi : keyIs k v = true := hi
    have e1 : p.1 = k := e1
    rcases keyIs_shape hi with ⟨i, t, e2, e3⟩ | ⟨y, t, e2, e3⟩
    · rw [en, e2] at e1
      cases e1
    · refine ⟨t, ?_⟩
      rw [e3, e1, e2]
      rfl
  have vl : acc.toList.length ≤ sizeLine := by rw [al']; exact z
  refine wpAny_bind (wpAny_newList ?_ vl)
  have at1 : (h1.push (seqObj "list" acc.toList.toArray 0)).get? h1.objs.size = some (seqObj "list" acc.toList.toArray 0) := Heap.get?_push_size _ rfl
  have er : PySem.W.EachIs (fun v x => ∃ as, Reads (h1.push (seqObj "list" acc.toList.toArray 0)) v (PyData.str x) as ∧ h1.objs.size ∉ as) acc.toList (kvs.map fun e => kS e.1) := each.mono fun v x ⟨t, e⟩ => by
    rw [e]
    exact ⟨[], .str x t, List.not_mem_nil⟩
  refine wpAny_bind (wpAny_holding (PySem.W.list_sort_data (A := X.A.in1) (s := { s with heap := h1.push (seqObj "list" acc.toList.toArray 0), toks := tk }) at1 each er (PySem.W.AllAlike.of fun _ _ => rfl) (PySem.W.Sortable.others fun _ => ⟨fun z => (nomatch z), fun _ z => (nomatch z)⟩)
    (by rw [List.length_map]; exact z) (fun x _ => by show X.A.units + 1 + 1 + 0 < cLine; omega) fun out hlen eo => ?_))
  obtain ⟨c, hc2⟩ := sortedHeap_at (vs := acc.toList) (out := out.toArray) at1
  have keep : ∀ b u, s.heap.get? b = some u → (sortedHeap (h1.push (seqObj "list" acc.toList.toArray 0)) h1.objs.size acc.toList out.toArray).get? b = some u := fun b u e => by
    have q := k1 b u e
    have lt := Heap.lt_size q
    rw [sortedHeap_old (Nat.ne_of_lt lt) (by rw [size_push']; exact Nat.lt_succ_of_lt lt)]
    exact Heap.get?_push_of_some _ q
  have hn : H h1.objs.size = none := I.hok.fresh hp
  have rv : Vals ((sortK (kvs.map fun e => kS e.1)).map V.str) out := each_vals eo
  have hl2 : ((sortK (kvs.map fun e => kS e.1)).map V.str).length ≤ sizeLine := by
    rw [List.length_map]
    unfold sortK
    rw [(List.mergeSort_perm _ _).length_eq, List.length_map]
    exact z
  refine wpAny_pure ⟨_, rfl, .ref h1.objs.size, _, I.laid (t' := tk) (o := .lst ((sortK (kvs.map fun e => kS e.1)).map V.str)) keep hp ⟨hl2, out, c, rv, by rw [← hc2]⟩, rfl, q _ hn⟩
end
/-! ### by data -/
def keysE (es : Ents) : List Str := es.map (·.1)
def fSortD : FL := fun ds R => ∃ es : Ents, ds = [.p (.dict (entsD es))] ∧ R (.p (.list ((sortK (keysE es)).map .str)))
theorem rpE_keys {K : PySem.W.Frag} {H : Hp} : ∀ {es : Ents} {kvs : List (Key × V)}, RpE K H es kvs → (∀ e ∈ kvs, ∃ n, e.1 = Sum.inr n) ∧ (kvs.map fun e => kS e.1) = keysE es
  | [], kvs, h => by
    rw [show kvs = [] from h]
    exact ⟨fun _ m => absurd m List.not_mem_nil, rfl⟩
  | (n, d) :: es, _, ⟨v, q, e, h, t⟩ => by
    subst e
    obtain ⟨h1, h2⟩ := rpE_keys t
    refine ⟨fun x m => ?_, ?_⟩
    · rcases List.mem_cons.mp m with z | z
      · rw [z]; exact ⟨n, rfl⟩
      · exact h1 x z
    · rw [List.map_cons, h2]; rfl
section
variable {X : Cx}
theorem cd_sortD (hc : X.calm = true) (hu : X.A.units + 64 < cLine) : CallR X (.builtin "sorted") (upC (Cx.ky X) fSortD) := CallR.imp (cr_sortD hc hu) fun xs H Q ⟨ds, R, P, dm, r, ⟨es, e, h⟩, k⟩ => by
  subst e
  obtain ⟨v, rfl, a, kvs, rfl, q, nw, ra⟩ := rvA1 r
  obtain ⟨h1, h2⟩ := rpE_keys (rpK_E.mp ra)
  refine ⟨a, kvs, rfl, .inl (hide_f q).2, h1, fun p hn => ?_⟩
  rw [h2]
  exact k _ _ (.p (.list ((sortK (keysE es)).map .str))) (Ext.new hn) (new_lst dm hn (rpA_txt _) (nP_strs _)) h
end
/-- d[k], there -/
def dDGet (td tk : TD) : TD := fun δ R => td δ fun d => asP d fun y => ∃ es : Ents, y = .dict (entsD es) ∧ tk δ fun k => asS k fun n => ∃ z, getE es n = some z ∧ R (.p z)
section
variable {X : Cx} {e o i : Expr} {te td tk : TD} {pos p : Pos}
theorem de_dgetD (hu : X.A.units + 1 < cLine) (hd : PE X o (up (Cx.ky X) td)) (hk : PE X i (up (Cx.ky X) tk)) (hs : NoSl i := by exact fun _ _ => rfl) : PE X (.Subscript o i pos) (up (Cx.ky X) (dDGet td tk)) := by
  refine PE.imp (pe_dget hu hd hk hs) fun σ H Q ⟨δ, R, cc, L, s, h, k⟩ => ⟨δ, _, cc, L, s, h, fun v H1 d x1 r1 h1 => ?_⟩
  obtain ⟨y, rfl, es, rfl, h2⟩ := asP_of h1
  refine ⟨δ, _, cc, L, s.on x1, h2, fun v2 H2 d2 x2 r2 h3 => ?_⟩
  obtain ⟨n, rfl, z, hz, h4⟩ := asS_of h3
  obtain ⟨a, kvs, rfl, q, nw, ra⟩ := r1.ext (x2.hide _)
  obtain ⟨y, e, ry⟩ := (rpK_E.mp ra).val.2 z hz
  refine ⟨a, y, rfl, ?_, k y H2 (.p z) (x1.trans x2) ry h4⟩
  rw [show v2 = .str n from r2, ← e]
  exact .inl ⟨kvs, .inr n, .inl (hide_f q).2, rfl, rfl⟩
/-! {k: v, ..} with text keys -/
def dPairs : List (TD × TD) → Dn → (Ents → Prop) → Prop
  | [], _, R => R []
  | (tk, tv) :: r, δ, R => tk δ fun k => asS k fun n => tv δ fun v => asP v fun z => dPairs r δ fun es => R ((n, z) :: es)
def mergeE (es more : Ents) : Ents := more.foldl (fun acc e => putE acc e.1 e.2) es
def dDispS (ps : List (TD × TD)) : TD := fun δ R => dPairs ps δ fun es => es.length ≤ 15 ∧ R (.p (.dict (entsD (mergeE [] es))))
theorem RpE.merge {K : PySem.W.Frag} {H : Hp} : ∀ {more : Ents} {mkvs : List (Key × V)} {es : Ents} {kvs : List (Key × V)}, RpE K H more mkvs → RpE K H es kvs → RpE K H (mergeE es more) (mergeK kvs mkvs)
  | [], mkvs, es, kvs, h, g => by rw [show mkvs = [] from h]; exact g
  | (n, d) :: more, _, es, kvs, ⟨v, q, e, h, t⟩, g => by
    subst e
    exact RpE.merge (more := more) (mkvs := q) (es := putE es n d) (kvs := putK kvs (.inr n) v) t (g.put h)
theorem up_pairs {κ : Ky} {P : Addr → Bool} : ∀ {ps : List (TD × TD)} {σ : Sg} {H : Hp} {Q : List (V × V) → Hp → Prop} {δ : Dn} {c : Sc} {L : Addr → Bool} {R : Ents → Prop}, ES κ c H L δ σ → dPairs ps δ R →
    (∀ kvs H' es, Ext H H' → RpE κ.K (hide (oor c.P L) H') es kvs → R es → Q (kvs.map fun kv => (kV kv.1, kv.2)) H') → tPairs (ps.map fun p => (up κ p.1, up κ p.2)) σ H Q
  | [], σ, H, Q, δ, c, L, R, s, h, k => k [] H [] (Ext.refl H) rfl h
  | (tk, tv) :: ps, σ, H, Q, δ, c, L, R, s, h, k => by
    refine ⟨δ, _, c, L, s, h, fun v H1 d x1 r1 h1 => ?_⟩
    obtain ⟨n, rfl, h2⟩ := asS_of h1
    refine ⟨δ, _, c, L, s.on x1, h2, fun v2 H2 d2 x2 r2 h3 => ?_⟩
    obtain ⟨z, rfl, h4⟩ := asP_of h3
    refine up_pairs (P := P) ((s.on x1).on x2) h4 fun kvs H3 es x3 r3 h5 => ?_
    have ev : v = .str n := r1
    subst ev
    exact k ((.inr n, v2) :: kvs) H3 ((n, z) :: es) (x1.trans (x2.trans x3)) ⟨v2, kvs, rfl, Rp.ext (x3.hide _) r2, r3⟩ h5
theorem ES.newPriv {κ : Ky} {c : Sc} {H : Hp} {L : Addr → Bool} {δ : Dn} {σ : Sg} {D : Addr} (s : ES κ c H L δ σ) (nD : H D = none) (o : HO) : ES κ c (upd H D o) (plus L D) δ σ ∧ Ext (hide (oor c.P L) H) (hide (oor c.P (plus L D)) (upd H D o)) := by
  have LD : L D = false := by
    cases q : L D with
    | false => rfl
    | true => exact absurd nD (s.ldom D q).1
  have H0D : c.H0 D = none := s.ext.none nD
  have xD : Ext (hide (oor c.P L) H) (hide (oor c.P (plus L D)) (upd H D o)) := fun a u e => by
    obtain ⟨p, h⟩ := hide_f e
    have ne : a ≠ D := ne_of_none h nD
    exact .inl (hide_t (by rw [oor_ne ne]; exact p) (by rw [upd_ne ne]; exact h))
  have ne_ : ∀ {a : Addr} {u : HO}, H a = some u → a ≠ D := fun h => ne_of_none h nD
  refine ⟨⟨s.len, fun i d e => ?_, fun i xs e => ?_, s.sep, s.psys, s.pdom, fun a e => ?_, s.ext.trans (Ext.new nD), s.kept.ext xD, s.ods.mono (fun _ _ e => ⟨e, rfl⟩) (fun b u l h _ => ⟨plus_of l, by rw [upd_ne (ne_ h)]; exact h⟩) xD, s.mp⟩, xD⟩
  · obtain ⟨v, q1, q2⟩ := s.val i d e
    exact ⟨v, q1, q2.ext xD⟩
  · obtain ⟨a, ys, q1, q2, q3, q4⟩ := s.own i xs e
    exact ⟨a, ys, q1, plus_of q2, ⟨by rw [upd_ne (ne_ q3.at_)]; exact q3.at_, q3.np⟩, q4.ext xD⟩
  · by_cases ha : a = D
    · rw [ha, upd_same]
      exact ⟨Option.some_ne_none _, .inl H0D⟩
    · rw [plus_ne ha] at e
      rw [upd_ne ha]
      exact s.ldom a e
theorem de_dispS {keys : List (Option Expr)} {values : List Expr} {ps : List (TD × TD)} (h : PPs X pos keys values (ps.map fun p => (up (Cx.ky X) p.1, up (Cx.ky X) p.2))) (hall : keys.all (·.isSome) = true := by rfl) (hl : keys.length = values.length := by rfl) (h0 : keys ≠ [] := by exact fun z => by cases z)
    (h15 : keys.length ≤ 15 := by decide) : PE X (.Dict keys values pos) (up (Cx.ky X) (dDispS ps)) := by
  refine PE.imp (pe_disp h hall hl h0 h15) fun σ H Q ⟨δ, R, c, L, s, h, k⟩ => ?_
  intro p np
  obtain ⟨s1, xD⟩ := s.newPriv np (.dK [])
  refine up_pairs (P := c.P) s1 h fun kvs H2 es x2 r2 ⟨hz, h2⟩ => ?_
  have hp : H2 p = some (.dK []) := x2.keep upd_same fun ⟨_, _, z, _⟩ => by cases z
  refine ⟨hp, kvs, rfl, by rw [← r2.len]; exact hz, ?_⟩
  have eh : hide (oor c.P (plus L p)) (upd H2 p (.dK (mergeK [] kvs))) = hide (oor c.P (plus L p)) H2 := hide_same oor_plus
  have off : oor c.P L p = false := by
    refine oor_f.mpr ⟨?_, ?_⟩
    · cases q : c.P p with
      | false => rfl
      | true => exact absurd (s.ext.none np) (s.pdom p q)
    · cases q : L p with
      | false => rfl
      | true => exact absurd np (s.ldom p q).1
  have rr : RpE (Cx.ky X).K (hide (oor c.P L) (upd H2 p (.dK (mergeK [] kvs)))) (mergeE [] es) (mergeK [] kvs) := by
    have : RpE (Cx.ky X).K (hide (oor c.P (plus L p)) (upd H2 p (.dK (mergeK [] kvs)))) (mergeE [] es) (mergeK [] kvs) := by
      rw [eh]
      exact RpE.merge r2 (show RpE _ _ [] [] from rfl)
    exact this.ext (hide_less _ fun b z => by
      unfold oor at z ⊢
      rw [Bool.or_eq_true] at z ⊢
      exact z.imp id fun z => plus_of z)
  refine k (.ref p) _ (.p (.dict (entsD (mergeE [] es)))) (fun b u e => ?_) ⟨p, _, rfl, hide_t off upd_same, (fun ⟨_, _, z, _⟩ => by cases z), rpK_E.mpr rr⟩ h2
  have ne : b ≠ p := ne_of_none e np
  rw [upd_ne ne]
  exact x2 b u (by rw [upd_ne ne]; exact e)
/-! ### None asked; truth of texts; what is never reached -/
def isN (z : PyData) : Bool := match z with | .none => true | _ => false
def fNotN : F2 := fun d e R => asP d fun z => e = .p .none ∧ R (.p (.bool (!isN z)))
def fIsN : F2 := fun d e R => asP d fun z => e = .p .none ∧ R (.p (.bool (isN z)))
theorem rp_isN {K : PySem.W.Frag} {H : Hp} {z : PyData} {v : V} (h : Rp K H z v) : decide (v = .non) = isN z := by
  cases z with
  | none => rw [show v = .non from h]; rfl
  | bool b => rw [show v = .bl b from h]; rfl
  | int i => rw [show v = .int i from h]; rfl
  | str x => rw [show v = .str x from h]; rfl
  | list _ => obtain ⟨a, xs, e, _⟩ := h; rw [e]; rfl
  | tuple _ => obtain ⟨a, xs, e, _⟩ := h; rw [e]; rfl
  | dict _ => obtain ⟨a, xs, e, _⟩ := h; rw [e]; rfl
theorem od_notN : OpR X (compareOp .IsNot) (upO (Cx.ky X) fNotN) := OpR.imp op_notN fun x y H Q ⟨d, e, R, P, dm, r1, r2, h, k⟩ => by
  obtain ⟨z, rfl, rfl, h2⟩ := asP_of h
  exact ⟨r2, k _ H (.p (.bool (!isN z))) (Ext.refl H) (by rw [rp_isN r1]; rfl) h2⟩
theorem od_isN : OpR X (compareOp .Is) (upO (Cx.ky X) fIsN) := OpR.imp op_isN fun x y H Q ⟨d, e, R, P, dm, r1, r2, h, k⟩ => by
  obtain ⟨z, rfl, rfl, h2⟩ := asP_of h
  exact ⟨r2, k _ H (.p (.bool (isN z))) (Ext.refl H) (by rw [rp_isN r1]; rfl) h2⟩
/-- if s: for a text -/
def dTruS (te : TD) : TB := fun δ R => te δ fun d => asS d fun x => x.length ≤ sizeLine ∧ R (!decide (x.length = 0))
theorem dt_truS (he : PE X e (up (Cx.ky X) te)) (ht : ∀ whole, isTrue e X.env whole = (do let v ← whole; standAt e.pos; holding [v] (truthy v)) := by intro _; rfl) : PT X e (upT (Cx.ky X) (dTruS te)) := by
  refine PT.imp (pt_truth he ht) fun σ H Q ⟨δ, R, c, L, es, h, k⟩ => ⟨δ, _, c, L, es, h, fun v H1 d x1 r1 h1 => ?_⟩
  obtain ⟨x, rfl, hz, h2⟩ := asS_of h1
  have ev : v = .str x := r1
  subst ev
  refine ⟨!decide (x.length = 0), ⟨hz, ?_⟩, k _ H1 x1 h2⟩
  cases q : decide (x.length = 0) with
  | true => rw [of_decide_eq_true q]; rfl
  | false =>
    have := of_decide_eq_false q
    show true = _
    exact (bne_iff_ne.mpr (by omega)).symm
def dNever : TDS := fun _ _ => False
theorem ds_never {st : Stmt} : PS X st (upS (Cx.ky X) dNever) := PS.imp ps_never fun D σ H ⟨δ, E, c, L, es, h, f⟩ => h
theorem dss_never {sts : List Stmt} : PSs X sts (upS (Cx.ky X) dNever) := PSs.imp pss_never fun D σ H ⟨δ, E, c, L, es, h, f⟩ => h
end
end MR

/-! Small words for houses. -/
namespace MR
open PySem PySem.Spec PyProof.Rows L2
theorem u66 {k : Nat} {A : Around} (hr : Room k A) : A.units + 66 < cLine := by
  have := hr.un
  omega
theorem u64 {k : Nat} {A : Around} (hr : Room k A) : A.units + 64 < cLine := by
  have := hr.un
  omega
theorem kok_plain {κ : Ky} : KOk κ (gPlain []) (fun ds _ => ds) := fun H ds ks vs zs r _ => by
  unfold gPlain
  rw [List.append_nil]
  exact r
theorem kok_app {κ : Ky} : KOk κ (fun vs zs => vs ++ zs) (fun ds ks => ds ++ ks) := fun H ds ks vs zs r rz => r.app rz
theorem pvS {X : Cx} {p : Pos} {st : Stmt} (h1 : X.env.scope = defScope st) (h2 : X.N = [("self" : Str)]) (hl : (defScope st).names.lookup ("self" : Str) = some PySem.NameKind.local := by rfl) : PE X (.Name "self" p) (tVar 0) :=
  pv 0 (by rw [h2]; rfl) (by rw [h1]; exact Or.inl hl) (by decide) (by decide)
section
variable {X : Cx} {k : Nat} {f C : Addr} {fd : FuncData} {ps ks : List Str} {m x : Str} {pos apos npos spos : Pos} {e : Expr} {es : List Expr} {kws : List Keyword} {i : Nat} {g : FH} {gD : List DV → List DV → List DV} {ts tk : TL}
  {gg : List Value → List Value → List Value} {gV : List V → List V → List V}
theorem ds_methKE {pl : Sem Bool} (hv : PE X (.Name x npos) (tVar i)) (nm : m ≠ "_entries") (nm2 : m ≠ "memory") (c : Cls X.K C) (hm : Meth X.K C m f) (F : FnG X.prog X.w X.K X.mg X.base CX0 k f fd ps (spH (Cx.ky X) g)) (gd : X.A.guards = some []) (hr : Room k X.A)
    (hb : KBinds X.K fd ps ks gg gV) {E : XK} (hx : Passes CX0 X E) (hk : KOk (Cx.ky X) gV gD) (ha : PA X (e :: es) (upA (Cx.ky X) ts)) (hkw : ∃ t, PK X kws t ∧ ∀ σ H Q, upA (Cx.ky X) tk σ H Q → t σ H Q)
    (hall : (backToKw pos (keywordEach kws X.env)).all (·.1.isSome) = true := by rfl) (hks : (backToKw pos (keywordEach kws X.env)).filterMap (·.1) = ks := by rfl)
    (hst : starEach (e :: es) X.env = (false, eval e X.env) :: starEach es X.env := by rfl) (hpl : ((backTo pos (starEach (e :: es) X.env)).any (·.1) || (backToKw pos (keywordEach kws X.env)).any (·.1.isNone)) = false := by rfl)
    (ht : eval (.Call (.Attribute (.Name x npos) m apos) (e :: es) kws pos) X.env = (do
      let ov ← eval (.Name x npos) X.env
      standAt apos.atName
      let (f, first) ← holding [ov] (getMethod ov m pl)
      callWith pos f first (backTo pos (starEach (e :: es) X.env)) (backToKw pos (keywordEach kws X.env))) := by rfl)
    (hs : swapsWith (.Call (.Attribute (.Name x npos) m apos) (e :: es) kws pos) none spos.line X.env = pure false := by rfl) :
    PS X (.Expr (.Call (.Attribute (.Name x npos) m apos) (e :: es) kws pos) spos) (upS (Cx.ky X) (dMeth C i g gD ts tk)) := by
  obtain ⟨t, h1, h2⟩ := hkw
  exact ds_methK (pl := pl) hv nm nm2 c hm F gd hr hb hx hk ha h1 h2 hall hks hst hpl ht hs
end
end MR

/-! Comprehensions of small whole numbers: read by their length alone (two of them look like a well). -/
namespace MR
open PySem PySem.Spec PyProof.Rows L2
def Iv (is : List Int) : Prop := match is with
  | [a] => 0 ≤ a ∧ a < 1000
  | [a, b] => Well (.lst [.int a, .int b])
  | _ => True
theorem iv_app {z : Int} (z0 : 0 ≤ z) (z1 : z < 1000) : ∀ {is : List Int}, Iv is → Iv (is ++ [z])
  | [], _ => ⟨z0, z1⟩
  | [a], h => by
    have h' : 0 ≤ a ∧ a < 1000 := h
    exact ⟨a, z, rfl, h'.1, ⟨32, by decide, by decide, by omega⟩, z0, by omega⟩
  | [_, _], _ => trivial
  | _ :: _ :: _ :: _, _ => trivial
def IvAt (H : Hp) (D : Addr) (n : Nat) : Prop := ∃ is : List Int, H D = some (.lst (is.map V.int)) ∧ is.length = n ∧ Iv is
theorem IvAt.on {H H' : Hp} {D : Addr} {n : Nat} (x : Ext H H') (h : IvAt H D n) : IvAt H' D n := by
  obtain ⟨is, e1, e2, e3⟩ := h
  rcases x D _ e1 with z | ⟨w, o, z, w'⟩
  · exact ⟨is, z, e2, e3⟩
  · obtain ⟨i, j, q, _⟩ := w
    obtain ⟨i', j', rfl, r⟩ := w'
    refine ⟨[i', j'], z, ?_, ⟨i', j', rfl, r⟩⟩
    rw [← e2, ← List.length_map (f := V.int) (as := is)]
    cases q' : is.map V.int with
    | nil => rw [q'] at q; cases q
    | cons a l => rw [q'] at q; cases q; rfl
theorem IvAt.on' {H H' : Hp} {D : Addr} {n : Nat} (h : IvAt H D n) (x : Ext H H') : IvAt H' D n := IvAt.on x h
theorem rpa_ints {K : PySem.W.Frag} {H : Hp} : ∀ is : List Int, RpA K H (is.map .int) (is.map V.int)
  | [] => rfl
  | i :: is => ⟨.int i, is.map V.int, rfl, rfl, rpa_ints is⟩
def lcN (g : TDG) (tt : TB) (te : TD) (δ : Dn) (fin : Nat → Prop) : List PyData → Nat → Prop
  | [], n => fin n
  | d :: r, n => g (.p d) δ fun δ2 => tt δ2 fun b => if b = true then te δ2 fun y => asI y fun z => 0 ≤ z ∧ z < 1000 ∧ lcN g tt te δ fin r (n + 1) else lcN g tt te δ fin r n
def finN (R : DV → Prop) (n : Nat) : Prop := (n = 2 → R .well) ∧ (n ≠ 2 → ∀ is : List Int, is.length = n → R (.p (.list (is.map .int))))
def dLcN (ti : TDI) (g : TDG) (tt : TB) (te : TD) (vs : List Nat) : TD := fun δ R => ti δ fun ds => ds.length ≤ sizeLine ∧ lcN g tt te (wipeD δ vs) (finN R) ds 0
theorem up_lcN {κ : Ky} {ti : TDI} {g : TDG} {tt : TB} {te : TD} {vs : List Nat} {σ : Sg} {H : Hp} {Q : VK} (h : up κ (dLcN ti g tt te vs) σ H Q) : tLc (upI κ ti) (upG κ vs g) (upT κ tt) (up κ te) vs σ H Q := by
  obtain ⟨δ, R, c, L, es, h, k⟩ := h
  refine ⟨δ, _, c, L, es, h, fun J H1 ds bs us x1 kb itk ⟨hz, h1⟩ D nD => ?_⟩
  have hl := kb.len
  have LD : L D = false := by
    cases q : L D with
    | false => rfl
    | true => exact absurd nD ((es.on x1).ldom D q).1
  have HD : H D = none := x1.none nD
  have H0D : c.H0 D = none := es.ext.none HD
  have PD : c.P D = false := by
    cases q : c.P D with
    | false => rfl
    | true => exact absurd H0D (es.pdom D q)
  -- the private lists, the new one besides
  have hsub : ∀ a, oor c.P L a = true → oor c.P (plus L D) a = true := fun a q => by
    unfold oor at q ⊢
    rw [Bool.or_eq_true] at q ⊢
    rcases q with q | q
    · exact .inl q
    · exact .inr (plus_of q)
  have xD : Ext (hide (oor c.P L) H1) (hide (oor c.P (plus L D)) (upd H1 D (.lst []))) := fun a o e => by
    unfold hide at e ⊢
    split at e
    · cases e
    · rename_i n
      have ne : a ≠ D := ne_of_none e nD
      rw [oor_ne ne, if_neg n, upd_ne ne]
      exact .inl e
  have ownD : ∀ (i : Nat) (xs : List PyData) (a : Addr), δ[i]? = some (Sl.own xs) → σ[i]? = some (some (V.ref a)) → a ≠ D := fun i xs a e1 e2 e3 => by
    obtain ⟨b, ys, q1, q2, q3, _⟩ := es.own i xs e1
    rw [e2] at q1
    cases q1
    rw [e3] at q2
    rw [q2] at LD
    cases LD
  have fresh : ∀ {Hc : Hp} {o : HO}, (∃ ys, Hc D = some (.lst ys)) → ES κ { c with bs := bs ++ c.bs, us := us ++ c.us } Hc (plus L D) δ σ → ES κ { c with bs := bs ++ c.bs, us := us ++ c.us } (upd Hc D o) (plus L D) δ σ := fun {Hc o} ⟨ys, hD⟩ s => by
    have eD : oor c.P (plus L D) D = true := oor_plus
    have eh : hide (oor c.P (plus L D)) (upd Hc D o) = hide (oor c.P (plus L D)) Hc := hide_same eD
    refine ⟨s.len, fun i d e => ?_, fun i xs e => ?_, s.sep, s.psys, s.pdom, fun a e => ⟨?_, (s.ldom a e).2⟩, fun a o' e => ?_, ?_, ?_, s.mp⟩
    · show ∃ v, _ ∧ Rv κ (hide (oor c.P (plus L D)) (upd Hc D o)) d v
      rw [eh]
      exact s.val i d e
    · obtain ⟨a, ys, q1, q2, q3, q4⟩ := s.own i xs e
      refine ⟨a, ys, q1, q2, ⟨by rw [upd_ne (ownD i xs a e q1)]; exact q3.at_, q3.np⟩, ?_⟩
      show RpA κ.K (hide (oor c.P (plus L D)) (upd Hc D o)) xs ys
      rw [eh]
      exact q4
    · by_cases ha : a = D
      · rw [ha, upd_same]
        exact Option.some_ne_none _
      · rw [upd_ne ha]
        exact (s.ldom a e).1
    · rw [upd_ne (ne_of_none e H0D)]
      exact s.ext a o' e
    · show RvA κ (hide (oor c.P (plus L D)) (upd Hc D o)) _ _
      rw [eh]
      exact s.kept
    · refine s.ods.mono (fun _ _ e => ⟨e, rfl⟩) (fun b u l h k => ⟨l, ?_⟩) ?_
      · rw [upd_ne (fun z => by rw [z, hD] at h; cases h; exact k)]
        exact h
      · show Ext _ (hide (oor c.P (plus L D)) (upd Hc D o))
        rw [eh]
        exact Ext.refl _
  have s0 : ES κ { c with bs := bs ++ c.bs, us := us ++ c.us } (upd H1 D (.lst [])) (plus L D) δ σ := by
    have s := (es.on x1).more kb
    refine ⟨s.len, fun i d e => ?_, fun i xs e => ?_, s.sep, s.psys, s.pdom, fun a e => ?_, s.ext.trans (Ext.new nD), s.kept.ext xD, s.ods.mono (fun _ _ e => ⟨e, rfl⟩) (fun b u l h _ => ⟨plus_of l, by rw [upd_ne (fun z => by rw [z] at l; rw [LD] at l; cases l)]; exact h⟩) xD, s.mp⟩
    · obtain ⟨v, q1, q2⟩ := s.val i d e
      exact ⟨v, q1, q2.ext xD⟩
    · obtain ⟨a, ys, q1, q2, q3, q4⟩ := s.own i xs e
      exact ⟨a, ys, q1, plus_of q2, ⟨by rw [upd_ne (ownD i xs a e q1)]; exact q3.at_, q3.np⟩, q4.ext xD⟩
    · by_cases ha : a = D
      · rw [ha, upd_same]
        exact ⟨Option.some_ne_none _, .inl H0D⟩
      · rw [plus_ne ha] at e
        rw [upd_ne ha]
        exact s.ldom a e
  refine ⟨fun i m Hc => i + m = ds.length ∧ ∃ n, ES κ { c with bs := bs ++ c.bs, us := us ++ c.us } Hc (plus L D) δ σ ∧ Ext H Hc ∧ IvAt Hc D n ∧ n ≤ i ∧ lcN g tt te (wipeD δ vs) (finN R) (ds.drop i) n,
    ⟨ds.length, by omega, 0, s0, x1.trans (Ext.new nD), ⟨[], upd_same, rfl, trivial⟩, Nat.le_refl 0, h1⟩, fun i m Hc ⟨em, n, s, xc, eD, hlen, hh⟩ => ?_⟩
  obtain ⟨s2, kb2⟩ := s.less hl
  by_cases hi : i < ds.length
  · rw [List.drop_eq_getElem_cons hi] at hh
    refine .inr ⟨itk.go Hc _ i s2.dom kb2 hi, fun H' => ∃ n, ES κ { c with bs := bs ++ c.bs, us := us ++ c.us } H' (plus L D) δ σ ∧ Ext H H' ∧ IvAt H' D n ∧ n ≤ i + 1 ∧ lcN g tt te (wipeD δ vs) (finN R) (ds.drop (i + 1)) n,
      fun H' ⟨n, a1, a2, a3, a5, a6⟩ => ⟨m - 1, by omega, by omega, n, a1, a2, a3, a5, a6⟩, fun x H2 hy => ?_⟩
    obtain ⟨y, ey, x2, ry⟩ := itk.yld Hc _ i x H2 s2.dom kb2 hi hy
    rw [List.getElem?_eq_getElem hi] at ey
    cases ey
    refine ⟨.p ds[i], wipeD δ vs, _, _, _, (s.on x2).wipe vs, ry, hh, fun δ3 σ3 s3 ew h3 => ⟨?_, ⟨δ3, _, _, _, s3, h3, fun b H3 x3 h4 => ?_⟩⟩⟩
    · rw [ew]
      apply List.ext_getElem?
      intro j
      have two : ∀ (ws : List Nat) (τ : Sg), (∀ v ∈ ws, v ∈ vs) → L2.wipe (L2.wipe τ vs) ws = L2.wipe τ vs := by
        intro ws
        induction ws with
        | nil => intro τ _; rfl
        | cons w ws ih =>
          intro τ hw
          show (L2.wipe (L2.wipe τ vs) ws).set w none = L2.wipe τ vs
          rw [ih τ fun v hv => hw v (List.mem_cons_of_mem _ hv)]
          have hwv := hw w List.mem_cons_self
          apply List.ext_getElem?
          intro j
          by_cases hj : j = w
          · subst hj
            by_cases hlt : j < τ.length
            · rw [List.getElem?_set_self (by rw [wipe_length]; exact hlt), List.getElem?_eq_getElem (by rw [wipe_length]; exact hlt)]
              cases e : (L2.wipe τ vs)[j]'(by rw [wipe_length]; exact hlt) with
              | none => rfl
              | some v =>
                have q := wipe_some (σ := τ) (vs := vs) (i := j) (x := v) (by rw [List.getElem?_eq_getElem (by rw [wipe_length]; exact hlt), e])
                exact absurd hwv q.2
            · rw [List.getElem?_eq_none (by rw [List.length_set, wipe_length]; omega), List.getElem?_eq_none (by rw [wipe_length]; omega)]
          · rw [List.getElem?_set_ne (Ne.symm hj)]
      rw [two vs σ fun _ h => h]
    · have done : ∀ {H' : Hp}, Ext H2 H' → lcN g tt te (wipeD δ vs) (finN R) (ds.drop (i + 1)) n → ∃ n, ES κ { c with bs := bs ++ c.bs, us := us ++ c.us } H' (plus L D) δ σ ∧ Ext H H' ∧ IvAt H' D n ∧ n ≤ i + 1 ∧ lcN g tt te (wipeD δ vs) (finN R) (ds.drop (i + 1)) n :=
        fun {H'} x h => ⟨n, s.on (x2.trans x), xc.trans (x2.trans x), eD.on' (x2.trans x), Nat.le_succ_of_le hlen, h⟩
      cases b with
      | false => exact done x3 h4
      | true =>
        show up κ te σ3 H3 _
        refine ⟨δ3, _, _, _, s3.on x3, h4, fun v H4 d x4 r4 h5 => ?_⟩
        obtain ⟨z, rfl, z0, z1, h6⟩ := asI_of h5
        have xx := x2.trans (x3.trans x4)
        obtain ⟨is, e1, e2, e3⟩ := eD.on' xx
        rw [show v = .int z from r4]
        refine ⟨is.map .int, e1, by rw [List.length_map, e2]; omega, n + 1, fresh ⟨_, e1⟩ (s.on xx), fun a o e => ?_, ⟨is ++ [z], by rw [upd_same, List.map_append]; rfl, by rw [List.length_append, e2]; rfl, iv_app z0 z1 e3⟩, by omega, h6⟩
        have ne : a ≠ D := ne_of_none e HD
        rw [upd_ne ne]
        exact (xc.trans xx) a o e
  · rw [List.drop_eq_nil_of_le (by omega)] at hh
    refine .inl ⟨itk.stop Hc _ i s2.dom kb2 (by omega), ?_⟩
    obtain ⟨is, e1, e2, e3⟩ := eD
    have eh : hide (oor c.P L) Hc D = some (.lst (is.map .int)) := by rw [hide_at (by unfold oor; rw [PD, LD]; rfl)]; exact e1
    obtain ⟨f1, f2⟩ := hh
    by_cases n2 : n = 2
    · subst n2
      match is, e2, e3 with
      | [a, b], _, e3 => exact k (.ref D) Hc .well xc ⟨D, _, rfl, eh, e3⟩ (f1 rfl)
    · exact k (.ref D) Hc (.p (.list (is.map .int))) xc ⟨D, is.map .int, rfl, ⟨eh, fun i j z => n2 (by rw [← e2, ← List.length_map (f := V.int), z]; rfl)⟩, rpa_ints is⟩ (f2 n2 is e2)
section
variable {X : Cx} {elt tg iter : Expr} {ifs : List Expr} {scope : Scope} {own : List (Str × Nat)} {pos : Pos} {ti : TDI} {g : TDG} {tt : TB} {te : TD}
theorem ds_setLcN {i : Nat} {y : Str} {py spos : Pos} (hc : X.calm = true) (hN : X.N.Nodup) (hy : X.N[i]? = some y) (hyl : X.env.scope.names.lookup y = some .local)
    (hsw : swapsWith (.ListComp elt [⟨tg, iter, ifs, 0⟩] scope pos) (some (.Name y py)) spos.line X.env = pure true) (hi : PI X tg iter (upI (Cx.ky X) ti)) (ok : BlkOk X.N X.env.scope scope own)
    (hg : ∀ (s : Shared) (H : Hp) (C : Addr) (cl : List (Str × Addr)) (fp : List Addr), PG (X.blk s H scope (compEnvC scope cl C X.env) fp) tg (upG (Cx.ky X) (own.map (·.2)) g)) (ht : ∀ (s : Shared) (H : Hp) (C : Addr) (cl : List (Str × Addr)) (fp : List Addr), PTs (X.blk s H scope (compEnvC scope cl C X.env) fp) ifs (upT (Cx.ky X) tt))
    (he : ∀ (s : Shared) (H : Hp) (C : Addr) (cl : List (Str × Addr)) (fp : List Addr), PE (X.blk s H scope (compEnvC scope cl C X.env) fp) elt (up (Cx.ky X) te)) (hs : ∀ x, foldedSetIterable iter X.env x = pure x := by intro _; rfl) :
    PS X (.Assign [.Name y py] (.ListComp elt [⟨tg, iter, ifs, 0⟩] scope pos) spos) (upS (Cx.ky X) (dSet i (dLcN ti g tt te (own.map (·.2))))) := by
  refine PS.imp (ps_setLc hc hN hy hyl hsw hi ok hg ht he hs) fun D σ H ⟨δ, E, c, L, es, h, f⟩ => ?_
  exact up_lcN ⟨δ, _, c, L, es, h, fun v H1 d x1 r1 h1 => f.nx _ _ H1 L ((es.on x1).set r1) h1⟩
end
/-- xs != [] where xs may be two whole numbers -/
def fNeWE : F2 := fun d e R => e = .p (.list []) ∧ ((d = .well ∧ R (.p (.bool true))) ∨ ∃ xs, d = .p (.list xs) ∧ R (.p (.bool (!xs.isEmpty))))
theorem od_neWE {X : Cx} (hu : X.A.units < cLine) : OpR X (compareOp .NotEq) (upO (Cx.ky X) fNeWE) := by
  intro pins s σ H x y v u Q I rx ry ⟨d, e, R, P, dm, r1, r2, h, k⟩
  obtain ⟨rfl, h⟩ := h
  rcases h with ⟨rfl, h⟩ | ⟨xs, rfl, h⟩
  · obtain ⟨a, o, rfl, ho, ⟨i, j, rfl, _⟩⟩ := r1
    obtain ⟨bs, rb, _⟩ := rp_reads dm.1 I r2 ry
    rw [show v = Value.ref a from rx]
    obtain ⟨its, rv, ⟨o', n, ho', hc', _, hd'⟩, _⟩ := I.list (SqL.of (hide_some ho))
    cases rb with
    | list b1 b2 b3 b4 =>
      have n2 := SeqAt.ReadsAll.length _ _ _ b4
      rw [List.length_nil, Array.length_toList] at n2
      have n1 : its.length = 2 := by
        cases rv with
        | cons _ r => cases r with
          | cons _ r => cases r; rfl
      exact SeqAt.RcNeAt.lists_lengths ⟨_, ho', hc', _, hd'⟩ ⟨_, b1, b2, _, b3⟩ (by simp; omega) hu _ _ _ _ ⟨.bl _, H, I, rfl, k _ H (.p (.bool true)) (Ext.refl H) rfl h⟩
  · exact od_neE hu pins s σ H x y v u Q I rx ry ⟨.p (.list xs), .p (.list []), R, P, dm, r1, r2, (show fEqE true (.p (.list xs)) (.p (.list [])) R from ⟨rfl, h⟩), k⟩
/-- len of a set of keys -/
def fLenK : FL := fun ds R => ∃ ks : List Key, ds = [.set ks] ∧ ks.Nodup ∧ R (.p (.int ks.length))
theorem nodup_len {α : Type} : ∀ {xs ys : List α}, xs.Nodup → ys.Nodup → (∀ x, x ∈ xs ↔ x ∈ ys) → xs.length = ys.length := fun h1 h2 h => ((List.perm_ext_iff_of_nodup h1 h2).mpr h).length_eq
theorem nodup_some {ks : List Key} (h : ks.Nodup) : (ks.map some).Nodup := List.nodup_iff_pairwise_ne.mpr (List.pairwise_map.mpr ((List.nodup_iff_pairwise_ne.mp h).imp fun n e => n (Option.some.inj e)))
theorem cd_lenK {X : Cx} : CallR X (.builtin "len") (upC (Cx.ky X) fLenK) := by
  intro pins s σ H xs us Q I rx ⟨ds, R, P, dm, r, ⟨ks, e, nd, h⟩, kk⟩
  subst e
  obtain ⟨v, q, e1, ⟨a, n, ev, ha⟩, e2⟩ := r
  have e3 : q = [] := e2
  subst e1 e3 ev
  obtain ⟨u, rfl, ru⟩ := Vals.one rx
  obtain rfl : u = Value.ref a := ru
  obtain ⟨ob, el, ep, tb, ho, hx, hd, g, nd2, hm, hb, hf, hn, _⟩ := setG_get I (show H a = some (SetGO X.w a (hasK ks) n) from hide_some ha)
  have en : el.size = ks.length := by
    have e := nodup_len nd2 (nodup_some nd) fun x => by
      constructor
      · intro m
        obtain ⟨y, hy, rfl⟩ := List.mem_map.mp m
        obtain ⟨k, h1, h2⟩ := g y hy
        rw [h1]
        exact List.mem_map.mpr ⟨k, hasK_iff.mp ((hm k).mpr (by rw [← h1]; exact m)), rfl⟩
      · intro m
        obtain ⟨k, hk, rfl⟩ := List.mem_map.mp m
        exact (hm k).mp (hasK_iff.mpr hk)
    rw [List.length_map, List.length_map, Array.length_toList] at e
    exact e
  refine call_len_set ho hx hd hf ?_ ⟨.int ks.length, H, I.tok _, ⟨_, by rw [en]⟩, kk _ H (.p (.int ks.length)) (Ext.refl H) rfl h⟩
  have : el.size < 4096 := hb
  omega
/-! ### keyword-only arguments: n by place, m by name -/
def gK {α : Type} (n m : Nat) (us ws : List α) : List α := if us.length = n ∧ ws.length = m then us ++ ws else []
theorem gK_len {α : Type} {n m k : Nat} {us ws : List α} (h : (gK n m us ws).length = k + 1) : us.length = n ∧ ws.length = m := by
  unfold gK at h
  by_cases q : us.length = n ∧ ws.length = m
  · exact q
  · rw [if_neg q] at h; cases h
theorem gK_of {α : Type} {n m : Nat} {us ws : List α} (h1 : us.length = n) (h2 : ws.length = m) : gK n m us ws = us ++ ws := by
  unfold gK
  rw [if_pos ⟨h1, h2⟩]
theorem kok_gK {κ : Ky} {n m : Nat} : KOk κ (gK n m) (gK n m) := fun H ds ks vs zs r1 r2 => by
  unfold gK
  rw [← r1.len, ← r2.len]
  split
  · exact r1.app r2
  · exact rfl
theorem vals_gK {n m : Nat} {vs zs : List V} {us ws : List Value} (r1 : Vals vs us) (r2 : Vals zs ws) : Vals (gK n m vs zs) (gK n m us ws) := by
  unfold gK
  rw [r1.length, r2.length]
  split
  · exact r1.append r2
  · exact .nil
theorem kbinds_mk {K : PySem.W.Frag} {x qual : Str} {st : Stmt} {f : Addr} {fd : FuncData} {ps ks : List Str} {n m k : Nat} (F : Fun K x qual st f fd) (hl : ps.length = k + 1)
    (h : ∀ (kV doc pm : Value) (an : Option Addr) (cdv ct : Value) (us ws : List Value), us.length = n → ws.length = m → bindArgs (PySem.W.fnOf x qual (defArgs st) (defBody st) (defScope st) .none kV doc pm an cdv ct) ⟨us, ks.zip ws⟩ = pure (ps.zip (us ++ ws))) : KBinds K fd ps ks (gK n m) (gK n m) := by
  obtain ⟨oc, od, kV, doc, pm, an, cdv, ct, osl, rfl, lk, hcd⟩ := F.ex
  refine ⟨fun s us ws X hlen => ?_, vals_gK⟩
  rw [hl] at hlen
  obtain ⟨l1, l2⟩ := gK_len hlen
  rw [gK_of l1 l2]
  exact .of_eq (h kV doc pm an cdv ct us ws l1 l2)
end MR

namespace MR
open PySem PySem.Spec PyProof.Rows L2
def topS (i : Nat) : Stmt := PySem.Challenge.pw_mailrings_k25_lists_and_aliases.main.body.getD i (.Pass ⟨0, 0, 0, 0⟩)
abbrev s_is_name : Stmt := topS 7
theorem sc_is_name : FnScope ["value", "letter"] ["value"] (defScope s_is_name) := ⟨rfl, rfl, rfl, by decide +kernel, rfl, by decide +kernel, by decide +kernel⟩
abbrev s_is_name_tuple : Stmt := topS 8
theorem sc_is_name_tuple : FnScope ["value", "name", "one", "other"] ["value"] (defScope s_is_name_tuple) := ⟨rfl, rfl, rfl, by decide +kernel, rfl, by decide +kernel, by decide +kernel⟩
abbrev s_is_subject_code : Stmt := topS 9
theorem sc_is_subject_code : FnScope ["code"] ["code"] (defScope s_is_subject_code) := ⟨rfl, rfl, rfl, by decide +kernel, rfl, by decide +kernel, by decide +kernel⟩
abbrev s_is_subject : Stmt := topS 10
theorem sc_is_subject : FnScope ["value", "sign"] ["value"] (defScope s_is_subject) := ⟨rfl, rfl, rfl, by decide +kernel, rfl, by decide +kernel, by decide +kernel⟩
abbrev s_is_text : Stmt := topS 11
theorem sc_is_text : FnScope ["value"] ["value"] (defScope s_is_text) := ⟨rfl, rfl, rfl, by decide +kernel, rfl, by decide +kernel, by decide +kernel⟩
abbrev s_is_message : Stmt := topS 12
theorem sc_is_message : FnScope ["value", "sender", "address", "subject", "marks"] ["value"] (defScope s_is_message) := ⟨rfl, rfl, rfl, by decide +kernel, rfl, by decide +kernel, by decide +kernel⟩
abbrev s_with_mark : Stmt := topS 13
theorem sc_with_mark : FnScope ["marks", "mark"] ["marks", "mark"] (defScope s_with_mark) := ⟨rfl, rfl, rfl, by decide +kernel, rfl, by decide +kernel, by decide +kernel⟩
abbrev s_are_members : Stmt := topS 47
theorem sc_are_members : FnScope ["value", "name"] ["value"] (defScope s_are_members) := ⟨rfl, rfl, rfl, by decide +kernel, rfl, by decide +kernel, by decide +kernel⟩
abbrev s_need_list : Stmt := topS 48
theorem sc_need_list : FnScope ["what", "members", "tag", "mark", "closed"] ["what"] (defScope s_need_list) := ⟨rfl, rfl, rfl, by decide +kernel, rfl, by decide +kernel, by decide +kernel⟩
abbrev s_H_init : Stmt := inClass (topS 49) 0
theorem sc_H_init : FnScope ["self"] ["self"] (defScope s_H_init) := ⟨rfl, rfl, rfl, by decide +kernel, rfl, by decide +kernel, by decide +kernel⟩
abbrev s_H_put : Stmt := inClass (topS 49) 1
theorem sc_H_put : FnScope ["self", "name", "entry"] ["self", "name", "entry"] (defScope s_H_put) := ⟨rfl, rfl, rfl, by decide +kernel, rfl, by decide +kernel, by decide +kernel⟩
abbrev s_H_need_new : Stmt := inClass (topS 49) 2
theorem sc_H_need_new : FnScope ["self", "name"] ["self", "name"] (defScope s_H_need_new) := ⟨rfl, rfl, rfl, by decide +kernel, rfl, by decide +kernel, by decide +kernel⟩
abbrev s_H_need_room : Stmt := inClass (topS 49) 3
theorem sc_H_need_room : FnScope ["self", "name"] ["self", "name"] (defScope s_H_need_room) := ⟨rfl, rfl, rfl, by decide +kernel, rfl, by decide +kernel, by decide +kernel⟩
abbrev s_H_add_list : Stmt := inClass (topS 49) 7
theorem sc_H_add_list : FnScope ["self", "name", "members", "tag", "mark", "closed"] ["self", "name", "members", "tag", "mark", "closed"] (defScope s_H_add_list) := ⟨rfl, rfl, rfl, by decide +kernel, rfl, by decide +kernel, by decide +kernel⟩
abbrev s_H_add_alias : Stmt := inClass (topS 49) 8
theorem sc_H_add_alias : FnScope ["self", "name", "target"] ["self", "name", "target"] (defScope s_H_add_alias) := ⟨rfl, rfl, rfl, by decide +kernel, rfl, by decide +kernel, by decide +kernel⟩
abbrev s_H_entry_of : Stmt := inClass (topS 49) 13
theorem sc_H_entry_of : FnScope ["self", "name"] ["self", "name"] (defScope s_H_entry_of) := ⟨rfl, rfl, rfl, by decide +kernel, rfl, by decide +kernel, by decide +kernel⟩
abbrev s_at_list : Stmt := topS 54
theorem sc_at_list : FnScope ["what", "message", "members", "tag", "mark", "closed", "sender", "address", "subject", "marks", "member"] ["what", "message"] (defScope s_at_list) := ⟨rfl, rfl, rfl, by decide +kernel, rfl, by decide +kernel, by decide +kernel⟩
abbrev s_arrival_at : Stmt := topS 55
theorem sc_arrival_at : FnScope ["house", "message", "sender", "address", "subject", "marks", "sort", "what"] ["house", "message"] (defScope s_arrival_at) := ⟨rfl, rfl, rfl, by decide +kernel, rfl, by decide +kernel, by decide +kernel⟩
abbrev s_arrives : Stmt := topS 56
theorem sc_arrives : FnScope ["house", "message"] ["house", "message"] (defScope s_arrives) := ⟨rfl, rfl, rfl, by decide +kernel, rfl, by decide +kernel, by decide +kernel⟩
abbrev s_arrive : Stmt := topS 57
theorem sc_arrive : FnScope ["house", "message", "fired", "filed", "sent", "folder", "_", "cut", "copy"] ["house", "message"] (defScope s_arrive) := ⟨rfl, rfl, rfl, by decide +kernel, rfl, by decide +kernel, by decide +kernel⟩
abbrev s_w_stream : Stmt := topS 59
theorem sc_w_stream : FnScope ["script", "start", "seed", "cell", "digits"] ["script", "start"] (defScope s_w_stream) := ⟨rfl, rfl, rfl, by decide +kernel, rfl, by decide +kernel, by decide +kernel⟩
abbrev s_w_draw : Stmt := topS 60
theorem sc_w_draw : FnScope ["stream", "size", "found"] ["stream", "size"] (defScope s_w_draw) := ⟨rfl, rfl, rfl, by decide +kernel, rfl, by decide +kernel, by decide +kernel⟩
abbrev s_w_choose : Stmt := topS 61
theorem sc_w_choose : FnScope ["stream", "things"] ["stream", "things"] (defScope s_w_choose) := ⟨rfl, rfl, rfl, by decide +kernel, rfl, by decide +kernel, by decide +kernel⟩
abbrev s_w_shuffled : Stmt := topS 62
theorem sc_w_shuffled : FnScope ["stream", "things", "left", "found"] ["stream", "things"] (defScope s_w_shuffled) := ⟨rfl, rfl, rfl, by decide +kernel, rfl, by decide +kernel, by decide +kernel⟩
abbrev s_w_house : Stmt := topS 63
theorem sc_w_house : FnScope ["stream", "pages", "found", "name", "sort", "what"] ["stream", "pages"] (defScope s_w_house) := ⟨rfl, rfl, rfl, by decide +kernel, rfl, by decide +kernel, by decide +kernel⟩
abbrev s_w_with : Stmt := topS 64
theorem sc_w_with : FnScope ["marks", "token"] ["marks", "token"] (defScope s_w_with) := ⟨rfl, rfl, rfl, by decide +kernel, rfl, by decide +kernel, by decide +kernel⟩
abbrev s_w_line : Stmt := topS 65
theorem sc_w_line : FnScope ["stream", "front", "some"] ["stream", "front"] (defScope s_w_line) := ⟨rfl, rfl, rfl, by decide +kernel, rfl, by decide +kernel, by decide +kernel⟩
abbrev s_law : Stmt := topS 66
theorem sc_law : FnScope ["script", "start", "stream", "turn", "members", "front", "token", "target", "is_shut", "pages", "house", "look", "sender", "line", "marks", "sent", "there", "at", "plain", "kept", "member"] ["script"] (defScope s_law) := ⟨rfl, rfl, rfl, by decide +kernel, rfl, by decide +kernel, by decide +kernel⟩
theorem bt_all : bootBuiltins "all" = some (.builtin "all") := by decide +kernel
theorem bt_bool : bootBuiltins "bool" = some (.type "bool") := by decide +kernel
theorem bt_int : bootBuiltins "int" = some (.type "int") := by decide +kernel
theorem bt_isinstance : bootBuiltins "isinstance" = some (.builtin "isinstance") := by decide +kernel
theorem bt_len : bootBuiltins "len" = some (.builtin "len") := by decide +kernel
theorem bt_list : bootBuiltins "list" = some (.type "list") := by decide +kernel
theorem bt_max : bootBuiltins "max" = some (.builtin "max") := by decide +kernel
theorem bt_min : bootBuiltins "min" = some (.builtin "min") := by decide +kernel
theorem bt_ord : bootBuiltins "ord" = some (.builtin "ord") := by decide +kernel
theorem bt_range : bootBuiltins "range" = some (.type "range") := by decide +kernel
theorem bt_set : bootBuiltins "set" = some (.type "set") := by decide +kernel
theorem bt_sorted : bootBuiltins "sorted" = some (.builtin "sorted") := by decide +kernel
theorem bt_str : bootBuiltins "str" = some (.type "str") := by decide +kernel
theorem bt_tuple : bootBuiltins "tuple" = some (.type "tuple") := by decide +kernel
theorem bt_zip : bootBuiltins "zip" = some (.type "zip") := by decide +kernel
structure Tx (K : PySem.W.Frag) (mg : Str → Option Value) where
  C : Addr
  cl : Cls K C
  nE : NoAttr K C "_entries"
  nM : NoAttr K C "memory"
  mgC : mg "House" = some (.ref C)
  a_is_name : Addr
  d_is_name : FuncData
  F_is_name : Fun K "is_name" "is_name" s_is_name a_is_name d_is_name
  b_is_name : Binds K d_is_name ["value"] []
  m_is_name : mg "is_name" = some (.ref a_is_name)
  a_is_name_tuple : Addr
  d_is_name_tuple : FuncData
  F_is_name_tuple : Fun K "is_name_tuple" "is_name_tuple" s_is_name_tuple a_is_name_tuple d_is_name_tuple
  b_is_name_tuple : Binds K d_is_name_tuple ["value"] []
  m_is_name_tuple : mg "is_name_tuple" = some (.ref a_is_name_tuple)
  a_is_subject_code : Addr
  d_is_subject_code : FuncData
  F_is_subject_code : Fun K "is_subject_code" "is_subject_code" s_is_subject_code a_is_subject_code d_is_subject_code
  b_is_subject_code : Binds K d_is_subject_code ["code"] []
  m_is_subject_code : mg "is_subject_code" = some (.ref a_is_subject_code)
  a_is_subject : Addr
  d_is_subject : FuncData
  F_is_subject : Fun K "is_subject" "is_subject" s_is_subject a_is_subject d_is_subject
  b_is_subject : Binds K d_is_subject ["value"] []
  m_is_subject : mg "is_subject" = some (.ref a_is_subject)
  a_is_text : Addr
  d_is_text : FuncData
  F_is_text : Fun K "is_text" "is_text" s_is_text a_is_text d_is_text
  b_is_text : Binds K d_is_text ["value"] []
  m_is_text : mg "is_text" = some (.ref a_is_text)
  a_is_message : Addr
  d_is_message : FuncData
  F_is_message : Fun K "is_message" "is_message" s_is_message a_is_message d_is_message
  b_is_message : Binds K d_is_message ["value"] []
  m_is_message : mg "is_message" = some (.ref a_is_message)
  a_with_mark : Addr
  d_with_mark : FuncData
  F_with_mark : Fun K "with_mark" "with_mark" s_with_mark a_with_mark d_with_mark
  b_with_mark : Binds K d_with_mark ["marks", "mark"] []
  m_with_mark : mg "with_mark" = some (.ref a_with_mark)
  a_are_members : Addr
  d_are_members : FuncData
  F_are_members : Fun K "are_members" "are_members" s_are_members a_are_members d_are_members
  b_are_members : Binds K d_are_members ["value"] []
  m_are_members : mg "are_members" = some (.ref a_are_members)
  a_need_list : Addr
  d_need_list : FuncData
  F_need_list : Fun K "need_list" "need_list" s_need_list a_need_list d_need_list
  b_need_list : Binds K d_need_list ["what"] []
  m_need_list : mg "need_list" = some (.ref a_need_list)
  a_H_init : Addr
  d_H_init : FuncData
  F_H_init : Fun K "__init__" "House.__init__" s_H_init a_H_init d_H_init
  b_H_init : Binds K d_H_init ["self"] []
  mt_H_init : Meth K C "__init__" a_H_init
  a_H_put : Addr
  d_H_put : FuncData
  F_H_put : Fun K "_put" "House._put" s_H_put a_H_put d_H_put
  b_H_put : Binds K d_H_put ["self", "name", "entry"] []
  mt_H_put : Meth K C "_put" a_H_put
  a_H_need_new : Addr
  d_H_need_new : FuncData
  F_H_need_new : Fun K "_need_new" "House._need_new" s_H_need_new a_H_need_new d_H_need_new
  b_H_need_new : Binds K d_H_need_new ["self", "name"] []
  mt_H_need_new : Meth K C "_need_new" a_H_need_new
  a_H_need_room : Addr
  d_H_need_room : FuncData
  F_H_need_room : Fun K "_need_room" "House._need_room" s_H_need_room a_H_need_room d_H_need_room
  b_H_need_room : Binds K d_H_need_room ["self", "name"] []
  mt_H_need_room : Meth K C "_need_room" a_H_need_room
  a_H_add_list : Addr
  d_H_add_list : FuncData
  F_H_add_list : Fun K "add_list" "House.add_list" s_H_add_list a_H_add_list d_H_add_list
  kb_H_add_list : KBinds K d_H_add_list ["self", "name", "members", "tag", "mark", "closed"] ["tag", "mark", "closed"] (gK 3 3) (gK 3 3)
  mt_H_add_list : Meth K C "add_list" a_H_add_list
  a_H_add_alias : Addr
  d_H_add_alias : FuncData
  F_H_add_alias : Fun K "add_alias" "House.add_alias" s_H_add_alias a_H_add_alias d_H_add_alias
  b_H_add_alias : Binds K d_H_add_alias ["self", "name", "target"] []
  mt_H_add_alias : Meth K C "add_alias" a_H_add_alias
  a_H_entry_of : Addr
  d_H_entry_of : FuncData
  F_H_entry_of : Fun K "entry_of" "House.entry_of" s_H_entry_of a_H_entry_of d_H_entry_of
  b_H_entry_of : Binds K d_H_entry_of ["self", "name"] []
  mt_H_entry_of : Meth K C "entry_of" a_H_entry_of
  a_at_list : Addr
  d_at_list : FuncData
  F_at_list : Fun K "at_list" "at_list" s_at_list a_at_list d_at_list
  b_at_list : Binds K d_at_list ["what", "message"] []
  m_at_list : mg "at_list" = some (.ref a_at_list)
  a_arrival_at : Addr
  d_arrival_at : FuncData
  F_arrival_at : Fun K "arrival_at" "arrival_at" s_arrival_at a_arrival_at d_arrival_at
  b_arrival_at : Binds K d_arrival_at ["house", "message"] []
  m_arrival_at : mg "arrival_at" = some (.ref a_arrival_at)
  a_arrives : Addr
  d_arrives : FuncData
  F_arrives : Fun K "arrives" "arrives" s_arrives a_arrives d_arrives
  b_arrives : Binds K d_arrives ["house", "message"] []
  m_arrives : mg "arrives" = some (.ref a_arrives)
  a_arrive : Addr
  d_arrive : FuncData
  F_arrive : Fun K "arrive" "arrive" s_arrive a_arrive d_arrive
  b_arrive : Binds K d_arrive ["house", "message"] []
  m_arrive : mg "arrive" = some (.ref a_arrive)
  a_w_stream : Addr
  d_w_stream : FuncData
  F_w_stream : Fun K "_law_stream" "_law_stream" s_w_stream a_w_stream d_w_stream
  b_w_stream : Binds K d_w_stream ["script", "start"] []
  m_w_stream : mg "_law_stream" = some (.ref a_w_stream)
  a_w_draw : Addr
  d_w_draw : FuncData
  F_w_draw : Fun K "_law_draw" "_law_draw" s_w_draw a_w_draw d_w_draw
  b_w_draw : Binds K d_w_draw ["stream", "size"] []
  m_w_draw : mg "_law_draw" = some (.ref a_w_draw)
  a_w_choose : Addr
  d_w_choose : FuncData
  F_w_choose : Fun K "_law_choose" "_law_choose" s_w_choose a_w_choose d_w_choose
  b_w_choose : Binds K d_w_choose ["stream", "things"] []
  m_w_choose : mg "_law_choose" = some (.ref a_w_choose)
  a_w_shuffled : Addr
  d_w_shuffled : FuncData
  F_w_shuffled : Fun K "_law_shuffled" "_law_shuffled" s_w_shuffled a_w_shuffled d_w_shuffled
  b_w_shuffled : Binds K d_w_shuffled ["stream", "things"] []
  m_w_shuffled : mg "_law_shuffled" = some (.ref a_w_shuffled)
  a_w_house : Addr
  d_w_house : FuncData
  F_w_house : Fun K "_law_house" "_law_house" s_w_house a_w_house d_w_house
  b_w_house : Binds K d_w_house ["stream", "pages"] []
  m_w_house : mg "_law_house" = some (.ref a_w_house)
  a_w_with : Addr
  d_w_with : FuncData
  F_w_with : Fun K "_law_with" "_law_with" s_w_with a_w_with d_w_with
  b_w_with : Binds K d_w_with ["marks", "token"] []
  m_w_with : mg "_law_with" = some (.ref a_w_with)
  a_w_line : Addr
  d_w_line : FuncData
  F_w_line : Fun K "_law_line" "_law_line" s_w_line a_w_line d_w_line
  b_w_line : Binds K d_w_line ["stream", "front"] []
  m_w_line : mg "_law_line" = some (.ref a_w_line)
  mkH : Mk K C a_H_init
  n_all : mg "all" = none
  n_bool : mg "bool" = none
  n_int : mg "int" = none
  n_isinstance : mg "isinstance" = none
  n_len : mg "len" = none
  n_list : mg "list" = none
  n_max : mg "max" = none
  n_min : mg "min" = none
  n_ord : mg "ord" = none
  n_range : mg "range" = none
  n_set : mg "set" = none
  n_sorted : mg "sorted" = none
  n_str : mg "str" = none
  n_tuple : mg "tuple" = none
  n_zip : mg "zip" = none
  t_FIRST_CODE : Tok
  c_FIRST_CODE : mg "FIRST_CODE" = some (.int 32 t_FIRST_CODE)
  t_LAST_CODE : Tok
  c_LAST_CODE : mg "LAST_CODE" = some (.int 126 t_LAST_CODE)
  t_MOST_ADDRESSES : Tok
  c_MOST_ADDRESSES : mg "MOST_ADDRESSES" = some (.int 20 t_MOST_ADDRESSES)
  t_MOST_CHARACTERS : Tok
  c_MOST_CHARACTERS : mg "MOST_CHARACTERS" = some (.int 8 t_MOST_CHARACTERS)
  t_MOST_LETTERS : Tok
  c_MOST_LETTERS : mg "MOST_LETTERS" = some (.int 12 t_MOST_LETTERS)
  t_MOST_MEMBERS : Tok
  c_MOST_MEMBERS : mg "MOST_MEMBERS" = some (.int 8 t_MOST_MEMBERS)
  t_PERCENT_CODE : Tok
  c_PERCENT_CODE : mg "PERCENT_CODE" = some (.int 37 t_PERCENT_CODE)
def okC (c : Nat) : Bool := decide (32 ≤ c) && decide (c ≤ 126) && !decide (c = 37)
def loC (c : Nat) : Bool := decide (97 ≤ c) && decide (c ≤ 122)
def isName (d : PyData) : Bool := match d with
  | .str x => decide (1 ≤ x.length) && decide (x.length ≤ 12) && x.cps.toList.all loC
  | _ => false
def isSubj (d : PyData) : Bool := match d with
  | .str x => x.cps.toList.all okC
  | _ => false
def isTxt (d : PyData) : Bool := match d with
  | .str x => isSubj (.str x) && decide (1 ≤ x.length) && decide (x.length ≤ 8)
  | _ => false
def risB : List PyData → Bool
  | .str x :: .str y :: r => ltS x y && risB (.str y :: r)
  | _ => true
def isNT (d : PyData) : Bool := match d with
  | .tuple xs => xs.all isName && risB xs
  | _ => false
def isMsg (d : PyData) : Bool := match d with
  | .tuple [a, b, c, m] => isName a && isName b && isSubj c && isNT m
  | _ => false
abbrev Wt (d : PyData) : Prop := d.weight ≤ 4000
def gP (f : PyData → Bool) : FL := fun ds R => ∃ d, ds = [.p d] ∧ Wt d ∧ R (.p (.bool (f d)))
def gCode : FL := fun ds R => ∃ c : Nat, ds = [.p (.int c)] ∧ R (.p (.bool (okC c)))
theorem leS_1 {a b : Nat} : leS ⟨#[a]⟩ ⟨#[b]⟩ = decide (a ≤ b) := by
  unfold leS
  have e : ([b] < [a]) ↔ b < a := by
    rw [List.cons_lt_cons_iff]
    simp
  show (!decide ([b] < [a])) = _
  by_cases h : b < a
  · rw [decide_eq_true (e.mpr h), decide_eq_false (by omega)]
    rfl
  · rw [decide_eq_false (fun z => h (e.mp z)), decide_eq_true (by omega)]
    rfl
theorem wt_str {x : Str} (h : Wt (.str x)) : x.length ≤ 4000 := by
  have h' : PyData.weight (.str x) ≤ 4000 := h
  rw [show PyData.weight (.str x) = x.cps.size by simp only [PyData.weight]] at h'
  exact h'
theorem big {n : Nat} (h : n ≤ 4000) : n ≤ sizeLine := Nat.le_trans h (by decide)
theorem signs_len (x : Str) : (signsD x).length = x.length := by
  unfold signsD
  rw [List.length_map, Array.length_toList]
  rfl
theorem mem_signs {x : Str} {d : PyData} (h : d ∈ signsD x) : ∃ c ∈ x.cps.toList, d = .str ⟨#[c]⟩ := by
  unfold signsD at h
  obtain ⟨c, hc, e⟩ := List.mem_map.mp h
  exact ⟨c, hc, e.symm⟩
theorem all_signs {x : Str} {q : PyData → Bool} {p : Nat → Bool} (e : ∀ c, q (.str ⟨#[c]⟩) = p c) : (signsD x).all q = x.cps.toList.all p := by
  unfold signsD
  rw [List.all_map]
  congr 1
  funext c
  exact e c
theorem all_map_of {ds : List PyData} {q : PyData → Bool} {R : DV → Prop} (h : R (.p (.bool (ds.all q)))) : fAll [.p (.list (ds.map fun d => .bool (q d)))] R := ⟨ds.map q, by rw [List.map_map]; rfl, by rw [List.all_map]; exact h⟩
theorem s_a : (Str.ofString "a") = ⟨#[97]⟩ := by decide +kernel
theorem s_z : (Str.ofString "z") = ⟨#[122]⟩ := by decide +kernel
theorem s_sp : (Str.ofString " ") = ⟨#[32]⟩ := by decide +kernel
theorem s_ti : (Str.ofString "~") = ⟨#[126]⟩ := by decide +kernel
def sg1 (p : Nat → Bool) (d : PyData) : Bool := match d with
  | .str x => (match x.cps.toList with | [c] => p c | _ => false)
  | _ => false
abbrev loD := sg1 loC
abbrev okD' := sg1 okC
theorem emp_fm {ds : List PyData} {q : PyData → Bool} : (ds.filterMap fun d => if q d = true then none else some d).isEmpty = ds.all q := by
  induction ds with
  | nil => rfl
  | cons d ds ih =>
    cases e : q d with
    | true => rw [List.filterMap_cons_none (by simp [e]), ih, List.all_cons, e, Bool.true_and]
    | false => rw [List.filterMap_cons_some (b := d) (by simp [e]), List.all_cons, e]; rfl
theorem isName_str {x : Str} (h : isName (.str x) = true) : x.length ≤ 12 := by
  simp only [isName, Bool.and_eq_true, decide_eq_true_eq] at h
  exact h.1.2
theorem wt_mem {x : PyData} : ∀ {xs : List PyData}, x ∈ xs → x.weight + 1 ≤ PyData.weightAll xs
  | [], h => absurd h List.not_mem_nil
  | y :: ys, h => by
    rw [show PyData.weightAll (y :: ys) = y.weight + 1 + PyData.weightAll ys by simp only [PyData.weightAll]]
    rcases List.mem_cons.mp h with e | m
    · rw [e]; omega
    · have := wt_mem m; omega
theorem wt_len : ∀ xs : List PyData, xs.length ≤ PyData.weightAll xs
  | [] => Nat.zero_le _
  | y :: ys => by
    rw [show PyData.weightAll (y :: ys) = y.weight + 1 + PyData.weightAll ys by simp only [PyData.weightAll], List.length_cons]
    have := wt_len ys
    omega
theorem wt_tup {xs : List PyData} (h : Wt (.tuple xs)) : PyData.weightAll xs ≤ 4000 := by
  have h' : PyData.weight (.tuple xs) ≤ 4000 := h
  rw [show PyData.weight (.tuple xs) = PyData.weightAll xs by simp only [PyData.weight]] at h'
  exact h'
theorem wt_in {xs : List PyData} {x : PyData} (h : Wt (.tuple xs)) (m : x ∈ xs) : Wt x := by
  have := wt_tup h
  have := wt_mem m
  show x.weight ≤ 4000
  omega
theorem all_sorted {x : Str} {zs : List Str} {p : Nat → Bool} (hm : ∀ y, y ∈ zs ↔ y ∈ x.cps.toList.map fun c => (⟨#[c]⟩ : Str)) : (zs.map PyData.str).all (sg1 p) = x.cps.toList.all p := by
  rw [Bool.eq_iff_iff, List.all_eq_true, List.all_eq_true]
  constructor
  · intro h c hc
    exact h (.str ⟨#[c]⟩) (List.mem_map.mpr ⟨_, (hm _).mpr (List.mem_map.mpr ⟨c, hc, rfl⟩), rfl⟩)
  · intro h d hd
    obtain ⟨y, hy, rfl⟩ := List.mem_map.mp hd
    obtain ⟨c, hc, rfl⟩ := List.mem_map.mp ((hm y).mp hy)
    exact h c hc
theorem cut_from {xs : List PyData} (k : Nat) : cutD xs (some (k : Int)) none = xs.drop k := by
  unfold cutD
  rw [HT.sIx_nat, HT.sIx_none]
  by_cases h : k ≤ xs.length
  · rw [Nat.min_eq_left h]
    exact List.take_of_length_le (by rw [List.length_drop]; exact Nat.le_refl _)
  · rw [Nat.min_eq_right (by omega), Nat.sub_self, List.take_zero, List.drop_eq_nil_of_le (by omega)]
theorem cut_to {xs : List PyData} (k : Nat) : cutD xs none (some (k : Int)) = xs.take k := by
  unfold cutD
  rw [HT.sIx_nat, HT.sIx_none, List.drop_zero, Nat.sub_zero]
  by_cases h : k ≤ xs.length
  · rw [Nat.min_eq_left h]
  · rw [Nat.min_eq_right (by omega), List.take_length, List.take_of_length_le (by omega)]
def prB (d : PyData) : Bool := match d with
  | .tuple [.str a, .str b] => ltS a b
  | _ => false
theorem name_str {d : PyData} (h : isName d = true) : ∃ x, d = .str x := by
  cases d with
  | str x => exact ⟨x, rfl⟩
  | _ => exact Bool.noConfusion h
theorem mem_pairs {d : PyData} : ∀ {xs ys : List PyData}, d ∈ pairsD xs ys → ∃ a ∈ xs, ∃ b ∈ ys, d = .tuple [a, b]
  | [], _, h => absurd h List.not_mem_nil
  | _ :: _, [], h => absurd h List.not_mem_nil
  | x :: xs, y :: ys, h => by
    rcases List.mem_cons.mp (show d ∈ PyData.tuple [x, y] :: pairsD xs ys from h) with e | m
    · exact ⟨x, List.mem_cons_self, y, List.mem_cons_self, e⟩
    · obtain ⟨a, ha, b, hb, e⟩ := mem_pairs m
      exact ⟨a, List.mem_cons_of_mem _ ha, b, List.mem_cons_of_mem _ hb, e⟩
theorem all_pairs : ∀ {xs : List PyData}, xs.all isName = true → (pairsD xs (xs.drop 1)).all prB = risB xs
  | [], _ => rfl
  | [x], h => by
    obtain ⟨a, rfl⟩ := name_str (List.all_eq_true.mp h x List.mem_cons_self)
    rfl
  | x :: y :: r, h => by
    rw [List.all_cons, Bool.and_eq_true] at h
    obtain ⟨a, rfl⟩ := name_str h.1
    obtain ⟨b, rfl⟩ := name_str (List.all_eq_true.mp h.2 y List.mem_cons_self)
    have ih := all_pairs h.2
    show (prB (.tuple [.str a, .str b]) && (pairsD (.str b :: r) ((PyData.str b :: r).drop 1)).all prB) = (ltS a b && risB (.str b :: r))
    rw [ih]
    rfl
theorem risB_iff : ∀ {xs : List Str}, risB (xs.map .str) = true ↔ RisS xs
  | [] => ⟨fun _ => List.Pairwise.nil, fun _ => rfl⟩
  | [x] => ⟨fun _ => List.pairwise_singleton _ _, fun _ => rfl⟩
  | x :: y :: r => by
    have ih := risB_iff (xs := y :: r)
    show (ltS x y && risB ((y :: r).map .str)) = true ↔ _
    rw [Bool.and_eq_true, ih]
    constructor
    · rintro ⟨h1, h2⟩
      have h1 : x.cps.toList < y.cps.toList := of_decide_eq_true h1
      refine List.Pairwise.cons (fun z hz => ?_) h2
      rcases List.mem_cons.mp hz with e | m
      · rw [e]; exact h1
      · exact Std.lt_trans h1 ((List.pairwise_cons.mp h2).1 z m)
    · intro h
      obtain ⟨h1, h2⟩ := List.pairwise_cons.mp h
      exact ⟨decide_eq_true (h1 y List.mem_cons_self), h2⟩
theorem names_strs : ∀ {xs : List PyData}, xs.all isName = true → ∃ ks : List Str, xs = ks.map .str
  | [], _ => ⟨[], rfl⟩
  | x :: xs, h => by
    rw [List.all_cons, Bool.and_eq_true] at h
    obtain ⟨a, rfl⟩ := name_str h.1
    obtain ⟨ks, rfl⟩ := names_strs h.2
    exact ⟨a :: ks, rfl⟩
theorem isMsg_not {xs : List PyData} (h : xs.length ≠ 4) : isMsg (.tuple xs) = false := by
  match xs, h with
  | [], _ => rfl
  | [_], _ => rfl
  | [_, _], _ => rfl
  | [_, _, _], _ => rfl
  | [_, _, _, _], h => exact absurd rfl h
  | _ :: _ :: _ :: _ :: _ :: _, _ => rfl
theorem eqv_int {a b : Int} : PyData.eqv (.int a) (.int b) = decide (a = b) := by
  simp only [PyData.eqv]
  by_cases z : a = b
  · subst z; rw [decide_eq_true rfl]; exact beq_self_eq_true a
  · rw [decide_eq_false z]
    exact beq_eq_false_iff_ne.mpr z
theorem plain_strs (ks : List Str) : (PyData.list (ks.map .str)).plain = true := by
  simp only [PyData.plain]
  induction ks with
  | nil => rfl
  | cons k ks ih => simp only [List.map_cons, PyData.plainAll, PyData.plain, ih, Bool.true_and]
theorem depthAll_strs (ks : List Str) : PyData.depthAll (ks.map .str) = 0 := by
  induction ks with
  | nil => rfl
  | cons k ks ih => simp only [List.map_cons, PyData.depthAll, PyData.depth, ih, Nat.max_self]
theorem depth_strs (ks : List Str) : (PyData.list (ks.map .str)).depth = 1 := by
  simp only [PyData.depth, depthAll_strs]
theorem eqvAll_strs : ∀ ks zs : List Str, PyData.eqvAll (ks.map .str) (zs.map .str) = decide (ks = zs)
  | [], [] => rfl
  | [], z :: zs => rfl
  | k :: ks, [] => rfl
  | k :: ks, z :: zs => by
    simp only [List.map_cons, PyData.eqvAll, PyData.eqv, eqvAll_strs ks zs]
    by_cases h : k = z
    · subst h
      simp
    · simp [h]
theorem eqv_strs (ks zs : List Str) : PyData.eqv (.list (ks.map .str)) (.list (zs.map .str)) = decide (ks = zs) := by
  simp only [PyData.eqv, eqvAll_strs]
theorem ris_dec {ks zs : List Str} (hr : RisS zs) (hm : ∀ x, x ∈ zs ↔ x ∈ ks) : decide (ks = zs) = risB (ks.map .str) := by
  rw [Bool.eq_iff_iff, risB_iff, decide_eq_true_iff]
  exact ⟨fun e => e ▸ hr, fun h => risS_one h hr fun x => (hm x).symm⟩
/-- a drawn number: any below m -/
def gDraw : FL := fun ds R => ∃ m : Int, ds = [.well, .p (.int m)] ∧ 0 < m ∧ m < 1000000 ∧ ∀ k : Nat, (k : Int) < m → R (.p (.int k))
def gWell : FL := fun ds R => ∃ (ns : List Int) (a : Nat), ds = [.scr ns, .p (.int a)] ∧ ns.length ≤ 63 ∧ (∀ n ∈ ns, Bd 1048576 n) ∧ a ≤ 63 ∧ R .well
def gChoose : FL := fun ds R => ∃ xs : List PyData, ds = [.well, .p (.list xs)] ∧ 0 < xs.length ∧ xs.length < 1000000 ∧ ∀ x ∈ xs, R (.p x)
theorem bd32 {n : Nat} {i : Int} (h : i.natAbs < 4294967296) (hn : 32 ≤ n := by decide) : Bd n i := ⟨32, by decide, hn, h⟩
theorem bd64 {n : Nat} {i : Int} (h : i.natAbs < 18446744073709551616) (hn : 64 ≤ n := by decide) : Bd n i := ⟨64, by decide, hn, h⟩
structure Gd (n m : Nat) (d : PyData) : Prop where
  lf : d.leavesShort 64 = true
  sh : d.showable = true
  wt : d.weight ≤ n
  dp : d.depth ≤ m
theorem no_depth {xs : List PyData} (h : (PyData.tuple xs).depth ≤ 0) : False := by
  rw [show (PyData.tuple xs).depth = PyData.depthAll xs + 1 by simp only [PyData.depth]] at h
  omega
theorem Gd.shows {n m : Nat} {d : PyData} (g : Gd n m d) (hn : n ≤ 100000) (hm : m ≤ 90) : Shows d := ⟨g.sh, by
  have := PyData.shown_le 64 (by decide) d g.lf
  have := g.wt
  refine Nat.le_trans ‹d.shown.length ≤ _› (Nat.le_trans (Nat.add_le_add_right (Nat.mul_le_mul (Nat.le_refl _) (Nat.le_trans g.wt hn)) _) (by decide)), Nat.le_trans g.dp (by omega)⟩
def contD (d : PyData) : Prop := (∃ xs, d = .list xs) ∨ (∃ xs, d = .tuple xs)
def gBent (n : Nat) : FL := fun ds R => ∃ (xs : List PyData) (m : Nat), ds = [.well, .p (.tuple xs)] ∧ Gd m n (.tuple xs) ∧ m ≤ 3000 ∧ ∀ d, Gd (m + 600) (n + 1) d → contD d → R (.p d)
def anyL : List PyData := [.none, .bool true, .bool false, .int 0, .int 1, .int (-1), .int (10 ^ Int.toNat 59), .str (Str.ofString ""), .str (Str.ofString "a"), .str (Str.ofString "A"), .str (Str.ofString "a b"), .str (Str.ofString "abcdefghijkl"), .str (Str.ofString "abcdefghijklm"), .str (Str.ofString "a\n"), .str (Str.ofString "\t"), .str (Str.ofString "12345678"), .str (Str.ofString "123456789"), .tuple [], .tuple [.str (Str.ofString "a")], .tuple [.str (Str.ofString "b"), .str (Str.ofString "a")], .tuple [.str (Str.ofString "a"), .str (Str.ofString "a")], .list [.str (Str.ofString "a")], .list [], .dict [], .tuple [.str (Str.ofString "a"), .str (Str.ofString "b")], .str (Txt.mul (Str.ofString "~") 40)]
theorem cut_from1 {xs : List PyData} (k : Nat) : cutD xs (some ((k : Int) + 1)) none = xs.drop (k + 1) := cut_from (k + 1)
theorem lf_all {B : Nat} : ∀ xs : List PyData, PyData.leavesShortAll B xs = xs.all (PyData.leavesShort B)
  | [] => rfl
  | x :: xs => by simp only [PyData.leavesShortAll, List.all_cons, lf_all xs]
theorem sh_all : ∀ xs : List PyData, PyData.showableAll xs = xs.all PyData.showable
  | [] => rfl
  | x :: xs => by simp only [PyData.showableAll, List.all_cons, sh_all xs]
theorem dp_all {k : Nat} : ∀ {xs : List PyData}, PyData.depthAll xs ≤ k ↔ ∀ x ∈ xs, x.depth ≤ k
  | [] => by simp [PyData.depthAll]
  | x :: xs => by
    simp only [PyData.depthAll, List.mem_cons, forall_eq_or_imp]
    rw [Nat.max_le, dp_all (xs := xs)]
theorem wt_app : ∀ xs ys : List PyData, PyData.weightAll (xs ++ ys) = PyData.weightAll xs + PyData.weightAll ys
  | [], ys => by rw [List.nil_append, show PyData.weightAll [] = 0 by simp only [PyData.weightAll], Nat.zero_add]
  | x :: xs, ys => by
    rw [List.cons_append, show PyData.weightAll (x :: (xs ++ ys)) = x.weight + 1 + PyData.weightAll (xs ++ ys) by simp only [PyData.weightAll], wt_app xs ys, show PyData.weightAll (x :: xs) = x.weight + 1 + PyData.weightAll xs by simp only [PyData.weightAll]]
    omega
theorem wt_one (x : PyData) : PyData.weightAll [x] = x.weight + 1 := by simp only [PyData.weightAll, Nat.add_zero]
theorem wt_td (xs : List PyData) (i : Nat) : PyData.weightAll (xs.take i) + PyData.weightAll (xs.drop i) = PyData.weightAll xs := by rw [← wt_app, List.take_append_drop]
theorem wt_drop (xs : List PyData) (i : Nat) : PyData.weightAll (xs.drop (i + 1)) ≤ PyData.weightAll (xs.drop i) := by
  rw [← List.drop_drop]
  have := wt_td (xs.drop i) 1
  omega
structure GdA (n m : Nat) (xs : List PyData) : Prop where
  lf : ∀ x ∈ xs, x.leavesShort 64 = true
  sh : ∀ x ∈ xs, x.showable = true
  wt : PyData.weightAll xs ≤ n
  dp : ∀ x ∈ xs, x.depth + 1 ≤ m
theorem GdA.tup {n m : Nat} {xs : List PyData} (g : GdA n m xs) (h1 : 1 ≤ m) : Gd n m (.tuple xs) := ⟨by simp only [PyData.leavesShort]; rw [lf_all]; exact List.all_eq_true.mpr g.lf, by simp only [PyData.showable]; rw [sh_all]; exact List.all_eq_true.mpr g.sh, by simp only [PyData.weight]; exact g.wt, by
  simp only [PyData.depth]
  have : PyData.depthAll xs ≤ m - 1 := dp_all.mpr fun x hx => by have := g.dp x hx; omega
  omega⟩
theorem GdA.lst {n m : Nat} {xs : List PyData} (g : GdA n m xs) (h1 : 1 ≤ m) : Gd n m (.list xs) := ⟨by simp only [PyData.leavesShort]; rw [lf_all]; exact List.all_eq_true.mpr g.lf, by simp only [PyData.showable]; rw [sh_all]; exact List.all_eq_true.mpr g.sh, by simp only [PyData.weight]; exact g.wt, by
  simp only [PyData.depth]
  have : PyData.depthAll xs ≤ m - 1 := dp_all.mpr fun x hx => by have := g.dp x hx; omega
  omega⟩
theorem Gd.all {n m : Nat} {xs : List PyData} (g : Gd n m (.tuple xs)) : GdA n m xs := by
  have lf := g.lf
  have sh := g.sh
  have wt := g.wt
  have dp := g.dp
  simp only [PyData.leavesShort, PyData.showable, PyData.weight, PyData.depth, lf_all, sh_all] at lf sh wt dp
  have dp' := dp_all.mp (show PyData.depthAll xs ≤ m - 1 by omega)
  exact ⟨List.all_eq_true.mp lf, List.all_eq_true.mp sh, wt, fun x hx => by have := dp' x hx; omega⟩
theorem Gd.up {n m n' m' : Nat} {d : PyData} (g : Gd n m d) (h1 : n ≤ n') (h2 : m ≤ m') : Gd n' m' d := ⟨g.lf, g.sh, Nat.le_trans g.wt h1, Nat.le_trans g.dp h2⟩
theorem gd_cut {m n N i : Nat} {xs : List PyData} (q : Gd m n (.tuple xs)) (hn : n ≤ N) (h1 : 1 ≤ N) : Gd m N (.tuple (xs.take i ++ xs.drop (i + 1))) := by
  have g := q.all
  have w1 := wt_td xs i
  have w2 := wt_drop xs i
  have w3 := g.wt
  have mem : ∀ y ∈ xs.take i ++ xs.drop (i + 1), y ∈ xs := fun y hy => by
    rcases List.mem_append.mp hy with z | z
    · exact List.mem_of_mem_take z
    · exact List.mem_of_mem_drop z
  exact GdA.tup ⟨fun y hy => g.lf y (mem y hy), fun y hy => g.sh y (mem y hy), by rw [wt_app]; omega, fun y hy => Nat.le_trans (g.dp y (mem y hy)) hn⟩ h1
theorem gd_put {m n a b N i j : Nat} {xs : List PyData} {x : PyData} (q : Gd m n (.tuple xs)) (g : Gd a b x) (hij : j = i ∨ j = i + 1) (hn : n ≤ N) (hb : b + 1 ≤ N) : Gd (m + a + 1) N (.tuple (xs.take i ++ [x] ++ xs.drop j)) := by
  have g' := q.all
  have w1 := wt_td xs i
  have w2 := wt_drop xs i
  have w3 := g'.wt
  have w4 := g.wt
  have mem : ∀ y ∈ xs.take i ++ [x] ++ xs.drop j, y ∈ xs ∨ y = x := fun y hy => by
    rcases List.mem_append.mp hy with z | z
    · rcases List.mem_append.mp z with z | z
      · exact .inl (List.mem_of_mem_take z)
      · exact .inr (List.mem_singleton.mp z)
    · exact .inl (List.mem_of_mem_drop z)
  refine GdA.tup ⟨fun y hy => ?_, fun y hy => ?_, ?_, fun y hy => ?_⟩ (by omega)
  · rcases mem y hy with z | z
    · exact g'.lf y z
    · rw [z]; exact g.lf
  · rcases mem y hy with z | z
    · exact g'.sh y z
    · rw [z]; exact g.sh
  · rw [wt_app, wt_app, wt_one]
    rcases hij with e | e
    · subst e; omega
    · subst e; omega
  · rcases mem y hy with z | z
    · exact Nat.le_trans (g'.dp y z) hn
    · rw [z]; have := g.dp; omega
theorem gd_swap {m n b N c i : Nat} {xs : List PyData} {x : PyData} (hi : i < xs.length) (q : Gd m n (.tuple xs)) (g : Gd (xs[i].weight + c) b x) (hn : n ≤ N) (hb : b + 1 ≤ N) : Gd (m + c) N (.tuple (xs.take i ++ [x] ++ xs.drop (i + 1))) := by
  have g' := q.all
  have w1 := wt_td xs i
  have w3 := g'.wt
  have w4 := g.wt
  rw [List.drop_eq_getElem_cons hi] at w1
  rw [show PyData.weightAll (xs[i] :: xs.drop (i + 1)) = xs[i].weight + 1 + PyData.weightAll (xs.drop (i + 1)) by simp only [PyData.weightAll]] at w1
  have big := gd_put (i := i) (j := i + 1) q g (.inr rfl) hn hb
  refine ⟨big.lf, big.sh, ?_, big.dp⟩
  simp only [PyData.weight]
  rw [wt_app, wt_app, wt_one]
  omega
theorem any_gd {d : PyData} (h : d ∈ anyL) : Gd 500 1 d := by
  have e : (anyL.all fun d => d.leavesShort 64 && d.showable && decide (d.weight ≤ 500) && decide (d.depth ≤ 1)) = true := by decide +kernel
  have q := List.all_eq_true.mp e d h
  rw [Bool.and_eq_true, Bool.and_eq_true, Bool.and_eq_true] at q
  exact ⟨q.1.1.1, q.1.1.2, of_decide_eq_true q.1.2, of_decide_eq_true q.2⟩
theorem eqv_str (a : Str) : PyData.eqv (.str a) (.str a) = true := by
  simp only [PyData.eqv]
  exact beq_self_eq_true a
theorem shows4 (a b c e : Bool) : Shows (.list [.bool a, .bool b, .bool c, .bool e]) := Gd.shows (n := 100) (m := 5) ⟨by simp only [PyData.leavesShort, PyData.leavesShortAll, Bool.and_true], by simp only [PyData.showable, PyData.showableAll, Bool.and_true], by simp only [PyData.weight, PyData.weightAll]; decide, by simp only [PyData.depth, PyData.depthAll]; decide⟩ (by decide) (by decide)
theorem txt_not {d : PyData} (h : isSubj d = false) : isTxt d = false := by
  cases d with
  | str x => simp only [isTxt, h, Bool.false_and]
  | _ => rfl
theorem subj_str {d : PyData} (h : isSubj d = true) : ∃ x, d = .str x := by
  cases d with
  | str x => exact ⟨x, rfl⟩
  | _ => exact Bool.noConfusion h
theorem mem_rng {d : PyData} {lo : Int} {n : Nat} (h : d ∈ rngD lo n) : ∃ k : Nat, k < n ∧ d = .int (lo + (k : Int)) := by
  unfold rngD at h
  obtain ⟨k, hk, e⟩ := List.mem_map.mp h
  exact ⟨k, List.mem_range.mp hk, e.symm⟩
theorem tl_app (a b : Str) : (a ++ b).cps.toList = a.cps.toList ++ b.cps.toList := by
  rw [show (a ++ b).cps = a.cps ++ b.cps from rfl, Array.toList_append]
theorem len_app (a b : Str) : (a ++ b).length = a.length + b.length := by
  show (a.cps ++ b.cps).size = _
  rw [Array.size_append]
  rfl
theorem wt_s {x : Str} (h : x.length ≤ 4000) : Wt (.str x) := by
  show PyData.weight (.str x) ≤ 4000
  rw [show PyData.weight (.str x) = x.cps.size by simp only [PyData.weight]]
  exact h
theorem sz2 {a b : Nat} (ha : a ≤ 4000) (hb : b ≤ 4000) : a + b ≤ sizeLine := Nat.le_trans (Nat.add_le_add ha hb) (by decide)
theorem fold_rep (a : Array Nat) : ∀ (k : Nat) (acc : Array Nat), ((List.replicate k a).foldl (· ++ ·) acc).toList = acc.toList ++ (List.replicate k a.toList).flatten
  | 0, acc => by simp
  | k + 1, acc => by
    rw [List.replicate_succ, List.foldl_cons, fold_rep a k, List.replicate_succ, List.flatten_cons, Array.toList_append, List.append_assoc]
theorem mul_tl (x : Str) (k : Nat) (h1 : 1 < k) (h2 : x.length ≠ 0) : (Txt.mul x (k : Int)).cps.toList = (List.replicate k x.cps.toList).flatten := by
  unfold Txt.mul
  rw [if_neg (by omega), if_neg (by
    intro z
    rcases (Bool.or_eq_true _ _).mp z with z | z
    · have := eq_of_beq z
      omega
    · exact h2 (eq_of_beq z))]
  show ((List.replicate ((k : Int)).toNat x.cps).foldl (· ++ ·) #[]).toList = _
  rw [fold_rep, Int.toNat_natCast]
  rfl
theorem ab_ne : (Str.ofString "ab").length ≠ 0 := by decide
theorem len_mul_ab (k : Nat) (h : 1 < k := by decide) : (Txt.mul (Str.ofString "ab") (k : Int)).length = k * 2 := by
  have e := mul_tl (Str.ofString "ab") k h ab_ne
  show (Txt.mul (Str.ofString "ab") (k : Int)).cps.size = _
  rw [← Array.length_toList, e, List.length_flatten, List.map_replicate, List.sum_replicate_nat]
  rfl
theorem subj_app (x y : Str) : isSubj (.str (x ++ y)) = (isSubj (.str x) && isSubj (.str y)) := by
  simp only [isSubj, tl_app, List.all_append]
theorem subj_ab (k : Nat) (h : 1 < k := by decide) : isSubj (.str (Txt.mul (Str.ofString "ab") (k : Int))) = true := by
  simp only [isSubj]
  rw [mul_tl _ k h ab_ne]
  refine List.all_eq_true.mpr fun c hc => ?_
  obtain ⟨l, hl, hc⟩ := List.mem_flatten.mp hc
  rw [(List.mem_replicate.mp hl).2] at hc
  exact List.all_eq_true.mp (show (Str.ofString "ab").cps.toList.all okC = true by decide +kernel) c hc
theorem chk_az {c : Nat} (h : PyData.str ⟨#[c]⟩ ∈ signsD (Str.ofString "abcdefghijklmnopqrstuvwxyz")) : isName (.str (Str.ofString "abcdefghijk" ++ ⟨#[c]⟩)) = true ∧ isName (.str ⟨#[c]⟩) = true ∧ isTxt (.str ⟨#[c]⟩) = true := by
  have e : ((signsD (Str.ofString "abcdefghijklmnopqrstuvwxyz")).all fun d => match d with | .str y => isName (.str (Str.ofString "abcdefghijk" ++ y)) && isName (.str y) && isTxt (.str y) | _ => false) = true := by decide +kernel
  have q := List.all_eq_true.mp e _ h
  have q : (isName (.str (Str.ofString "abcdefghijk" ++ ⟨#[c]⟩)) && isName (.str ⟨#[c]⟩) && isTxt (.str ⟨#[c]⟩)) = true := q
  rw [Bool.and_eq_true, Bool.and_eq_true] at q
  exact ⟨q.1.1, q.1.2, q.2⟩
abbrev otS : Str := Str.ofString " !\"#$&'()*+,-./0123456789:;<=>?@ABCDEFGHIJKLMNOPQRSTUVWXYZ[\\]^_`{|}~"
theorem chk_ot {c : Nat} (h : PyData.str ⟨#[c]⟩ ∈ signsD otS) : isName (.str (Str.ofString "abc" ++ ⟨#[c]⟩ ++ Str.ofString "efgh")) = false ∧ isName (.str ⟨#[c]⟩) = false ∧ isSubj (.str (Txt.mul (Str.ofString "ab") 600 ++ ⟨#[c]⟩)) = true ∧ isTxt (.str ⟨#[c]⟩) = true := by
  have e : ((signsD otS).all fun d => match d with | .str y => !isName (.str (Str.ofString "abc" ++ y ++ Str.ofString "efgh")) && !isName (.str y) && isSubj (.str y) && isTxt (.str y) | _ => false) = true := by decide +kernel
  have q := List.all_eq_true.mp e _ h
  have q : (!isName (.str (Str.ofString "abc" ++ ⟨#[c]⟩ ++ Str.ofString "efgh")) && !isName (.str ⟨#[c]⟩) && isSubj (.str ⟨#[c]⟩) && isTxt (.str ⟨#[c]⟩)) = true := q
  rw [Bool.and_eq_true, Bool.and_eq_true, Bool.and_eq_true, Bool.not_eq_true', Bool.not_eq_true'] at q
  exact ⟨q.1.1.1, q.1.1.2, by rw [subj_app, q.1.2, Bool.and_true]; exact subj_ab 600, q.2⟩
theorem l1s (c : Nat) : (⟨#[c]⟩ : Str).length ≤ 2000 := by
  show 1 ≤ 2000
  decide
theorem l600 : (Txt.mul (Str.ofString "ab") 600).length = 1200 := len_mul_ab 600
theorem l1500 : (Txt.mul (Str.ofString "ab") 1500).length = 3000 := len_mul_ab 1500
theorem wt_a {a b : Str} (ha : a.length ≤ 2000) (hb : b.length ≤ 2000) : Wt (.str (a ++ b)) := wt_s (by rw [len_app]; omega)
theorem sz4 {a b : Nat} (ha : a ≤ 2000) (hb : b ≤ 2000) : a + b ≤ sizeLine := Nat.le_trans (Nat.add_le_add ha hb) (by decide)
theorem le_a {a b : Str} (ha : a.length ≤ 1000) (hb : b.length ≤ 1000) : (a ++ b).length ≤ 2000 := by rw [len_app]; omega
theorem l1t (c : Nat) : (⟨#[c]⟩ : Str).length ≤ 1000 := by
  show 1 ≤ 1000
  decide
theorem chk_nt {d : PyData} (h : d ∈ [PyData.str (Str.ofString "\n"), .str (Str.ofString "\t")]) : ∃ y, d = .str y ∧ y.length ≤ 1000 ∧ isSubj (.str y) = false ∧ isSubj (.str (Str.ofString "a" ++ y ++ Str.ofString "b")) = false ∧ isTxt (.str (Str.ofString "a" ++ y)) = false := by
  rcases List.mem_cons.mp h with e | h
  · exact ⟨_, e, by decide, by decide +kernel, by decide +kernel, by decide +kernel⟩
  · exact ⟨_, List.mem_singleton.mp h, by decide, by decide +kernel, by decide +kernel, by decide +kernel⟩
theorem wt_m {xs : List PyData} (h : PyData.weightAll xs ≤ 4000) : Wt (.tuple xs) := by
  show PyData.weight (.tuple xs) ≤ 4000
  simp only [PyData.weight]
  exact h
theorem msg1 : Wt (.tuple [.str (Str.ofString "a"), .str (Str.ofString "b"), .str (Txt.mul (Str.ofString "ab") 1500), .tuple [.str (Str.ofString "m")]]) ∧ isMsg (.tuple [.str (Str.ofString "a"), .str (Str.ofString "b"), .str (Txt.mul (Str.ofString "ab") 1500), .tuple [.str (Str.ofString "m")]]) = true := by
  constructor
  · refine wt_m ?_
    have e : (Txt.mul (Str.ofString "ab") 1500).cps.size = 3000 := l1500
    simp only [PyData.weightAll, PyData.weight, e]
    decide
  · simp only [isMsg]
    rw [show isName (.str (Str.ofString "a")) = true by decide +kernel, show isName (.str (Str.ofString "b")) = true by decide +kernel, show isNT (.tuple [.str (Str.ofString "m")]) = true by decide +kernel, show isSubj (.str (Txt.mul (Str.ofString "ab") 1500)) = true from subj_ab 1500]
    rfl
theorem msg2 : Wt (.tuple [.str (Str.ofString "a"), .str (Str.ofString "b"), .str (Txt.mul (Str.ofString "ab") 600 ++ Str.ofString "\n"), .tuple []]) ∧ isMsg (.tuple [.str (Str.ofString "a"), .str (Str.ofString "b"), .str (Txt.mul (Str.ofString "ab") 600 ++ Str.ofString "\n"), .tuple []]) = false := by
  constructor
  · refine wt_m ?_
    have e : (Txt.mul (Str.ofString "ab") 600 ++ Str.ofString "\n").cps.size = 1201 := by
      have := len_app (Txt.mul (Str.ofString "ab") 600) (Str.ofString "\n")
      rw [l600] at this
      exact this
    simp only [PyData.weightAll, PyData.weight, e]
    decide
  · simp only [isMsg]
    rw [subj_app, show isSubj (.str (Str.ofString "\n")) = false by decide +kernel, Bool.and_false, Bool.and_false, Bool.false_and]
structure SOk (n : Nat) (x : Str) : Prop where
  len : x.cps.toList.length ≤ n
  cp : ∀ c ∈ x.cps.toList, c < 16 ^ 8
theorem SOk.app {n m : Nat} {x y : Str} (a : SOk n x) (b : SOk m y) : SOk (n + m) (x ++ y) := ⟨by rw [tl_app, List.length_append]; exact Nat.add_le_add a.len b.len, fun c hc => by
  rw [tl_app] at hc
  exact (List.mem_append.mp hc).elim (a.cp c) (b.cp c)⟩
theorem SOk.join : ∀ {ys : List Str}, (∀ y ∈ ys, SOk 1 y) → SOk ys.length (Str.join (Str.ofString "") ys)
  | [], _ => ⟨Nat.le_refl 0, fun c hc => absurd hc List.not_mem_nil⟩
  | [x], h => h x List.mem_cons_self
  | x :: y :: r, h => by
    have ih := SOk.join (ys := y :: r) fun z hz => h z (List.mem_cons_of_mem _ hz)
    have e : SOk 0 (Str.ofString "") := ⟨Nat.le_refl 0, fun c hc => absurd hc List.not_mem_nil⟩
    have q := ((h x List.mem_cons_self).app e).app ih
    show SOk ((y :: r).length + 1) (x ++ Str.ofString "" ++ Str.join (Str.ofString "") (y :: r))
    rw [Nat.add_comm]
    exact q
theorem SOk.gd {n : Nat} {x : Str} (a : SOk n x) (h : n ≤ 100) : Gd 100 1 (.str x) := ⟨by simp only [PyData.leavesShort]; exact List.all_eq_true.mpr fun c hc => decide_eq_true (a.cp c hc), by simp only [PyData.showable], by
  simp only [PyData.weight]
  have := a.len
  rw [Array.length_toList] at this
  omega, by simp only [PyData.depth]; decide⟩
def gdB (d : PyData) : Bool := d.leavesShort 64 && d.showable && decide (d.weight ≤ 100) && decide (d.depth ≤ 1)
theorem gd_chk {L : List PyData} (e : L.all gdB = true) {d : PyData} (h : d ∈ L) : Gd 100 1 d := by
  have q := List.all_eq_true.mp e d h
  unfold gdB at q
  rw [Bool.and_eq_true, Bool.and_eq_true, Bool.and_eq_true] at q
  exact ⟨q.1.1.1, q.1.1.2, of_decide_eq_true q.1.2, of_decide_eq_true q.2⟩
theorem gd4 {a b c d : PyData} (ga : Gd 100 1 a) (gb : Gd 100 1 b) (gc : Gd 100 1 c) (gd : Gd 100 1 d) : Gd 1000 2 (.tuple [a, b, c, d]) := by
  have mem : ∀ (p : PyData → Prop), p a → p b → p c → p d → ∀ x ∈ [a, b, c, d], p x := fun p pa pb pc pd x hx => by
    rcases List.mem_cons.mp hx with e | hx
    · rw [e]; exact pa
    rcases List.mem_cons.mp hx with e | hx
    · rw [e]; exact pb
    rcases List.mem_cons.mp hx with e | hx
    · rw [e]; exact pc
    rw [List.mem_singleton.mp hx]
    exact pd
  refine GdA.tup ⟨mem _ ga.lf gb.lf gc.lf gd.lf, mem _ ga.sh gb.sh gc.sh gd.sh, ?_, mem _ (Nat.succ_le_succ ga.dp) (Nat.succ_le_succ gb.dp) (Nat.succ_le_succ gc.dp) (Nat.succ_le_succ gd.dp)⟩ (by decide)
  simp only [PyData.weightAll]
  have := ga.wt
  have := gb.wt
  have := gc.wt
  have := gd.wt
  omega
theorem menu_ok {x : PyData} (h : x ∈ [PyData.str (Str.ofString "a"), .str (Str.ofString " "), .str (Str.ofString "~"), .str (Str.ofString "Z"), .str (Str.ofString "9")]) : ∃ y, x = .str y ∧ SOk 1 y := by
  have e : ([PyData.str (Str.ofString "a"), .str (Str.ofString " "), .str (Str.ofString "~"), .str (Str.ofString "Z"), .str (Str.ofString "9")].all fun d => match d with | .str y => decide (y.cps.toList.length ≤ 1) && y.cps.toList.all (fun c => decide (c < 16 ^ 8)) | _ => false) = true := by decide +kernel
  have q := List.all_eq_true.mp e x h
  cases x with
  | str y =>
    rw [Bool.and_eq_true] at q
    exact ⟨y, rfl, of_decide_eq_true q.1, fun c hc => of_decide_eq_true (List.all_eq_true.mp q.2 c hc)⟩
  | _ => exact Bool.noConfusion q
theorem strs_of : ∀ {zs : List PyData}, (∀ z ∈ zs, ∃ y, z = .str y ∧ SOk 1 y) → ∃ ys : List Str, zs = ys.map .str ∧ ys.length = zs.length ∧ ∀ y ∈ ys, SOk 1 y
  | [], _ => ⟨[], rfl, rfl, fun _ h => absurd h List.not_mem_nil⟩
  | z :: zs, h => by
    obtain ⟨y, rfl, sy⟩ := h z List.mem_cons_self
    obtain ⟨ys, rfl, e, hs⟩ := strs_of fun z hz => h z (List.mem_cons_of_mem _ hz)
    exact ⟨y :: ys, rfl, by rw [List.length_cons, List.length_cons, e], fun u hu => by
      rcases List.mem_cons.mp hu with e | m
      · rw [e]; exact sy
      · exact hs u m⟩
theorem sum1 : ∀ {ys : List Str}, (∀ y ∈ ys, SOk 1 y) → (ys.map (·.length)).sum ≤ ys.length
  | [], _ => Nat.le_refl 0
  | y :: ys, h => by
    rw [List.map_cons, List.sum_cons, List.length_cons]
    have a := (h y List.mem_cons_self).len
    rw [Array.length_toList] at a
    have b := sum1 fun z hz => h z (List.mem_cons_of_mem _ hz)
    have : y.length ≤ 1 := a
    omega
theorem rng_len (lo : Int) (n : Nat) : (rngD lo n).length = n := by
  unfold rngD
  rw [List.length_map, List.length_range]
theorem take_cap (xs : List PyData) (i : Nat) : (xs.take i).length ≤ xs.length := by rw [List.length_take]; omega
theorem drop_cap (xs : List PyData) (i : Nat) : (xs.drop i).length ≤ xs.length := by rw [List.length_drop]; omega
def gAny : FL := fun ds R => ds = [.well] ∧ ∀ d ∈ anyL, R (.p d)
def gTold : FL := fun ds R => ∃ d, ds = [.p d] ∧ Gd 4000 90 d ∧ R (.p (.bool true))
def fAnyG : FL := fun ds R => False
def fNoG : FL := fun _ _ => False
theorem fnNo {P : Program} {w : World} {K : PySem.W.Frag} {mg : Str → Option Value} {base : Heap} {k : Nat} {f : Addr} {fd : FuncData} {ps : List Str} {κ : Ky} : FnG P w K mg base CX0 k f fd ps (spD κ fNoG) := ⟨fun vs H Q E ⟨ds, R, P, dm, r, h, k⟩ => h.elim, fun A gd o s H a us vs Q E r e b v ⟨ds, R, P, dm, r, h, k⟩ => h.elim⟩
def neU (d : PyData) : Bool := match d with | .tuple xs => !xs.isEmpty | _ => false
def leL (d : PyData) (k : Nat) : Bool := match d with | .str x => decide (x.length ≤ k) | _ => false
def isSing (x p : PyData) : Bool :=
  if eqW x "from" = true then isNT p && neU p
  else if eqW x "marked" = true then isName p
  else if eqW x "is" = true then isSubj p && leL p 8
  else inW x ["contains", "begins", "ends"] && isTxt p
def gSing : FL := fun ds R => ∃ x p, ds = [.p x, .p p] ∧ Wt p ∧ R (.p (.bool (isSing x p)))
def isCW : Nat → PyData → Bool
  | 0, _ => false
  | n + 1, .tuple [w, p] => if eqW w "not" = true then isCW n p
    else if inW w ["all", "any"] = true then (match p with | .tuple xs => decide (xs.length ≤ 8) && xs.all (isCW n) | _ => false)
    else isSing w p
  | _ + 1, _ => false
def isAC (n : Nat) (p : PyData) : Bool := match p with | .tuple xs => decide (xs.length ≤ 8) && xs.all (isCW n) | _ => false
def gCW (n : Nat) : FL := fun ds R => ∃ v, ds = [.p v, .p (.int n)] ∧ Wt v ∧ R (.p (.bool (isCW n v)))
def gAC (n : Nat) : FL := fun ds R => ∃ v, ds = [.p v, .p (.int n)] ∧ Wt v ∧ R (.p (.bool (isAC n v)))
theorem isCW_not {n : Nat} {xs : List PyData} (h : xs.length ≠ 2) : isCW (n + 1) (.tuple xs) = false := by
  match xs, h with
  | [], _ => rfl
  | [_], _ => rfl
  | [_, _], h => exact absurd rfl h
  | _ :: _ :: _ :: _, _ => rfl
def isNTn (d : PyData) : Bool := match d with | .tuple xs => !xs.isEmpty && (xs.all isName && risB xs) | _ => false
def gText : FL := fun ds R => ds = [.well] ∧ ∀ y, SOk 8 y → R (.p (.str y))
def gNames : FL := fun ds R => ∃ xs : List Str, ds = [.well, .p (.list (xs.map .str))] ∧ 0 < xs.length ∧ xs.length < 1000 ∧ (∀ x ∈ xs, SOk 4 x) ∧ ∀ zs : List Str, zs.length ≤ 3 → (∀ z ∈ zs, SOk 4 z) → R (.p (.tuple (zs.map .str)))
theorem SOk.up {n m : Nat} {x : Str} (a : SOk n x) (h : n ≤ m) : SOk m x := ⟨Nat.le_trans a.len h, a.cp⟩
theorem many_ok {m : PyData} (h : m ∈ [PyData.int 0, .int 0, .int 1, .int 1, .int 2, .int 4, .int 6, .int 7]) : ∃ k : Nat, m = .int k ∧ k ≤ 7 := by
  rcases List.mem_cons.mp h with e | h
  · exact ⟨0, e, by decide⟩
  rcases List.mem_cons.mp h with e | h
  · exact ⟨0, e, by decide⟩
  rcases List.mem_cons.mp h with e | h
  · exact ⟨1, e, by decide⟩
  rcases List.mem_cons.mp h with e | h
  · exact ⟨1, e, by decide⟩
  rcases List.mem_cons.mp h with e | h
  · exact ⟨2, e, by decide⟩
  rcases List.mem_cons.mp h with e | h
  · exact ⟨4, e, by decide⟩
  rcases List.mem_cons.mp h with e | h
  · exact ⟨6, e, by decide⟩
  exact ⟨7, List.mem_singleton.mp h, by decide⟩
theorem menu4_ok {x : PyData} (h : x ∈ [PyData.str (Str.ofString "a"), .str (Str.ofString "b"), .str (Str.ofString "a"), .str (Str.ofString " "), .str (Str.ofString "~")]) : ∃ y, x = .str y ∧ SOk 1 y := by
  have e : ([PyData.str (Str.ofString "a"), .str (Str.ofString "b"), .str (Str.ofString "a"), .str (Str.ofString " "), .str (Str.ofString "~")].all fun d => match d with | .str y => decide (y.cps.toList.length ≤ 1) && y.cps.toList.all (fun c => decide (c < 16 ^ 8)) | _ => false) = true := by decide +kernel
  have q := List.all_eq_true.mp e x h
  cases x with
  | str y =>
    rw [Bool.and_eq_true] at q
    exact ⟨y, rfl, of_decide_eq_true q.1, fun c hc => of_decide_eq_true (List.all_eq_true.mp q.2 c hc)⟩
  | _ => exact Bool.noConfusion q
theorem strs_of4 {n : Nat} : ∀ {zs : List PyData}, (∀ z ∈ zs, ∃ y, z = .str y ∧ SOk n y) → ∃ ys : List Str, zs = ys.map .str ∧ ys.length = zs.length ∧ ∀ y ∈ ys, SOk n y
  | [], _ => ⟨[], rfl, rfl, fun _ h => absurd h List.not_mem_nil⟩
  | z :: zs, h => by
    obtain ⟨y, rfl, sy⟩ := h z List.mem_cons_self
    obtain ⟨ys, rfl, e, hs⟩ := strs_of4 fun z hz => h z (List.mem_cons_of_mem _ hz)
    exact ⟨y :: ys, rfl, by rw [List.length_cons, List.length_cons, e], fun u hu => by
      rcases List.mem_cons.mp hu with e | m
      · rw [e]; exact sy
      · exact hs u m⟩
theorem ris_len : ∀ {zs ks : List Str}, RisS zs → (∀ z ∈ zs, z ∈ ks) → zs.length ≤ ks.length
  | [], _, _, _ => Nat.zero_le _
  | z :: zs, ks, hr, h => by
    obtain ⟨h1, h2⟩ := List.pairwise_cons.mp hr
    have hz := h z List.mem_cons_self
    have ih := ris_len (zs := zs) (ks := ks.erase z) h2 fun y hy => by
      have ne : y ≠ z := fun e => by
        subst e
        exact absurd (h1 y hy) (Std.lt_irrefl)
      exact (List.mem_erase_of_ne ne).mpr (h y (List.mem_cons_of_mem _ hy))
    rw [List.length_erase_of_mem hz] at ih
    have : 0 < ks.length := List.length_pos_of_mem hz
    rw [List.length_cons]
    omega
def mn9 (j : Int) : Int := if j < 9 then j else 9
def txB (lo : Nat) (p : PyData) : Bool := isSubj p && (match p with | .str x => decide (lo ≤ x.length) && decide (x.length ≤ 8) | _ => false)
def mxL (l : List Int) : Int := l.foldr max 0
def deepF : Nat → PyData → Int
  | 0, _ => 9
  | n + 1, .tuple [.str w, p] =>
    if eqW (.str w) "from" = true then (if isNTn p = true then 1 else 9)
    else if eqW (.str w) "marked" = true then (if isName p = true then 1 else 9)
    else if inW (.str w) ["contains", "begins", "ends", "is"] = true then (if txB (if eqW (.str w) "is" = true then 0 else 1) p = true then 1 else 9)
    else if eqW (.str w) "not" = true then mn9 (1 + deepF n p)
    else if inW (.str w) ["all", "any"] = true then (match p with | .tuple xs => if 8 < xs.length then 9 else mn9 (1 + mxL (xs.map (deepF n))) | _ => 9)
    else 9
  | _ + 1, _ => 9
def gDeep (n : Nat) : FL := fun ds R => ∃ d, ds = [.p d] ∧ d.depth ≤ n ∧ Wt d ∧ R (.p (.int (deepF n d)))
theorem mx_le {l : List Int} {m : Int} (h0 : 0 ≤ m) : mxL l ≤ m ↔ ∀ y ∈ l, y ≤ m := by
  unfold mxL
  induction l with
  | nil => simp [h0]
  | cons a l ih =>
    rw [List.foldr_cons, Int.max_le, ih]
    simp
theorem mx_mem (l : List Int) : mxL l = 0 ∨ mxL l ∈ l := by
  unfold mxL
  induction l with
  | nil => exact .inl rfl
  | cons a l ih =>
    rw [List.foldr_cons]
    rcases Int.le_total a (l.foldr max 0) with h | h
    · rw [Int.max_eq_right h]
      exact ih.imp id fun z => List.mem_cons_of_mem _ z
    · rw [Int.max_eq_left h]
      exact .inr List.mem_cons_self
theorem mx_pos (l : List Int) : 0 ≤ mxL l := by
  unfold mxL
  induction l with
  | nil => exact Int.le_refl 0
  | cons a l ih => rw [List.foldr_cons]; exact Int.le_trans ih (Int.le_max_right _ _)
theorem mx_of {l : List Int} {m : Int} (hm : m ∈ (0 :: l)) (hle : ∀ y ∈ (0 :: l), y ≤ m) : m = mxL l := by
  refine Int.le_antisymm ?_ ?_
  · rcases List.mem_cons.mp hm with e | h
    · rw [e]; exact mx_pos l
    · exact (mx_le (mx_pos l)).mp (Int.le_refl _) m h
  · exact (mx_le (hle 0 List.mem_cons_self)).mpr fun y hy => hle y (List.mem_cons_of_mem _ hy)
theorem dp_tup {n : Nat} {xs : List PyData} {x : PyData} (h : (PyData.tuple xs).depth ≤ n + 1) (m : x ∈ xs) : x.depth ≤ n := by
  rw [show (PyData.tuple xs).depth = PyData.depthAll xs + 1 by simp only [PyData.depth]] at h
  exact dp_all.mp (show PyData.depthAll xs ≤ n by omega) x m
theorem d19 {b : Bool} {m : Nat} (h : m + 1 ≤ 8) : decide ((if b = true then (1 : Int) else 9) ≤ ((m + 1 : Nat) : Int)) = b := by
  cases b with
  | true => exact decide_eq_true (by rw [if_pos rfl]; omega)
  | false => exact decide_eq_false (by rw [if_neg Bool.false_ne_true]; omega)
theorem d9 {m : Nat} (h : m + 1 ≤ 8) : decide ((9 : Int) ≤ ((m + 1 : Nat) : Int)) = false := decide_eq_false (by omega)
theorem dmn {m : Nat} {x : Int} (h : m + 1 ≤ 8) : decide (mn9 (1 + x) ≤ ((m + 1 : Nat) : Int)) = decide (x ≤ (m : Int)) := by
  rw [decide_eq_decide]
  unfold mn9
  split <;> omega
theorem deep_pos : ∀ (n : Nat) (d : PyData), 1 ≤ deepF n d
  | 0, d => by show (1 : Int) ≤ 9; decide
  | n + 1, d => by
    unfold deepF
    split
    · cases ‹n + 1 = 0›
    · rename_i n' w p e
      cases e
      split
      · split <;> decide
      · split
        · split <;> decide
        · split
          · split <;> first | decide | (split <;> decide)
          · split
            · have := deep_pos n p
              unfold mn9
              split <;> omega
            · split
              · split
                · split
                  · decide
                  · have := mx_pos (List.map (deepF n) ‹_›)
                    unfold mn9
                    split <;> omega
                · decide
              · decide
    · decide
theorem txt_tx {p : PyData} : isTxt p = txB 1 p := by
  cases p with
  | str x => simp only [isTxt, txB, Bool.and_assoc]
  | _ => rfl
theorem is_tx {p : PyData} : (isSubj p && leL p 8) = txB 0 p := by
  cases p with
  | str x => simp only [leL, txB, Nat.zero_le, decide_true, Bool.true_and]
  | _ => rfl
theorem ntn {p : PyData} : (isNT p && neU p) = isNTn p := by
  cases p with
  | tuple xs =>
    simp only [isNT, neU, isNTn]
    cases xs.isEmpty <;> simp
  | _ => rfl
theorem deep_eq : ∀ (m n : Nat) (d : PyData), m ≤ 8 → d.depth ≤ n → isCW m d = decide (deepF n d ≤ (m : Int))
  | 0, n, d, _, _ => by
    have := deep_pos n d
    rw [decide_eq_false (by omega)]
    unfold isCW
    rfl
  | m + 1, n, d, h8, hd => by
    cases d with
    | tuple xs =>
      cases n with
      | zero => exact (no_depth hd).elim
      | succ n =>
        by_cases h2 : xs.length = 2
        · match xs, h2 with
          | [x, p], _ =>
            have hp : p.depth ≤ n := dp_tup hd (by simp)
            cases x with
            | str w =>
              unfold isCW deepF
              have c1 := @deep_eq m n p (by omega) hp
              have lit : ∀ y : Str, eqW (.str w) y = true → w = y := fun y e => of_decide_eq_true e
              have inL : ∀ ys : List Str, inW (.str w) ys = true → w ∈ ys := fun ys e => by
                obtain ⟨y, hy, q⟩ := List.any_eq_true.mp e
                rw [lit y q]
                exact hy
              by_cases q1 : eqW (.str w) "from" = true
              · have e := lit _ q1
                subst e
                have f1 : eqW (.str (Str.ofString "from")) "not" = false := by decide +kernel
                have f2 : inW (.str (Str.ofString "from")) ["all", "any"] = false := by decide +kernel
                simp only [f1, f2, q1, Bool.false_eq_true, if_false, if_true, isSing, ntn]
                exact (d19 h8).symm
              · by_cases q2 : eqW (.str w) "marked" = true
                · have e := lit _ q2
                  subst e
                  have f1 : eqW (.str (Str.ofString "marked")) "not" = false := by decide +kernel
                  have f2 : inW (.str (Str.ofString "marked")) ["all", "any"] = false := by decide +kernel
                  simp only [f1, f2, q1, q2, Bool.false_eq_true, if_false, if_true, isSing]
                  exact (d19 h8).symm
                · by_cases q3 : inW (.str w) ["contains", "begins", "ends", "is"] = true
                  · have hw := inL _ q3
                    by_cases q4 : eqW (.str w) "is" = true
                    · have e := lit _ q4
                      subst e
                      have f1 : eqW (.str (Str.ofString "is")) "not" = false := by decide +kernel
                      have f2 : inW (.str (Str.ofString "is")) ["all", "any"] = false := by decide +kernel
                      simp only [f1, f2, q1, q2, q3, q4, Bool.false_eq_true, if_false, if_true, isSing, is_tx]
                      exact (d19 h8).symm
                    · have f3 : inW (.str w) ["contains", "begins", "ends"] = true ∧ eqW (.str w) "not" = false ∧ inW (.str w) ["all", "any"] = false := by
                        rcases List.mem_cons.mp hw with e | hw
                        · subst e; exact ⟨by decide +kernel, by decide +kernel, by decide +kernel⟩
                        rcases List.mem_cons.mp hw with e | hw
                        · subst e; exact ⟨by decide +kernel, by decide +kernel, by decide +kernel⟩
                        rcases List.mem_cons.mp hw with e | hw
                        · subst e; exact ⟨by decide +kernel, by decide +kernel, by decide +kernel⟩
                        · exact absurd (decide_eq_true (List.mem_singleton.mp hw)) q4
                      simp only [f3.1, f3.2.1, f3.2.2, q1, q2, q3, q4, Bool.false_eq_true, if_false, if_true, isSing, Bool.true_and, txt_tx]
                      exact (d19 h8).symm
                  · by_cases q4 : eqW (.str w) "not" = true
                    · simp only [q1, q2, q3, q4, Bool.false_eq_true, if_false, if_true]
                      rw [dmn h8]
                      exact c1
                    · by_cases q5 : inW (.str w) ["all", "any"] = true
                      · simp only [q1, q2, q3, q4, q5, Bool.false_eq_true, if_false, if_true]
                        cases p with
                        | tuple ys =>
                          show (decide (ys.length ≤ 8) && ys.all (isCW m)) = decide ((if 8 < ys.length then (9 : Int) else mn9 (1 + mxL (ys.map (deepF n)))) ≤ _)
                          by_cases q6 : 8 < ys.length
                          · rw [if_pos q6, d9 h8, decide_eq_false (by omega), Bool.false_and]
                          · rw [if_neg q6, decide_eq_true (show ys.length ≤ 8 by omega), Bool.true_and, dmn h8, Bool.eq_iff_iff, List.all_eq_true, decide_eq_true_iff, mx_le (by omega)]
                            have hy : ∀ y ∈ ys, y.depth ≤ n := fun y hy => by
                              rw [show (PyData.tuple ys).depth = PyData.depthAll ys + 1 by simp only [PyData.depth]] at hp
                              exact dp_all.mp (show PyData.depthAll ys ≤ n by omega) y hy
                            constructor
                            · intro h z hz
                              obtain ⟨y, hy2, rfl⟩ := List.mem_map.mp hz
                              have := h y hy2
                              rw [deep_eq m n y (by omega) (hy y hy2)] at this
                              exact of_decide_eq_true this
                            · intro h y hy2
                              rw [deep_eq m n y (by omega) (hy y hy2)]
                              exact decide_eq_true (h _ (List.mem_map.mpr ⟨y, hy2, rfl⟩))
                        | _ => exact (d9 h8).symm
                      · have f3 : inW (.str w) ["contains", "begins", "ends"] = false ∧ eqW (.str w) "is" = false := by
                          have q3' : (eqW (.str w) "contains" || (eqW (.str w) "begins" || (eqW (.str w) "ends" || (eqW (.str w) "is" || false)))) = false := Bool.eq_false_iff.mpr q3
                          rw [Bool.or_eq_false_iff, Bool.or_eq_false_iff, Bool.or_eq_false_iff, Bool.or_eq_false_iff] at q3'
                          obtain ⟨a1, a2, a3, a4, _⟩ := q3'
                          refine ⟨?_, a4⟩
                          show (eqW (.str w) "contains" || (eqW (.str w) "begins" || (eqW (.str w) "ends" || false))) = false
                          rw [a1, a2, a3]
                          rfl
                        simp only [f3.1, f3.2, q1, q2, q3, q4, q5, Bool.false_eq_true, if_false, isSing, Bool.false_and]
                        exact (d9 h8).symm
            | _ => exact (d9 h8).symm
        · rw [isCW_not h2]
          have e : deepF (n + 1) (.tuple xs) = 9 := by
            match xs, h2 with
            | [], _ => rfl
            | [x], _ => cases x <;> rfl
            | [_, _], h => exact absurd rfl h
            | x :: _ :: _ :: _, _ => cases x <;> rfl
          rw [e]
          exact (d9 h8).symm
    | _ =>
      first
        | (cases n <;> exact (d9 h8).symm)
        | exact (d9 h8).symm
def Wc : Nat → Nat
  | 0 => 21
  | n + 1 => 3 * Wc n + 8
def gCond (n : Nat) : FL := fun ds R => ds = [.well, .p (.int ((n + 1 : Nat) : Int))] ∧ ∀ d, Gd (Wc n) (2 * n + 2) d → (∃ xs, d = .tuple xs) → R (.p d)
theorem gd2 {a b m : Nat} {x y : PyData} (gx : Gd a m x) (gy : Gd b m y) : Gd (a + b + 2) (m + 1) (.tuple [x, y]) := by
  have mem : ∀ (p : PyData → Prop), p x → p y → ∀ z ∈ [x, y], p z := fun p px py z hz => by
    rcases List.mem_cons.mp hz with e | hz
    · rw [e]; exact px
    · rw [List.mem_singleton.mp hz]; exact py
  refine GdA.tup ⟨mem _ gx.lf gy.lf, mem _ gx.sh gy.sh, ?_, mem _ (Nat.succ_le_succ gx.dp) (Nat.succ_le_succ gy.dp)⟩ (by omega)
  simp only [PyData.weightAll]
  have := gx.wt
  have := gy.wt
  omega
theorem SOk.gs {n : Nat} {x : Str} (a : SOk n x) : Gd n 0 (.str x) := ⟨by simp only [PyData.leavesShort]; exact List.all_eq_true.mpr fun c hc => decide_eq_true (a.cp c hc), by simp only [PyData.showable], by
  simp only [PyData.weight]
  have := a.len
  rw [Array.length_toList] at this
  omega, by simp only [PyData.depth]; decide⟩
theorem wt_all {W : Nat} : ∀ {xs : List PyData}, (∀ x ∈ xs, x.weight ≤ W) → PyData.weightAll xs ≤ xs.length * (W + 1)
  | [], _ => by simp only [PyData.weightAll]; exact Nat.zero_le _
  | x :: xs, h => by
    have a := h x List.mem_cons_self
    have b := wt_all fun y hy => h y (List.mem_cons_of_mem _ hy)
    rw [show PyData.weightAll (x :: xs) = x.weight + 1 + PyData.weightAll xs by simp only [PyData.weightAll], List.length_cons, Nat.succ_mul]
    omega
theorem gdMany {W m k : Nat} {xs : List PyData} (h : ∀ x ∈ xs, Gd W m x) (hk : xs.length ≤ k) : GdA (k * (W + 1)) (m + 1) xs := ⟨fun x hx => (h x hx).lf, fun x hx => (h x hx).sh, Nat.le_trans (wt_all fun x hx => (h x hx).wt) (Nat.mul_le_mul hk (Nat.le_refl _)), fun x hx => Nat.succ_le_succ (h x hx).dp⟩
theorem sok {n : Nat} {x : Str} (h : (decide (x.cps.toList.length ≤ n) && x.cps.toList.all fun c => decide (c < 16 ^ 8)) = true) : SOk n x := by
  rw [Bool.and_eq_true] at h
  exact ⟨of_decide_eq_true h.1, fun c hc => of_decide_eq_true (List.all_eq_true.mp h.2 c hc)⟩
theorem sok_all {n : Nat} {L : List PyData} (h : (L.all fun d => match d with | .str x => decide (x.cps.toList.length ≤ n) && x.cps.toList.all (fun c => decide (c < 16 ^ 8)) | _ => false) = true) {d : PyData} (hd : d ∈ L) : ∃ y, d = .str y ∧ SOk n y := by
  have q := List.all_eq_true.mp h d hd
  cases d with
  | str y => exact ⟨y, rfl, sok q⟩
  | _ => exact Bool.noConfusion q
theorem leaf2 {a b : Nat} {x y : Str} (hx : SOk a x) (hy : SOk b y) (h : a + b + 2 ≤ 21) : Gd 21 2 (.tuple [.str x, .str y]) := (gd2 hx.gs hy.gs).up h (by decide)
theorem leaf_from {zs : List Str} (lz : zs.length ≤ 3) (hz : ∀ z ∈ zs, SOk 4 z) : Gd 21 2 (.tuple [.str (Str.ofString "from"), .tuple (zs.map .str)]) := by
  have g : Gd 15 1 (.tuple (zs.map .str)) := GdA.tup (gdMany (W := 4) (m := 0) (k := 3) (fun x hx => by
    obtain ⟨y, hy, rfl⟩ := List.mem_map.mp hx
    exact (hz y hy).gs) (by rw [List.length_map]; exact lz)) (by decide)
  exact (gd2 ((sok (n := 4) (by decide +kernel)).gs.up (Nat.le_refl _) (Nat.zero_le 1)) g).up (by decide) (by decide)
theorem names4_ok : ∀ x ∈ (["ann", "bob", "box", "team"] : List Str), SOk 4 x := fun x hx => by
  rcases List.mem_cons.mp hx with e | hx
  · rw [e]; exact sok (by decide +kernel)
  rcases List.mem_cons.mp hx with e | hx
  · rw [e]; exact sok (by decide +kernel)
  rcases List.mem_cons.mp hx with e | hx
  · rw [e]; exact sok (by decide +kernel)
  rw [List.mem_singleton.mp hx]
  exact sok (by decide +kernel)
theorem wc_le : ∀ n, 21 ≤ Wc n
  | 0 => Nat.le_refl _
  | n + 1 => by
    have := wc_le n
    show 21 ≤ 3 * Wc n + 8
    omega
def any4 : List PyData := [.none, .bool true, .int 0, .int 1, .str (Str.ofString ""), .str (Str.ofString "a"), .str (Str.ofString "all"), .str (Str.ofString "from"), .str (Str.ofString "is"), .tuple [], .tuple [.str (Str.ofString "a")], .list [.str (Str.ofString "a")], .tuple [.str (Str.ofString "b"), .str (Str.ofString "a")], .dict [], .str (Str.ofString "123456789"), .str (Str.ofString "a\n"), .tuple [.str (Str.ofString "all"), .tuple []], .tuple [.str (Str.ofString "any"), .tuple []], .tuple [.str (Str.ofString "not"), .tuple []], .tuple [.str (Str.ofString "is"), .str (Str.ofString "")], .tuple [.str (Str.ofString "begins"), .str (Str.ofString "")], .tuple [.str (Str.ofString "from"), .tuple []], .tuple [.str (Str.ofString "marked"), .str (Str.ofString "A")], .tuple [.str (Str.ofString "all"), .tuple (List.replicate (Int.toNat 8) [.tuple [.str (Str.ofString "is"), .str (Str.ofString "a")]]).flatten], .tuple [.str (Str.ofString "all"), .tuple (List.replicate (Int.toNat 9) [.tuple [.str (Str.ofString "is"), .str (Str.ofString "a")]]).flatten], .tuple [.str (Str.ofString "never")], .tuple [.str (Str.ofString "all")]]
theorem any4_gd {d : PyData} (h : d ∈ any4) : Gd 80 3 d := by
  have e : (any4.all fun d => d.leavesShort 64 && d.showable && decide (d.weight ≤ 80) && decide (d.depth ≤ 3)) = true := by decide +kernel
  have q := List.all_eq_true.mp e d h
  rw [Bool.and_eq_true, Bool.and_eq_true, Bool.and_eq_true] at q
  exact ⟨q.1.1.1, q.1.1.2, of_decide_eq_true q.1.2, of_decide_eq_true q.2⟩
def gAny4 : FL := fun ds R => ds = [.well] ∧ ∀ d ∈ any4, R (.p d)
def gBent4 (n : Nat) : FL := fun ds R => ∃ (xs : List PyData) (m : Nat), ds = [.well, .p (.tuple xs)] ∧ Gd m n (.tuple xs) ∧ m ≤ 3000 ∧ ∀ d, Gd (m + 90) (n + 3) d → contD d → R (.p d)
theorem FnG.ex {P : Program} {w : World} {K : PySem.W.Frag} {mg : Str → Option Value} {base : Heap} {k : Nat} {f : Addr} {fd : FuncData} {ps : List Str} {κ : Ky} {g : Nat → FL} {p : Nat → Prop} (len : ∀ vs H Q E, spD κ (fun ds R => ∃ i, p i ∧ g i ds R) vs H Q E → vs.length = ps.length) (F : ∀ i, p i → FnG P w K mg base CX0 k f fd ps (spD κ (g i))) : FnG P w K mg base CX0 k f fd ps (spD κ fun ds R => ∃ i, p i ∧ g i ds R) :=
  ⟨len, fun A gd o s H a us vs Q E r e b v ⟨ds, R, P, dm, rv, ⟨i, hi, h⟩, kk⟩ => (F i hi).go A gd o s H a us vs Q E r e b v ⟨ds, R, P, dm, rv, h, kk⟩⟩
def gCondA : FL := fun ds R => ∃ n, n ≤ 4 ∧ gCond n ds R
theorem wc4 : ∀ n, n ≤ 4 → Wc n ≤ 2021
  | 0, _ => by decide
  | 1, _ => by decide
  | 2, _ => by decide
  | 3, _ => by decide
  | 4, _ => by decide
  | n + 5, h => absurd h (by omega)
/-- for, counted -/
theorem for_ix {E : DE} {g : TDG} {tb : TDS} (I : Nat → Dn → Prop) : ∀ (ds : List PyData) (i : Nat) (δ : Dn), I i δ → (∀ d ∈ ds, ∀ j δ', I j δ' → ∀ (E' : DE), E'.rt = E.rt → (∀ δ2, I (j + 1) δ2 → E'.nx δ2) → g (.p d) δ' fun δ2 => tb E' δ2) → (∀ δ', I (i + ds.length) δ' → E.nx δ') → forL E g tb ds δ
  | [], i, δ, h, _, he => he δ h
  | d :: ds, i, δ, h, hb, he => hb d List.mem_cons_self i δ h _ rfl (fun δ2 h2 => for_ix I ds (i + 1) δ2 h2 (fun d' m => hb d' (List.mem_cons_of_mem _ m)) fun δ3 h3 => he δ3 (by rw [List.length_cons, Nat.add_comm ds.length 1, ← Nat.add_assoc]; exact h3))
def nest : Nat → PyData
  | 0 => .tuple [.str (Str.ofString "is"), .str (Str.ofString "")]
  | n + 1 => .tuple [.str (Str.ofString "not"), nest n]
theorem shows_b (b : Bool) : Shows (.bool b) := Gd.shows (n := 100) (m := 5) ⟨rfl, rfl, by show 0 ≤ 100; decide, by show 0 ≤ 5; decide⟩ (by decide) (by decide)
theorem deep5 {d : PyData} (h : d.depth ≤ 20) : decide (deepF 20 d < 5) = isCW 4 d := by
  rw [deep_eq 4 20 d (by decide) h, decide_eq_decide]
  omega
theorem eqv_bools {as bs : List Bool} : PyData.eqv (.list (as.map .bool)) (.list (bs.map .bool)) = decide (as = bs) := by
  simp only [PyData.eqv]
  induction as generalizing bs with
  | nil => cases bs <;> rfl
  | cons a as ih =>
    cases bs with
    | nil => rfl
    | cons b bs =>
      simp only [List.map_cons, PyData.eqvAll, PyData.eqv, ih]
      cases a <;> cases b <;> simp
theorem plain_bools (as : List Bool) : (PyData.list (as.map .bool)).plain = true := by
  simp only [PyData.plain]
  induction as with
  | nil => rfl
  | cons a as ih => simp only [List.map_cons, PyData.plainAll, PyData.plain, ih, Bool.true_and]
theorem depth_bools (as : List Bool) : (PyData.list (as.map .bool)).depth = 1 := by
  simp only [PyData.depth]
  have : PyData.depthAll (as.map PyData.bool) = 0 := by
    induction as with
    | nil => rfl
    | cons a as ih => simp only [List.map_cons, PyData.depthAll, PyData.depth, ih, Nat.max_self]
  rw [this]
def cntF (c : PyData) : PyData := match c with
  | .int i => .tuple (List.replicate i.toNat [PyData.tuple [.str (Str.ofString "is"), .str (Str.ofString "a")]]).flatten
  | _ => .none
abbrev rep8 (i : Int) : PyData := cntF (.int i)
def JA (ns : List Int) (δ : Dn) : Prop := ∃ y1 y2 y3 y4 y5 y6 y7 y8 y9 y10 y11 y12 y13 y14 y15 y16 : Sl, δ = [.v (.scr ns), y1, y2, y3, y4, y5, y6, y7, y8, y9, y10, y11, y12, y13, y14, y15, y16]
def nms4 : List PyData := [.str (Str.ofString "abcdefghijkl"), .str (Str.ofString "abcdefghijklm"), .str (Str.ofString "a b"), .str (Str.ofString "")]
def JN (ns : List Int) (δ : Dn) : Prop := ∃ y1 y2 y3 y4 y5 y6 y7 y8 y9 y10 y11 y13 y14 y15 y16 : Sl, δ = [.v (.scr ns), y1, y2, y3, y4, y5, y6, y7, y8, y9, y10, y11, .v (.p (.list nms4)), y13, y14, y15, y16]
def nDeep : Nat → PyData
  | 0 => .tuple [.str (Str.ofString "is"), .str (Str.ofString "")]
  | n + 1 => .tuple [.str (Str.ofString "not"), nDeep n]
def JD (n : Nat) (ns : List Int) (δ : Dn) : Prop := ∃ y1 y2 y3 y4 y5 y6 y7 y8 y9 y10 y11 y12 y13 y14 y15 : Sl, δ = [.v (.scr ns), y1, y2, y3, y4, y5, y6, y7, y8, y9, y10, y11, y12, y13, y14, y15, .v (.p (nDeep n))]
theorem eqB {as bs : List Bool} {R : DV → Prop} (h : as = bs) (hR : R (.p (.bool false))) : fEqQ true (.p (.list (as.map .bool))) (.p (.list (bs.map .bool))) R := by
  subst h
  refine ⟨plain_bools as, plain_bools as, Nat.le_trans (Nat.min_le_right _ _) (by rw [depth_bools]; decide), ?_⟩
  rw [show PyData.eqv (.list (as.map .bool)) (.list (as.map .bool)) = true by rw [eqv_bools]; exact decide_eq_true rfl]
  exact hR
theorem for_nat {E : DE} {g : TDG} {tb : TDS} (I : Nat → Dn → Prop) : ∀ (ds : List PyData) (n : Nat) (δ : Dn), I n δ → (∀ d ∈ ds, ∀ i δ', I i δ' → ∀ (E' : DE), E'.rt = E.rt → (∀ δ2, I (i + 1) δ2 → E'.nx δ2) → g (.p d) δ' fun δ2 => tb E' δ2) → (∀ δ', I (n + ds.length) δ' → E.nx δ') → forL E g tb ds δ
  | [], n, δ, h, _, he => he δ h
  | d :: ds, n, δ, h, hb, he => hb d List.mem_cons_self n δ h _ rfl fun δ2 h2 => for_nat I ds (n + 1) δ2 h2 (fun d' m => hb d' (List.mem_cons_of_mem _ m)) fun δ' h' => he δ' (by rw [List.length_cons, show n + (ds.length + 1) = n + 1 + ds.length by omega]; exact h')
theorem two_ok (d : PyData) (hd : d ∈ [PyData.str (Str.ofString "all"), PyData.str (Str.ofString "any")]) : ∃ w : Str, d = .str w ∧ isCW 4 (.tuple [.str w, rep8 0]) = true ∧ isCW 4 (.tuple [.str w, rep8 8]) = true ∧ isCW 4 (.tuple [.str w, rep8 9]) = false ∧ Wt (.tuple [.str w, rep8 0]) ∧ Wt (.tuple [.str w, rep8 8]) ∧ Wt (.tuple [.str w, rep8 9]) := by
  rcases List.mem_cons.mp hd with e | hd
  · exact ⟨_, e, by decide +kernel, by decide +kernel, by decide +kernel, by decide +kernel, by decide +kernel, by decide +kernel⟩
  · exact ⟨_, List.mem_singleton.mp hd, by decide +kernel, by decide +kernel, by decide +kernel, by decide +kernel, by decide +kernel, by decide +kernel⟩
theorem forD {E : DE} {g : TDG} {tb : TDS} {δ : Dn} {xs : List PyData} (h : forL E g tb xs δ) : asL (.p (.list xs)) (fun ds => forL E g tb ds δ) := h
theorem lcD {g : TDG} {tt : TB} {te : TD} {δ : Dn} {fin : List PyData → Prop} {xs : List PyData} (h : lcL g tt te δ fin xs []) : asL (.p (.list xs)) (fun ds => lcL g tt te δ fin ds []) := h
def pre8 (z : PyData) : PyData := match z with
  | .int i => .str (cutS (Str.ofString "abcdefgh") none (some i))
  | _ => .none
def ok5 (d : PyData) : Bool := match d with
  | .str w => decide ((rngD 0 9).map (fun z => isCW 4 (.tuple [.str w, pre8 z])) = eqW (.str w) "is" :: List.replicate 8 true) && !isCW 4 (.tuple [.str w, .str (Str.ofString "abcdefghi")]) && decide (Wt (.tuple [.str w, .str (Str.ofString "abcdefghi")])) && (rngD 0 9).all (fun z => decide (Wt (.tuple [.str w, pre8 z])))
  | _ => false
theorem ok5_of {d : PyData} (h : ok5 d = true) : ∃ w : Str, d = .str w ∧ (rngD 0 9).map (fun z => isCW 4 (.tuple [.str w, pre8 z])) = eqW (.str w) "is" :: List.replicate 8 true ∧ isCW 4 (.tuple [.str w, .str (Str.ofString "abcdefghi")]) = false ∧ Wt (.tuple [.str w, .str (Str.ofString "abcdefghi")]) ∧ ∀ z ∈ rngD 0 9, Wt (.tuple [.str w, pre8 z]) := by
  cases d with
  | str w =>
    have h : (decide ((rngD 0 9).map (fun z => isCW 4 (.tuple [.str w, pre8 z])) = eqW (.str w) "is" :: List.replicate 8 true) && !isCW 4 (.tuple [.str w, .str (Str.ofString "abcdefghi")]) && decide (Wt (.tuple [.str w, .str (Str.ofString "abcdefghi")])) && (rngD 0 9).all (fun z => decide (Wt (.tuple [.str w, pre8 z])))) = true := h
    simp only [Bool.and_eq_true, Bool.not_eq_true'] at h
    exact ⟨w, rfl, of_decide_eq_true h.1.1.1, h.1.1.2, of_decide_eq_true h.1.2, fun z hz => of_decide_eq_true (List.all_eq_true.mp h.2 z hz)⟩
  | _ => cases h
theorem sz {n m : Nat} (h : n ≤ m) (hm : m ≤ sizeLine := by decide) : n ≤ sizeLine := Nat.le_trans h hm
theorem lt_int {i j : Int} {R : DV → Prop} (h : R (.p (.bool (decide (i < j))))) : fLt (.p (.int i)) (.p (.int j)) R := h
theorem le_int {i j : Int} {R : DV → Prop} (h : R (.p (.bool (decide (i ≤ j))))) : fLe (.p (.int i)) (.p (.int j)) R := h
def okI (xs : List PyData) : Bool := decide ((xs.filter fun z => !nI z).length ≤ 1)
theorem okI_np {xs : List PyData} (h : okI xs = true) : nP xs = true := by
  match xs, h with
  | [], _ => rfl
  | [a], _ => cases a <;> rfl
  | [a, b], h =>
    cases a with
    | int i =>
      cases b with
      | int j => exact absurd (of_decide_eq_true h) (by show ¬ (2 : Nat) ≤ 1; omega)
      | _ => rfl
    | _ => rfl
  | a :: b :: c :: r, _ => cases a <;> first | rfl | (cases b <;> rfl)
theorem okI_sub {xs ys : List PyData} (s : ys.Sublist xs) (h : okI xs = true) : okI ys = true := decide_eq_true (Nat.le_trans (s.filter _).length_le (of_decide_eq_true h))
theorem okI_of {xs : List PyData} (h : ∀ x ∈ xs, nI x = true) : okI xs = true := by
  have e : xs.filter (fun z => !nI z) = [] := List.filter_eq_nil_iff.mpr fun x hx => by rw [h x hx]; decide
  unfold okI
  rw [e]
  rfl
theorem lc_fq {g : TDG} {tt : TB} {te : TD} {δ : Dn} {fin : List PyData → Prop} (q : PyData → Bool) : ∀ (ds acc : List PyData),
    (∀ d ∈ ds, ∀ (K1 : PyData → Prop) (K2 : Prop), (if q d = true then K2 else K1 d) → g (.p d) δ fun δ2 => tt δ2 fun b => if b = true then te δ2 fun y => asP y K1 else K2) →
    okI (acc ++ ds) = true → fin (acc ++ ds.filter fun d => !q d) → lcL g tt te δ fin ds acc
  | [], acc, _, _, h => by rw [List.filter_nil, List.append_nil] at h; exact h
  | d :: ds, acc, hd, ho, h => by
    refine hd d List.mem_cons_self _ _ ?_
    by_cases e : q d = true
    · rw [if_pos e]
      rw [List.filter_cons_of_neg (by rw [e]; decide)] at h
      exact lc_fq q ds acc (fun d' m => hd d' (List.mem_cons_of_mem _ m)) (okI_sub (List.Sublist.append_left (List.sublist_cons_self d ds) acc) ho) h
    · rw [if_neg e]
      rw [List.filter_cons_of_pos (by rw [Bool.eq_false_iff.mpr e]; rfl)] at h
      have ho2 : okI (acc ++ [d] ++ ds) = true := by rw [List.append_assoc]; exact ho
      exact ⟨okI_np (okI_sub (List.sublist_append_left (acc ++ [d]) ds) ho2), lc_fq q ds (acc ++ [d]) (fun d' m => hd d' (List.mem_cons_of_mem _ m)) ho2 (by rw [List.append_assoc]; exact h)⟩
theorem emp_fq {ds : List PyData} {q : PyData → Bool} : (ds.filter fun d => !q d).isEmpty = ds.all q := by
  rw [Bool.eq_iff_iff, List.isEmpty_iff, List.filter_eq_nil_iff, List.all_eq_true]
  exact ⟨fun h x hx => by have := h x hx; cases e : q x with | true => rfl | false => rw [e] at this; exact absurd rfl this, fun h x hx => by rw [h x hx]; decide⟩
mutual
def pc : PyData → Bool
  | .str x => x.cps.toList.all fun c => decide (c < 128) && !decide (c = 37)
  | .list xs => pcA xs
  | .tuple xs => pcA xs && okI xs
  | .dict _ => false
  | _ => true
def pcA : List PyData → Bool
  | [] => true
  | x :: xs => pc x && pcA xs
end
theorem pcA_all : ∀ xs : List PyData, pcA xs = xs.all pc
  | [] => by simp only [pcA, List.all_nil]
  | x :: xs => by simp only [pcA, List.all_cons, pcA_all xs]
theorem pc_tup {xs : List PyData} : pc (.tuple xs) = (xs.all pc && okI xs) := by simp only [pc, pcA_all]
theorem pc_lst {xs : List PyData} : pc (.list xs) = xs.all pc := by simp only [pc, pcA_all]
mutual
theorem pc_plain : ∀ d : PyData, pc d = true → d.plain = true
  | .none, _ => rfl
  | .bool _, _ => rfl
  | .int _, _ => rfl
  | .str _, _ => rfl
  | .list xs, h => by simp only [PyData.plain]; exact pcA_plain xs (by simpa only [pc] using h)
  | .tuple xs, h => by
    simp only [pc, Bool.and_eq_true] at h
    simp only [PyData.plain]
    exact pcA_plain xs h.1
  | .dict _, h => by simp only [pc] at h; cases h
theorem pcA_plain : ∀ xs : List PyData, pcA xs = true → PyData.plainAll xs = true
  | [], _ => rfl
  | x :: xs, h => by
    simp only [pcA, Bool.and_eq_true] at h
    simp only [PyData.plainAll, Bool.and_eq_true]
    exact ⟨pc_plain x h.1, pcA_plain xs h.2⟩
end
structure Gg (n m : Nat) (d : PyData) : Prop where
  gd : Gd n m d
  pc : pc d = true
theorem Gg.up {n m n' m' : Nat} {d : PyData} (g : Gg n m d) (h1 : n ≤ n') (h2 : m ≤ m') : Gg n' m' d := ⟨g.gd.up h1 h2, g.pc⟩
def ggB (n m : Nat) (d : PyData) : Bool := d.leavesShort 64 && d.showable && decide (d.weight ≤ n) && decide (d.depth ≤ m) && pc d
theorem gg_of {n m : Nat} {d : PyData} (q : ggB n m d = true) : Gg n m d := by
  unfold ggB at q
  simp only [Bool.and_eq_true] at q
  exact ⟨⟨q.1.1.1.1, q.1.1.1.2, of_decide_eq_true q.1.1.2, of_decide_eq_true q.1.2⟩, q.2⟩
theorem gg_chk {n m : Nat} {L : List PyData} (e : L.all (ggB n m) = true) {d : PyData} (h : d ∈ L) : Gg n m d := gg_of (List.all_eq_true.mp e d h)
theorem okI2 {x y : PyData} (h : nI x = true) : okI [x, y] = true := by
  unfold okI
  rw [List.filter_cons_of_neg (by rw [h]; decide)]
  exact decide_eq_true (Nat.le_trans (List.length_filter_le _ _) (Nat.le_refl 1))
theorem gg2 {a b m : Nat} {x y : PyData} (gx : Gg a m x) (gy : Gg b m y) (h : nI x = true) : Gg (a + b + 2) (m + 1) (.tuple [x, y]) := ⟨gd2 gx.gd gy.gd, by rw [pc_tup, okI2 h]; simp only [List.all_cons, List.all_nil, gx.pc, gy.pc, Bool.and_self]⟩
theorem ggT {W m k : Nat} {xs : List PyData} (h : ∀ x ∈ xs, Gg W m x) (hk : xs.length ≤ k) (ho : okI xs = true) : Gg (k * (W + 1)) (m + 1) (.tuple xs) := ⟨(gdMany (fun x hx => (h x hx).gd) hk).tup (by omega), by rw [pc_tup, ho, Bool.and_true]; exact List.all_eq_true.mpr fun x hx => (h x hx).pc⟩
theorem ggT1 {W m : Nat} {x : PyData} (h : Gg W m x) : Gg (W + 1) (m + 1) (.tuple [x]) := (ggT (k := 1) (xs := [x]) (fun y hy => by rw [List.mem_singleton.mp hy]; exact h) (Nat.le_refl 1) (decide_eq_true (List.length_filter_le _ _))).up (by omega) (Nat.le_refl _)
theorem ggL {W m k : Nat} {xs : List PyData} (h : ∀ x ∈ xs, Gg W m x) (hk : xs.length ≤ k) : Gg (k * (W + 1)) (m + 1) (.list xs) := ⟨(gdMany (fun x hx => (h x hx).gd) hk).lst (by omega), by rw [pc_lst]; exact List.all_eq_true.mpr fun x hx => (h x hx).pc⟩
theorem Gg.wt {n m : Nat} {d : PyData} (g : Gg n m d) (h : n ≤ 4000) : Wt d := Nat.le_trans g.gd.wt h
theorem pc_in {xs : List PyData} (h : pc (.tuple xs) = true) {x : PyData} (hx : x ∈ xs) : pc x = true := by
  rw [pc_tup, Bool.and_eq_true] at h
  exact List.all_eq_true.mp h.1 x hx
theorem pc_ok {xs : List PyData} (h : pc (.tuple xs) = true) : okI xs = true := by
  rw [pc_tup, Bool.and_eq_true] at h
  exact h.2
theorem in_az : ∀ c, c < 128 → inS ⟨#[c]⟩ (Str.ofString "abcdefghijklmnopqrstuvwxyz") = loC c := by decide +kernel
theorem pc_str {x : Str} (h : pc (.str x) = true) {c : Nat} (hc : c ∈ x.cps.toList) : c < 128 ∧ c ≠ 37 := by
  simp only [pc] at h
  have q := List.all_eq_true.mp h c hc
  simp only [Bool.and_eq_true, Bool.not_eq_true', decide_eq_true_eq, decide_eq_false_iff_not] at q
  exact q
theorem eqv_t0 {xs : List PyData} : PyData.eqv (.tuple xs) (.tuple []) = xs.isEmpty := by cases xs <;> simp only [PyData.eqv, PyData.eqvAll, List.isEmpty]
theorem eqv_t1 {x : PyData} {y : Str} : PyData.eqv (.tuple [x]) (.tuple [.str y]) = eqW x y := by
  simp only [PyData.eqv, PyData.eqvAll, Bool.and_true]
  exact eqv_sw
theorem eqv_t2 {x z : PyData} {r : List PyData} {y : Str} : PyData.eqv (.tuple (x :: z :: r)) (.tuple [.str y]) = false := by simp only [PyData.eqv, PyData.eqvAll, Bool.and_false]
theorem pl1 (y : Str) : (PyData.tuple [.str y]).plain = true := by simp only [PyData.plain, PyData.plainAll, Bool.and_self]
theorem dp1 (y : Str) : (PyData.tuple [.str y]).depth ≤ 60 := by simp only [PyData.depth, PyData.depthAll]; decide
def endB (d : PyData) : Bool := match d with | .tuple [x] => inW x ["drop", "stop"] | _ => false
def deedB (d : PyData) : Bool := match d with
  | .tuple [x, p] => if inW x ["file", "forward", "mark"] = true then isName p else inW x ["tag", "reply"] && isTxt p
  | _ => false
def actsB (d : PyData) : Bool := match d with
  | .tuple xs => decide (xs.length ≤ 6) && ((cutD xs none (some (-1))).all deedB && (cutD xs (some (-1)) none).all fun z => deedB z || endB z)
  | _ => false
def ruleB (d : PyData) : Bool := match d with
  | .tuple [c, a] => isCW 4 c && actsB a
  | _ => false
theorem end_not {xs : List PyData} (h : xs.length ≠ 1) : endB (.tuple xs) = false := by
  match xs, h with
  | [], _ => rfl
  | [_], h => exact absurd rfl h
  | _ :: _ :: _, _ => rfl
theorem deed_not {xs : List PyData} (h : xs.length ≠ 2) : deedB (.tuple xs) = false := by
  match xs, h with
  | [], _ => rfl
  | [_], _ => rfl
  | [_, _], h => exact absurd rfl h
  | _ :: _ :: _ :: _, _ => rfl
theorem rule_not {xs : List PyData} (h : xs.length ≠ 2) : ruleB (.tuple xs) = false := by
  match xs, h with
  | [], _ => rfl
  | [_], _ => rfl
  | [_, _], h => exact absurd rfl h
  | _ :: _ :: _ :: _, _ => rfl
def oneB (d : PyData) : Bool := match d with | .tuple [_] => true | _ => false
theorem deed_one {d : PyData} : deedB d = ((deedB d || endB d) && !oneB d) := by
  cases d with
  | tuple xs =>
    match xs with
    | [] => rfl
    | [_] => show false = (_ && !true); simp
    | [x, y] => show _ = ((deedB (.tuple [x, y]) || false) && !false); simp
    | _ :: _ :: _ :: _ => rfl
  | _ => rfl
theorem act_tup {d : PyData} (h : (deedB d || endB d) = true) : ∃ xs, d = .tuple xs := by
  cases d with
  | tuple xs => exact ⟨xs, rfl⟩
  | _ => exact Bool.noConfusion h
theorem one_len (xs : List PyData) : oneB (.tuple xs) = decide ((xs.length : Int) = 1) := by
  match xs with
  | [] => rfl
  | [_] => rfl
  | _ :: _ :: r => exact (decide_eq_false (by rw [List.length_cons, List.length_cons]; omega)).symm
theorem cut_init {xs : List PyData} : cutD xs none (some (-1)) = xs.take (xs.length - 1) := by
  unfold cutD
  rw [HT.sIx_none, Nat.sub_zero, List.drop_zero]
  show xs.take (if (-1 : Int) < 0 then ((-1 : Int) + (xs.length : Int)).toNat else min (-1 : Int).toNat xs.length) = _
  rw [if_pos (by decide), show ((-1 : Int) + (xs.length : Int)).toNat = xs.length - 1 by omega]
theorem cut_last {xs : List PyData} : cutD xs (some (-1)) none = xs.drop (xs.length - 1) := by
  unfold cutD
  show (xs.drop (if (-1 : Int) < 0 then ((-1 : Int) + (xs.length : Int)).toNat else min (-1 : Int).toNat xs.length)).take (xs.length - (if (-1 : Int) < 0 then ((-1 : Int) + (xs.length : Int)).toNat else min (-1 : Int).toNat xs.length)) = _
  rw [if_pos (by decide), show ((-1 : Int) + (xs.length : Int)).toNat = xs.length - 1 by omega]
  exact List.take_of_length_le (by rw [List.length_drop]; exact Nat.le_refl _)
theorem acts_eq (xs : List PyData) : actsB (.tuple xs) = (decide (xs.length ≤ 6) && (xs.all (fun d => deedB d || endB d) && (cutD xs none (some (-1))).all fun d => !oneB d)) := by
  show (decide (xs.length ≤ 6) && ((cutD xs none (some (-1))).all deedB && (cutD xs (some (-1)) none).all fun z => deedB z || endB z)) = _
  rw [cut_init, cut_last]
  congr 1
  conv => rhs; rw [← List.take_append_drop (xs.length - 1) xs]
  rw [List.all_append, List.take_append_drop]
  rw [show (xs.take (xs.length - 1)).all deedB = ((xs.take (xs.length - 1)).all (fun d => deedB d || endB d) && (xs.take (xs.length - 1)).all fun d => !oneB d) by
    rw [Bool.eq_iff_iff, Bool.and_eq_true, List.all_eq_true, List.all_eq_true, List.all_eq_true]
    constructor
    · intro h
      exact ⟨fun x hx => by rw [h x hx, Bool.true_or], fun x hx => by have := h x hx; rw [deed_one, Bool.and_eq_true] at this; exact this.2⟩
    · intro h x hx
      rw [deed_one, Bool.and_eq_true]
      exact ⟨h.1 x hx, h.2 x hx⟩]
  cases (xs.take (xs.length - 1)).all (fun d => deedB d || endB d) <;> cases (xs.take (xs.length - 1)).all (fun d => !oneB d) <;> cases (xs.drop (xs.length - 1)).all (fun d => deedB d || endB d) <;> rfl
theorem cut_mem {xs : List PyData} {lo hi : Option Int} {x : PyData} (h : x ∈ cutD xs lo hi) : x ∈ xs := List.mem_of_mem_drop (List.mem_of_mem_take h)
theorem cut_len (xs : List PyData) (lo hi : Option Int) : (cutD xs lo hi).length ≤ xs.length := by
  unfold cutD
  rw [List.length_take, List.length_drop]
  omega
def lineB (lo hi : Nat) (d : PyData) : Bool := match d with
  | .str x => decide (lo ≤ x.length) && decide (x.length ≤ hi) && x.cps.toList.all fun c => decide (32 ≤ c) && decide (c ≤ 126)
  | _ => false
theorem lineC {c : Nat} (h : c < 128 ∧ c ≠ 37) : okC c = (decide (32 ≤ c) && decide (c ≤ 126)) := by
  unfold okC
  rw [decide_eq_false h.2]
  simp
theorem line_subj {x : Str} (h : pc (.str x) = true) : (x.cps.toList.all fun c => decide (32 ≤ c) && decide (c ≤ 126)) = isSubj (.str x) := by
  simp only [isSubj]
  rw [Bool.eq_iff_iff, List.all_eq_true, List.all_eq_true]
  exact ⟨fun q c hc => by rw [lineC (pc_str h hc)]; exact q c hc, fun q c hc => by rw [← lineC (pc_str h hc)]; exact q c hc⟩
theorem line_txt {p : PyData} (h : pc p = true) : isTxt p = lineB 1 8 p := by
  cases p with
  | str x =>
    simp only [isTxt, lineB]
    rw [line_subj h]
    cases isSubj (.str x) <;> simp
  | _ => rfl
theorem line_is {p : PyData} (h : pc p = true) : (isSubj p && leL p 8) = lineB 0 8 p := by
  cases p with
  | str x =>
    simp only [leL, lineB]
    rw [line_subj h, decide_eq_true (Nat.zero_le _), Bool.true_and, Bool.and_comm]
  | _ => rfl
theorem nt_law (p : PyData) : (isNT p && neU p) = isNTn p := by
  cases p with
  | tuple xs =>
    simp only [isNT, neU, isNTn]
    cases xs.isEmpty <;> simp
  | _ => rfl
def condW (n : Nat) (x p : PyData) : Bool :=
  if eqW x "from" = true then isNTn p
  else if inW x ["contains", "begins", "ends"] = true then lineB 1 8 p
  else if eqW x "is" = true then lineB 0 8 p
  else if eqW x "marked" = true then isName p
  else if eqW x "not" = true then isCW n p
  else if inW x ["all", "any"] = true then isAC n p else false
theorem cw_law {n : Nat} {w : Str} {p : PyData} (h : pc p = true) : isCW (n + 1) (.tuple [.str w, p]) = condW n (.str w) p := by
  show (if eqW (.str w) "not" = true then isCW n p else if inW (.str w) ["all", "any"] = true then isAC n p else isSing (.str w) p) = _
  unfold condW isSing
  rw [nt_law, line_txt h, line_is h]
  have lit : ∀ y : Str, eqW (.str w) y = true → w = y := fun y e => of_decide_eq_true e
  by_cases q1 : eqW (.str w) "from" = true
  · have e := lit _ q1
    subst e
    rfl
  by_cases q2 : inW (.str w) ["contains", "begins", "ends"] = true
  · obtain ⟨y, hy, q⟩ := List.any_eq_true.mp q2
    have e := lit y q
    subst e
    rcases List.mem_cons.mp hy with e | hy
    · subst e; rfl
    rcases List.mem_cons.mp hy with e | hy
    · subst e; rfl
    have e := List.mem_singleton.mp hy
    subst e; rfl
  by_cases q3 : eqW (.str w) "is" = true
  · have e := lit _ q3
    subst e
    rfl
  by_cases q4 : eqW (.str w) "marked" = true
  · have e := lit _ q4
    subst e
    rfl
  simp only [q1, q2, q3, q4, Bool.false_eq_true, if_false, Bool.false_and]
theorem nI_chk {L : List PyData} (e : L.all nI = true) {d : PyData} (h : d ∈ L) : nI d = true := List.all_eq_true.mp e d h
theorem map_erase : ∀ (xs : List Str) (k : Nat), (xs.map PyData.str).eraseIdx k = (xs.eraseIdx k).map PyData.str
  | [], _ => rfl
  | _ :: _, 0 => rfl
  | x :: xs, k + 1 => by
    show PyData.str x :: (xs.map PyData.str).eraseIdx k = PyData.str x :: (xs.eraseIdx k).map PyData.str
    rw [map_erase xs k]
theorem sI_nat {k n : Nat} (h : k < n) : seqIndex? (k : Int) n = some k := by
  unfold seqIndex?
  simp
  omega
theorem eq_int {i j : Int} {R : DV → Prop} (h : R (.p (.bool (decide (i = j))))) : fEqQ false (.p (.int i)) (.p (.int j)) R := ⟨rfl, rfl, Nat.zero_le _, by
  show R (.p (.bool (PyData.eqv (.int i) (.int j))))
  rw [eqv_int]
  exact h⟩
theorem ite_t {a b : Prop} (h : a) : (if true = true then a else b) := h
theorem ite_f {a b : Prop} (h : b) : (if false = true then a else b) := h
theorem st_set {i : Nat} {t : TD} {b : TDS} {E : DE} {δ : Dn} (h : t δ fun d => b E (δ.set i (.v d))) : dSeq (dSet i t) b E δ := h
theorem st_lt {n : Nat} {i j : Int} {a b : TDS} {E : DE} {δ : Dn} (hδ : δ.getD n .un = .v (.p (.int i))) (ht : i < j → ∀ N : Dn → Prop, a { E with nx := N } δ) (hf : ¬ i < j → b E δ) : dSeq (dIfS (dB (dOp fLt (dVar n) (dC (.p (.int j))))) a dNext) b E δ := by
  unfold dSeq dIfS dB dOp dVar
  rw [hδ]
  show fLt (.p (.int i)) (.p (.int j)) (fun d => asB d fun z => if z = true then a { E with nx := b E } δ else b E δ)
  refine lt_int ?_
  show if decide (i < j) = true then a { E with nx := b E } δ else b E δ
  by_cases h : i < j
  · rw [if_pos (decide_eq_true h)]; exact ht h _
  · rw [if_neg (by rw [decide_eq_false h]; decide)]; exact hf h
theorem st_eq {n : Nat} {i j : Int} {a b : TDS} {E : DE} {δ : Dn} (hδ : δ.getD n .un = .v (.p (.int i))) (ht : i = j → ∀ N : Dn → Prop, a { E with nx := N } δ) (hf : ¬ i = j → b E δ) : dSeq (dIfS (dB (dOp (fEqQ false) (dVar n) (dC (.p (.int j))))) a dNext) b E δ := by
  unfold dSeq dIfS dB dOp dVar
  rw [hδ]
  show fEqQ false (.p (.int i)) (.p (.int j)) (fun d => asB d fun z => if z = true then a { E with nx := b E } δ else b E δ)
  refine eq_int ?_
  show if decide (i = j) = true then a { E with nx := b E } δ else b E δ
  by_cases h : i = j
  · rw [if_pos (decide_eq_true h)]; exact ht h _
  · rw [if_neg (by rw [decide_eq_false h]; decide)]; exact hf h
def gLine : FL := fun ds R => ∃ d lo hi, ds = [.p d, .p (.int ((lo : Nat) : Int)), .p (.int ((hi : Nat) : Int))] ∧ Wt d ∧ R (.p (.bool (lineB lo hi d)))
def gNmL : FL := fun ds R => ∃ d, ds = [.p d] ∧ Wt d ∧ pc d = true ∧ R (.p (.bool (isName d)))
def gCondL (n : Nat) : FL := fun ds R => ∃ v, ds = [.p v, .p (.int n)] ∧ Wt v ∧ pc v = true ∧ R (.p (.bool (isCW n v)))
def gActL : FL := fun ds R => ∃ d, ds = [.p d] ∧ Wt d ∧ pc d = true ∧ R (.p (.bool (deedB d || endB d)))
def gRuleL : FL := fun ds R => ∃ d, ds = [.p d] ∧ Wt d ∧ pc d = true ∧ R (.p (.bool (ruleB d)))
def gStream : FL := gWell
def gShuf : FL := fun ds R => ∃ xs : List Str, ds = [.well, .p (.list (xs.map .str))] ∧ xs.length ≤ 100 ∧ ∀ ys : List Str, ys.length = xs.length → (∀ y ∈ ys, y ∈ xs) → R (.p (.list (ys.map .str)))
def gRel (p : PyData → Prop) : FL := fun ds R => ds = [.well] ∧ ∀ d, p d → R (.p d)
def isTp (d : PyData) : Prop := ∃ xs, d = .tuple xs
def gTxt21 : FL := gRel (Gg 3 0)
def gLeaf21 : FL := gRel fun d => Gg 16 2 d ∧ nI d = true
def gCond21 : FL := gRel fun d => Gg 90 7 d ∧ nI d = true
def gAct21 : FL := gRel fun d => Gg 16 1 d ∧ nI d = true
def gRule21 : FL := fun ds R => ds = [.well] ∧ ∀ c xs, Gg 90 7 c → nI c = true → xs.length ≤ 4 → (∀ x ∈ xs, Gg 16 1 x ∧ nI x = true) → R (.p (.tuple [c, .tuple xs]))
def gOdA21 : FL := gRel fun d => Gg 30 2 d ∧ nI d = true
def gOdd21 : FL := fun ds R => ∃ c xs, ds = [.well, .p (.tuple [c, .tuple xs])] ∧ Gg 90 7 c ∧ nI c = true ∧ xs.length ≤ 4 ∧ (∀ x ∈ xs, Gg 16 1 x ∧ nI x = true) ∧ ∀ d, Gg 500 20 d → R (.p d)
def fAnyM : FH := fun o ds R => False
def fAnyN : List DV → (OD → Prop) → Prop := fun ds R => False
open Classical in
noncomputable def rs (xs : List Str) : List Str := if h : ∃ zs, RisS zs ∧ ∀ x, x ∈ zs ↔ x ∈ xs then Classical.choose h else []
theorem rs_of {xs zs : List Str} (h1 : RisS zs) (h2 : ∀ x, x ∈ zs ↔ x ∈ xs) : zs = rs xs := by
  have h : ∃ zs, RisS zs ∧ ∀ x, x ∈ zs ↔ x ∈ xs := ⟨zs, h1, h2⟩
  unfold rs
  rw [dif_pos h]
  obtain ⟨k1, k2⟩ := Classical.choose_spec h
  exact risS_one h1 k1 fun x => (h2 x).trans (k2 x).symm
abbrev msgP (s a u : Str) (ms : List Str) : PyData := .tuple [.str s, .str a, .str u, .tuple (ms.map .str)]
noncomputable def keptS (mk : Str) (ms : List Str) : List Str := if mk.length = 0 then ms else rs (ms ++ [mk])
def lineS (tag u : Str) : Str := if inS tag u = true then u else tag ++ u
def goesB (cl : Bool) (s : Str) (mem : List Str) : Bool := !cl || inW (.str s) mem
noncomputable def outL (mem : List Str) (tag mk : Str) (cl : Bool) (s u : Str) (ms : List Str) : List PyData := if goesB cl s mem = true then mem.map fun m => msgP s m (lineS tag u) (keptS mk ms) else []
noncomputable def atL (mem : List Str) (tag mk : Str) (cl : Bool) (s a u : Str) (ms : List Str) : List PyData := if goesB cl s mem = true then mem.map fun m => .tuple [.tuple [.str "member", .str a, .str m], msgP s m (lineS tag u) (keptS mk ms)] else []
abbrev whatP (mem : List Str) (tag mk : Str) (cl : Bool) : PyData := .tuple [.tuple (mem.map .str), .str tag, .str mk, .bool cl]
structure GoodM (mem : List Str) : Prop where
  len : mem.length ≤ 8
  nm : ∀ x ∈ mem, isName (.str x) = true
  nd : mem.Nodup
structure GoodL (mem : List Str) (tag mk : Str) : Prop where
  mm : GoodM mem
  tg : isTxt (.str tag) = true ∨ tag = ""
  mr : isName (.str mk) = true ∨ mk = ""
theorem pyAllApp {K : List PyData → Prop} {y : PyData} : ∀ {zs : List PyData}, K (zs ++ [y]) → pyAll (zs.map .p ++ [.p y]) K
  | [], h => h
  | z :: zs, h => pyAllApp (zs := zs) (K := fun xs => K (z :: xs)) h
theorem or_ite {b c : Bool} {A B : Prop} (h : b = true ∨ c = true) (ha : A) : if b = true then A else (if c = true then A else B) := by
  cases b with
  | true => exact ha
  | false => cases c with
    | true => exact ha
    | false => exact absurd h (by decide)
theorem perm_erase {α : Type} : ∀ {xs : List α} {k : Nat} (h : k < xs.length), (xs[k] :: xs.eraseIdx k).Perm xs
  | x :: xs, 0, _ => List.Perm.refl _
  | x :: xs, k + 1, h => by
    have h' : k < xs.length := by rw [List.length_cons] at h; omega
    exact (List.Perm.swap x xs[k] (xs.eraseIdx k)).trans ((perm_erase h').cons x)
theorem wtS {x : Str} (h : x.length ≤ 4000) : Wt (.str x) := by
  show PyData.weight (.str x) ≤ 4000
  simp only [PyData.weight]
  exact h
theorem tagLen {x : Str} (h : isTxt (.str x) = true ∨ x = "") : x.length ≤ 8 := by
  rcases h with h | h
  · simp only [isTxt, Bool.and_eq_true, decide_eq_true_eq] at h
    exact h.2
  · rw [h]; decide
theorem mkLen {x : Str} (h : isName (.str x) = true ∨ x = "") : x.length ≤ 12 := by
  rcases h with h | h
  · exact isName_str h
  · rw [h]; decide
def gWm : FL := fun ds R => ∃ (ms : List Str) (mk : Str), ds = [.p (.tuple (ms.map .str)), .p (.str mk)] ∧ ms.length ≤ 50 ∧ R (.p (.tuple ((rs (ms ++ [mk])).map .str)))
def gMem : FL := fun ds R => ∃ mem : List Str, ds = [.p (.tuple (mem.map .str))] ∧ GoodM mem ∧ R (.p (.bool true))
def gNL : FL := fun ds R => ∃ mem tag mk cl, ds = [.p (whatP mem tag mk cl)] ∧ GoodL mem tag mk ∧ R (.p .none)
def hPut (C : Addr) : FH := fun o ds R => ∃ a d es n z, o = .hs C a d es ∧ ds = [.raw (.ref a), .p (.str n), .p z] ∧ es.length ≤ 1000 ∧ R .none (.hs C a d (putE es n z))
def gNew (C : Addr) : FL := fun ds R => ∃ es n, ds = [.hs C es, .p (.str n)] ∧ isName (.str n) = true ∧ getE es n = none ∧ R (.p .none)
def gRoom (C : Addr) : FL := fun ds R => ∃ es n, ds = [.hs C es, .p (.str n)] ∧ es.length < 20 ∧ R (.p .none)
def hList (C : Addr) : FH := fun o ds R => ∃ a d es n mem tag mk cl, o = .hs C a d es ∧ ds = [.raw (.ref a), .p (.str n), .p (.tuple (mem.map .str)), .p (.str tag), .p (.str mk), .p (.bool cl)] ∧ isName (.str n) = true ∧ getE es n = none ∧ es.length < 20 ∧ GoodL mem tag mk ∧ R .none (.hs C a d (putE es n (.tuple [.str "list", whatP mem tag mk cl])))
def hAlias (C : Addr) : FH := fun o ds R => ∃ a d es n t, o = .hs C a d es ∧ ds = [.raw (.ref a), .p (.str n), .p (.str t)] ∧ isName (.str n) = true ∧ getE es n = none ∧ es.length < 20 ∧ isName (.str t) = true ∧ R .none (.hs C a d (putE es n (.tuple [.str "alias", .str t])))
def gEnt (C : Addr) : FL := fun ds R => ∃ es n, ds = [.hs C es, .p (.str n)] ∧ R (.p ((getE es n).getD .none))
def Sml (mem : List Str) (tag u : Str) (ms : List Str) : Prop := mem.length ≤ 8 ∧ tag.length ≤ 8 ∧ u.length ≤ 100 ∧ ms.length ≤ 50
def gAt : FL := fun ds R => ∃ mem tag mk cl s a u ms, ds = [.p (whatP mem tag mk cl), .p (msgP s a u ms)] ∧ Sml mem tag u ms ∧ mk.length ≤ 12 ∧ R (.p (.list (atL mem tag mk cl s a u ms)))
inductive Ent where
  | lst (mem : List Str) (tag mk : Str) (cl : Bool) | ali (t : Str)
def Ent.d : Ent → PyData
  | .lst mem tag mk cl => .tuple [.str "list", whatP mem tag mk cl]
  | .ali t => .tuple [.str "alias", .str t]
def Ent.ok : Ent → Prop
  | .lst mem tag mk _ => GoodL mem tag mk
  | .ali t => isName (.str t) = true
noncomputable def Ent.at_ : Ent → Str → Str → Str → List Str → List PyData
  | .lst mem tag mk cl, s, a, u, ms => atL mem tag mk cl s a u ms
  | .ali t, s, a, u, ms => [.tuple [.tuple [.str "alias", .str a], msgP s t u ms]]
noncomputable def Ent.out : Ent → Str → Str → List Str → List PyData
  | .lst mem tag mk cl, s, u, ms => outL mem tag mk cl s u ms
  | .ali t, s, u, ms => [msgP s t u ms]
theorem fEqW_of {x w : Str} {b : Bool} {K1 : DV → Prop} (e : eqW (.str x) w = b) (h : K1 (.p (.bool b))) : fEqW (.p (.str x)) (.p (.str w)) K1 := by
  show K1 (.p (.bool (eqW (.str x) w)))
  rw [e]
  exact h
theorem fNis_of {x w : Str} {b : Bool} {K1 : DV → Prop} (e : (!inS x w) = b) (h : K1 (.p (.bool b))) : fNotInS (.p (.str x)) (.p (.str w)) K1 := by
  show K1 (.p (.bool (!inS x w)))
  rw [e]
  exact h
def atTail (d0 d1 d2 d3 d4 d5 : Sl) (s1 a u2 : Str) (d9 : DV) (mem : List Str) (R : DV → Prop) : Prop := (mem.map PyData.str).length ≤ sizeLine ∧ lcL (gdName 10) dYes (dTup (dCons (dTup (dCons (dC (.p (.str (Str.ofString "member")))) (dCons (dVar 7) (dCons (dVar 10) dNil)))) (dCons (dTup (dCons (dVar 6) (dCons (dVar 10) (dCons (dVar 8) (dCons (dVar 9) dNil))))) dNil))) [d0, d1, d2, d3, d4, d5, .v (.p (.str s1)), .v (.p (.str a)), .v (.p (.str u2)), .v d9, .un] (fun acc => R (.p (.list acc))) (mem.map .str) []
theorem at_end {d0 d1 d2 d3 d4 d5 : Sl} {s1 a u2 : Str} {k2 mem : List Str} {R : DV → Prop} (hl : mem.length ≤ 8) (h : R (.p (.list (mem.map fun m => .tuple [.tuple [.str "member", .str a, .str m], msgP s1 m u2 k2])))) : atTail d0 d1 d2 d3 d4 d5 s1 a u2 (.p (.tuple (k2.map .str))) mem R := by
  refine ⟨by rw [List.length_map]; exact sz hl, lc_map (fun d => .tuple [.tuple [.str "member", .str a, d], .tuple [.str s1, d, .str u2, .tuple (k2.map .str)]]) (fun d hd K1 hk => ?_) ?_⟩
  · exact ⟨(show 3 ≤ sizeLine by decide), (show 4 ≤ sizeLine by decide), (show 2 ≤ sizeLine by decide), hk⟩
  · rw [List.map_map]
    exact h
theorem at_mid {d0 d1 d2 d3 d5 : Sl} {s1 a u2 mk : Str} {ms mem : List Str} {R : DV → Prop} (hl : mem.length ≤ 8) (hk : mk.length ≤ sizeLine) (hm : ms.length ≤ 50) (h : R (.p (.list (mem.map fun m => .tuple [.tuple [.str "member", .str a, .str m], msgP s1 m u2 (keptS mk ms)])))) :
    dTruS (dVar 4) [d0, d1, d2, d3, .v (.p (.str mk)), d5, .v (.p (.str s1)), .v (.p (.str a)), .v (.p (.str u2)), .v (.p (.tuple (ms.map .str))), .un] fun b => if b = true then gWm [.p (.tuple (ms.map .str)), .p (.str mk)] fun d => atTail d0 d1 d2 d3 (.v (.p (.str mk))) d5 s1 a u2 d mem R else atTail d0 d1 d2 d3 (.v (.p (.str mk))) d5 s1 a u2 (.p (.tuple (ms.map .str))) mem R := by
  refine ⟨hk, ?_⟩
  by_cases q : mk.length = 0
  · rw [decide_eq_true q]
    exact at_end hl (by rw [keptS, if_pos q] at h; exact h)
  · rw [decide_eq_false q]
    exact ⟨ms, mk, rfl, hm, at_end hl (by rw [keptS, if_neg q] at h; exact h)⟩
theorem gate_t {cl : Bool} {s1 : Str} {mem : List Str} {A B : Prop} (hg : goesB cl s1 mem = true) (h : B) : if cl = true then fInW true (.p (.str s1)) (.p (.tuple (mem.map .str))) fun d => (match d with | .p (.bool b) => if b = true then A else B | _ => False) else B := by
  cases cl with
  | false => exact h
  | true =>
    refine ⟨mem, rfl, ?_⟩
    show (if (!inW (.str s1) mem) = true then A else B)
    rw [show inW (.str s1) mem = true from hg]
    exact h
theorem goes_f {cl : Bool} {s1 : Str} {mem : List Str} (hg : ¬ goesB cl s1 mem = true) : cl = true ∧ inW (.str s1) mem = false := by
  cases cl with
  | false => exact absurd rfl hg
  | true => exact ⟨rfl, Bool.eq_false_iff.mpr hg⟩
def sndD (d : PyData) : PyData := match d with | .tuple [_, m] => m | _ => .none
theorem at_out {e : Ent} {s a u : Str} {ms : List Str} : (e.at_ s a u ms).map sndD = e.out s u ms := by
  cases e with
  | lst mem tag mk cl =>
    show (atL mem tag mk cl s a u ms).map sndD = outL mem tag mk cl s u ms
    unfold atL outL
    split
    · rw [List.map_map]; rfl
    · rfl
  | ali t => rfl
theorem at_tup {e : Ent} {s a u : Str} {ms : List Str} {d : PyData} (h : d ∈ e.at_ s a u ms) : ∃ c m, d = .tuple [c, m] ∧ nI m = true := by
  cases e with
  | lst mem tag mk cl =>
    have h : d ∈ atL mem tag mk cl s a u ms := h
    unfold atL at h
    split at h
    · obtain ⟨x, _, rfl⟩ := List.mem_map.mp h
      exact ⟨_, _, rfl, rfl⟩
    · exact absurd h List.not_mem_nil
  | ali t => exact ⟨_, _, List.mem_singleton.mp h, rfl⟩
theorem at_len {e : Ent} (he : e.ok) (s a u : Str) (ms : List Str) : (e.at_ s a u ms).length ≤ 8 := by
  cases e with
  | lst mem tag mk cl =>
    show (atL mem tag mk cl s a u ms).length ≤ 8
    unfold atL
    split
    · rw [List.length_map]; exact he.mm.len
    · exact Nat.zero_le _
  | ali t => exact (show 1 ≤ 8 by decide)
def gArrAt (C : Addr) : FL := fun ds R => ∃ es s a u ms e, ds = [.hs C es, .p (msgP s a u ms)] ∧ getE es a = some (Ent.d e) ∧ e.ok ∧ u.length ≤ 100 ∧ ms.length ≤ 50 ∧ R (.p (.tuple [.list [], .list [], .list (e.at_ s a u ms)]))
def gArrs (C : Addr) : FL := fun ds R => ∃ es s a u ms e, ds = [.hs C es, .p (msgP s a u ms)] ∧ getE es a = some (Ent.d e) ∧ R (.p (.bool true))
def gArr (C : Addr) : FL := fun ds R => ∃ es s a u ms e, ds = [.hs C es, .p (msgP s a u ms)] ∧ isMsg (msgP s a u ms) = true ∧ Wt (msgP s a u ms) ∧ getE es a = some (Ent.d e) ∧ e.ok ∧ u.length ≤ 100 ∧ ms.length ≤ 50 ∧ R (.p (.tuple [.list [], .list (e.out s u ms)]))
def gShuf25 : FL := fun ds R => ∃ xs : List Str, ds = [.well, .p (.list (xs.map .str))] ∧ xs.length ≤ 100 ∧ ∀ ys : List Str, ys.Perm xs → R (.p (.list (ys.map .str)))
def pagesD (l e : Ent) : PyData := .dict [(.str "l", l.d), (.str "e", e.d)]
def nHouse (C : Addr) : List DV → (OD → Prop) → Prop := fun ds R => ∃ mem tag mk cl t, ds = [.well, .p (pagesD (.lst mem tag mk cl) (.ali t))] ∧ GoodL mem tag mk ∧ isName (.str t) = true ∧ ∀ a d es, getE es "l" = some (Ent.d (.lst mem tag mk cl)) → getE es "e" = some (Ent.d (.ali t)) → R (.hs C a d es)
theorem perm_two {α : Type} {ys : List α} {x y : α} (h : ys.Perm [x, y]) : ys = [x, y] ∨ ys = [y, x] := by
  have hl := h.length_eq
  match ys, hl with
  | [u, v], _ =>
    have hu : u ∈ [x, y] := h.subset List.mem_cons_self
    rcases List.mem_cons.mp hu with e | e
    · subst e
      have := h.cons_inv
      rw [List.singleton_perm_singleton.mp this]
      exact .inl rfl
    · have e := List.mem_singleton.mp e
      subst e
      have := (h.trans (List.Perm.swap u x [])).cons_inv
      rw [List.singleton_perm_singleton.mp this]
      exact .inr rfl
theorem ne_le : (Str.ofString "l") ≠ Str.ofString "e" := by decide +kernel
theorem get_1 {n m : Str} {y z : PyData} : getE [(n, y), (m, z)] n = some y := by
  unfold getE
  rw [List.find?_cons_of_pos (by exact decide_eq_true rfl)]
  rfl
theorem get_2 {n m : Str} {y z : PyData} (h : n ≠ m) : getE [(n, y), (m, z)] m = some z := by
  unfold getE
  rw [List.find?_cons_of_neg (by simp [h]), List.find?_cons_of_pos (by exact decide_eq_true rfl)]
  rfl
theorem get_0 {n m : Str} {y : PyData} (h : n ≠ m) : getE [(n, y)] m = none := by
  unfold getE
  rw [List.find?_cons_of_neg (by simp [h])]
  rfl
theorem put_1 {n : Str} {y : PyData} : putE [] n y = [(n, y)] := rfl
theorem put_2 {n m : Str} {y z : PyData} (h : n ≠ m) : putE [(n, y)] m z = [(n, y), (m, z)] := by
  unfold putE
  rw [if_neg (by simp [h])]
  rfl
def hBody (C : Addr) : TDS := dSeq (dAsg (dDGet (dVar 1) (dVar 3)) (gdTup 2 (gdCons (gdName 4) (gdCons (gdName 5) gdNil)))) (dIfS (dB (dOp fEqW (dVar 4) (dC (.p (.str (Str.ofString "mailbox")))))) dNever (dIfS (dB (dOp fEqW (dVar 4) (dC (.p (.str (Str.ofString "list")))))) (dMeth C 2 (hList C) (gK 3 3) (dCons (dVar 3) (dCons (dOp fIx (dVar 5) (dC (.p (.int 0)))) dNil)) (dCons (dOp fIx (dVar 5) (dC (.p (.int 1)))) (dCons (dOp fIx (dVar 5) (dC (.p (.int 2)))) (dCons (dOp fIx (dVar 5) (dC (.p (.int 3)))) dNil)))) (dMeth C 2 (hAlias C) (fun ds _ => ds) (dCons (dVar 3) (dCons (dVar 5) dNil)) dNil)))
theorem step_l {C a d : Addr} {es : Ents} {mem : List Str} {tag mk t : Str} {cl : Bool} {x3 x4 x5 : Sl} {E : DE} (gl : GoodL mem tag mk) (hg : getE es "l" = none) (hl : es.length < 20)
    (h : E.nx [.v .well, .v (.p (pagesD (.lst mem tag mk cl) (.ali t))), .od (.hs C a d (putE es "l" (Ent.d (.lst mem tag mk cl)))), .v (.p (.str "l")), .v (.p (.str "list")), .v (.p (whatP mem tag mk cl))]) :
    gdName 3 (.p (.str "l")) [.v .well, .v (.p (pagesD (.lst mem tag mk cl) (.ali t))), .od (.hs C a d es), x3, x4, x5] (hBody C E) := by
  refine ⟨[("l", Ent.d (.lst mem tag mk cl)), ("e", Ent.d (.ali t))], rfl, _, get_1, rfl, _, _, rfl, _, _, rfl, rfl, ?_⟩
  simp only [dSeq, dNext, dBreak, dCont, dDrop, dRet, dRetN, dIfS, dSet, dB, dNotT, dAndT, dOrT, dNot, dAnd, dOr, dIf, dChain, dVar, dC, dOp, dUn, dNil, dCons, dCall, dTup, dLst, pyAll, dSl, dNo, dPart, dAsg, dPar, dDig, dMix, dPutD, dPutM, dM1, dFor, dItL, dItU, dItS, dItR1, dItR2, dItSc, dItZip, dLc, dYes, gdName, wipeD, asP, asB, asI, asS, asL, asU, sliceD, fCmp, fAdd, startD, fI, true_and, and_true, List.getD_cons_zero, List.getD_cons_succ, List.set_cons_zero, List.set_cons_succ, List.map_cons, List.map_nil, List.length_cons, List.length_nil, Nat.zero_add, Nat.reduceAdd, Nat.reduceSub, List.replicate, List.cons_append, List.nil_append, if_true, if_false, reduceIte, Bool.false_eq_true, Bool.not_true, Bool.not_false]
  refine fEqW_of (b := false) (by decide +kernel) (ite_f ?_)
  refine fEqW_of (b := true) (by decide +kernel) (ite_t ?_)
  exact ⟨rfl, _, rfl, _, rfl, _, rfl, _, rfl, a, d, es, "l", mem, tag, mk, cl, rfl, rfl, by decide +kernel, hg, hl, gl, h⟩
theorem step_e {C a d : Addr} {es : Ents} {mem : List Str} {tag mk t : Str} {cl : Bool} {x3 x4 x5 : Sl} {E : DE} (ht : isName (.str t) = true) (hg : getE es "e" = none) (hl : es.length < 20)
    (h : E.nx [.v .well, .v (.p (pagesD (.lst mem tag mk cl) (.ali t))), .od (.hs C a d (putE es "e" (Ent.d (.ali t)))), .v (.p (.str "e")), .v (.p (.str "alias")), .v (.p (.str t))]) :
    gdName 3 (.p (.str "e")) [.v .well, .v (.p (pagesD (.lst mem tag mk cl) (.ali t))), .od (.hs C a d es), x3, x4, x5] (hBody C E) := by
  refine ⟨[("l", Ent.d (.lst mem tag mk cl)), ("e", Ent.d (.ali t))], rfl, _, get_2 ne_le, rfl, _, _, rfl, _, _, rfl, rfl, ?_⟩
  simp only [dSeq, dNext, dBreak, dCont, dDrop, dRet, dRetN, dIfS, dSet, dB, dNotT, dAndT, dOrT, dNot, dAnd, dOr, dIf, dChain, dVar, dC, dOp, dUn, dNil, dCons, dCall, dTup, dLst, pyAll, dSl, dNo, dPart, dAsg, dPar, dDig, dMix, dPutD, dPutM, dM1, dFor, dItL, dItU, dItS, dItR1, dItR2, dItSc, dItZip, dLc, dYes, gdName, wipeD, asP, asB, asI, asS, asL, asU, sliceD, fCmp, fAdd, startD, fI, true_and, and_true, List.getD_cons_zero, List.getD_cons_succ, List.set_cons_zero, List.set_cons_succ, List.map_cons, List.map_nil, List.length_cons, List.length_nil, Nat.zero_add, Nat.reduceAdd, Nat.reduceSub, List.replicate, List.cons_append, List.nil_append, if_true, if_false, reduceIte, Bool.false_eq_true, Bool.not_true, Bool.not_false]
  refine fEqW_of (b := false) (by decide +kernel) (ite_f ?_)
  refine fEqW_of (b := false) (by decide +kernel) (ite_f ?_)
  exact ⟨rfl, a, d, es, "e", t, rfl, rfl, by decide +kernel, hg, hl, ht, h⟩
def F5 : List Str := ["", "a", "[t]", "12345678", "aba"]
def atQ (f u : Str) (d : PyData) : Bool := match d with | .int i => PyData.eqv (.str (cutS u (some i) (some (i + (f.length : Int))))) (.str f) | _ => false
def thereN (f u : Str) : Nat := ((rngD 0 u.length).filter (atQ f u)).length
def okLine (f u : Str) : Bool := isSubj (.str u) && decide (u.length ≤ 17) && (decide (f.length = 0) || (decide (thereN f u = 0) == !inS f u)) && (inS f u || !decide (f.length = 0))
def linP (f : Str) (d : PyData) : Bool := match d with | .str u => okLine f u | _ => false
def gLine25 : FL := fun ds R => ∃ f, ds = [.well, .p (.str f)] ∧ f ∈ F5 ∧ ∀ u, okLine f u = true → R (.p (.str u))
def J0 (ns : List Int) (δ : Dn) : Prop := ∃ y1 y2 y3 y4 y5 y6 y7 y8 y9 y10 y11 y12 y13 y14 y15 y16 y17 y18 y19 y20 : Sl, δ = [.v (.scr ns), y1, y2, y3, y4, y5, y6, y7, y8, y9, y10, y11, y12, y13, y14, y15, y16, y17, y18, y19, y20]
theorem eqv_ss (u t : Str) : PyData.eqv (.str u) (.str t) = decide (u = t) := by
  simp only [PyData.eqv]
  by_cases h : u = t
  · subst h; rw [decide_eq_true rfl]; exact beq_self_eq_true u
  · rw [decide_eq_false h]; exact beq_eq_false_iff_ne.mpr h
mutual
theorem eqv_rf : ∀ d : PyData, d.plain = true → PyData.eqv d d = true
  | .none, _ => rfl
  | .bool b, _ => by simp [PyData.eqv]
  | .int i, _ => by rw [eqv_int]; exact decide_eq_true rfl
  | .str x, _ => eqv_str x
  | .list xs, h => by
    simp only [PyData.plain] at h
    simp only [PyData.eqv]
    exact eqvAll_rf xs h
  | .tuple xs, h => by
    simp only [PyData.plain] at h
    simp only [PyData.eqv]
    exact eqvAll_rf xs h
  | .dict _, h => by simp only [PyData.plain] at h; cases h
theorem eqvAll_rf : ∀ xs : List PyData, PyData.plainAll xs = true → PyData.eqvAll xs xs = true
  | [], _ => rfl
  | x :: xs, h => by
    simp only [PyData.plainAll, Bool.and_eq_true] at h
    simp only [PyData.eqvAll, eqv_rf x h.1, eqvAll_rf xs h.2, Bool.and_self]
end
theorem pl_all : ∀ xs : List PyData, PyData.plainAll xs = xs.all PyData.plain
  | [] => rfl
  | x :: xs => by simp only [PyData.plainAll, List.all_cons, pl_all xs]
theorem pl_msg {s a u : Str} {ms : List Str} : (msgP s a u ms).plain = true := by
  have := plain_strs ms
  simp only [PyData.plain] at this
  simp only [PyData.plain, PyData.plainAll, this, Bool.and_self]
theorem dp_msg {s a u : Str} {ms : List Str} : (msgP s a u ms).depth ≤ 2 := by
  simp only [PyData.depth, PyData.depthAll, depthAll_strs]
  decide
theorem out_ok {e : Ent} {s u : Str} {ms : List Str} : ∀ d ∈ e.out s u ms, ∃ s a u ms, d = msgP s a u ms := by
  intro d hd
  cases e with
  | lst mem tag mk cl =>
    have hd : d ∈ outL mem tag mk cl s u ms := hd
    unfold outL at hd
    split at hd
    · obtain ⟨x, _, rfl⟩ := List.mem_map.mp hd
      exact ⟨_, _, _, _, rfl⟩
    · exact absurd hd List.not_mem_nil
  | ali t => exact ⟨_, _, _, _, List.mem_singleton.mp hd⟩
theorem ne_out {e : Ent} {s u : Str} {ms : List Str} {R : DV → Prop} (h : R (.p (.bool false))) : fEqQ true (.p (.tuple [.list [], .list (e.out s u ms)])) (.p (.tuple [.list [], .list (e.out s u ms)])) R := by
  have p1 : (PyData.tuple [.list [], .list (e.out s u ms)]).plain = true := by
    simp only [PyData.plain, PyData.plainAll, pl_all, Bool.true_and, Bool.and_true]
    exact List.all_eq_true.mpr fun d hd => by obtain ⟨_, _, _, _, rfl⟩ := out_ok d hd; exact pl_msg
  have p2 : (PyData.tuple [.list [], .list (e.out s u ms)]).depth ≤ 60 := by
    simp only [PyData.depth, PyData.depthAll]
    have := dp_all (k := 2) (xs := e.out s u ms) |>.mpr fun d hd => by obtain ⟨_, _, _, _, rfl⟩ := out_ok d hd; exact dp_msg
    omega
  refine ⟨p1, p1, by omega, ?_⟩
  show R (.p (.bool (!PyData.eqv _ _)))
  rw [eqv_rf _ p1]
  exact h
theorem lcN_f {g : TDG} {tt : TB} {te : TD} {δ : Dn} {fin : Nat → Prop} (q : PyData → Bool) : ∀ (ds : List PyData) (n : Nat),
    (∀ d ∈ ds, ∀ (K1 K2 : Prop), (if q d = true then K1 else K2) → g (.p d) δ fun δ2 => tt δ2 fun b => if b = true then te δ2 fun y => asI y fun z => 0 ≤ z ∧ z < 1000 ∧ K1 else K2) →
    fin (n + (ds.filter q).length) → lcN g tt te δ fin ds n
  | [], n, _, h => h
  | d :: ds, n, hd, h => by
    refine hd d List.mem_cons_self _ _ ?_
    by_cases e : q d = true
    · rw [if_pos e]
      rw [List.filter_cons_of_pos e, List.length_cons] at h
      exact lcN_f q ds (n + 1) (fun d' m => hd d' (List.mem_cons_of_mem _ m)) (by rw [show n + 1 + (ds.filter q).length = n + ((ds.filter q).length + 1) by omega]; exact h)
    · rw [if_neg e]
      rw [List.filter_cons_of_neg e] at h
      exact lcN_f q ds n (fun d' m => hd d' (List.mem_cons_of_mem _ m)) h
def thereD : TD := dLcN (dItR1 (dCons (dCall fLen (dCons (dVar 13) dNil)) dNil)) (gdName 17) (dB (dOp (fEqQ false) (dSl (dVar 13) (dPart (dVar 17)) (dPart (dOp fAdd (dVar 17) (dCall fLen (dCons (dVar 5) dNil))))) (dVar 5))) (dVar 17) [17]
def plainD : TD := dOr (dOp fEqW (dVar 5) (dC (.p (.str (Str.ofString ""))))) (dOp fNeWE (dVar 16) (dLst dNil))
def keptD : TD := dIf (dB (dOp (fEqQ true) (dVar 6) (dC (.p (.str (Str.ofString "")))))) (dCall gWm (dCons (dVar 14) (dCons (dVar 6) dNil))) (dVar 14)
def rowsD : TD := dLc (dItU (dVar 4)) (gdName 20) dYes (dTup (dCons (dVar 12) (dCons (dVar 20) (dCons (dIf (dB (dVar 18)) (dVar 13) (dOp fAdd (dVar 5) (dVar 13))) (dCons (dVar 19) dNil))))) [20]
def tailD : TDS := dSeq (dSet 18 plainD) (dSeq (dSet 19 keptD) (dSet 15 rowsD))
def sentD : TDS := dIfS (dOrT (dNotT (dB (dVar 8))) (dB (dOp (fInW false) (dVar 12) (dVar 4)))) (dSeq (dSet 16 thereD) tailD) dNext
theorem there_l {x0 x1 x2 x3 x7 x9 x10 x11 x16 x17 x18 x19 x20 : Sl} {mem ms : List Str} {f mk s u : Str} {cl : Bool} {N : DV → Prop} (hl : u.length ≤ 17) (hf : f.length ≤ 8) (h : finN N (thereN f u)) : thereD [x0, x1, x2, x3, .v (.p (.tuple (mem.map .str))), .v (.p (.str f)), .v (.p (.str mk)), x7, .v (.p (.bool cl)), x9, x10, x11, .v (.p (.str s)), .v (.p (.str u)), .v (.p (.tuple (ms.map .str))), .v (.p (.list [])), x16, x17, x18, x19, x20] N := by
  have zu : u.length ≤ sizeLine := Nat.le_trans hl (by decide)
  have zf : f.length ≤ sizeLine := Nat.le_trans hf (by decide)
  unfold thereD dLcN
  simp only [dSeq, dNext, dBreak, dCont, dDrop, dRet, dRetN, dIfS, dSet, dB, dNotT, dAndT, dOrT, dNot, dAnd, dOr, dIf, dChain, dVar, dC, dOp, dUn, dNil, dCons, dCall, dTup, dLst, pyAll, dSl, dNo, dPart, dAsg, dPar, dDig, dMix, dPutD, dPutM, dM1, dFor, dItL, dItU, dItS, dItR1, dItR2, dItSc, dItZip, dLc, dYes, gdName, wipeD, asP, asB, asI, asS, asL, asU, sliceD, fCmp, fAdd, startD, fI, true_and, and_true, List.getD_cons_zero, List.getD_cons_succ, List.set_cons_zero, List.set_cons_succ, List.map_cons, List.map_nil, List.length_cons, List.length_nil, Nat.zero_add, Nat.reduceAdd, Nat.reduceSub, List.replicate, List.cons_append, List.nil_append, if_true, if_false, reduceIte, Bool.false_eq_true, Bool.not_true, Bool.not_false]
  refine len_str zu ?_
  refine ⟨_, rfl, by omega, by omega, ?_, lcN_f (atQ f u) _ 0 (fun d hd K1 K2 hk => ?_) (by rw [Nat.zero_add]; exact h)⟩
  · show (rngD 0 u.length).length ≤ sizeLine
    unfold rngD
    rw [List.length_map, List.length_range]
    exact zu
  · obtain ⟨k, hk2, rfl⟩ := mem_rng hd
    simp only [dSeq, dNext, dBreak, dCont, dDrop, dRet, dRetN, dIfS, dSet, dB, dNotT, dAndT, dOrT, dNot, dAnd, dOr, dIf, dChain, dVar, dC, dOp, dUn, dNil, dCons, dCall, dTup, dLst, pyAll, dSl, dNo, dPart, dAsg, dPar, dDig, dMix, dPutD, dPutM, dM1, dFor, dItL, dItU, dItS, dItR1, dItR2, dItSc, dItZip, dLc, dYes, gdName, wipeD, asP, asB, asI, asS, asL, asU, sliceD, fCmp, fAdd, startD, fI, true_and, and_true, List.getD_cons_zero, List.getD_cons_succ, List.set_cons_zero, List.set_cons_succ, List.map_cons, List.map_nil, List.length_cons, List.length_nil, Nat.zero_add, Nat.reduceAdd, Nat.reduceSub, List.replicate, List.cons_append, List.nil_append, if_true, if_false, reduceIte, Bool.false_eq_true, Bool.not_true, Bool.not_false]
    refine len_str zf ?_
    refine ⟨zu, rfl, rfl, Nat.zero_le _, ?_⟩
    have hk3 : if PyData.eqv (.str (cutS u (some (0 + (k : Int))) (some (0 + (k : Int) + (f.length : Int))))) (.str f) = true then K1 else K2 := hk
    show if PyData.eqv (.str (cutS u (some (0 + (k : Int))) (some (0 + (k : Int) + (f.length : Int))))) (.str f) = true then 0 ≤ 0 + (k : Int) ∧ 0 + (k : Int) < 1000 ∧ K1 else K2
    by_cases e : PyData.eqv (.str (cutS u (some (0 + (k : Int))) (some (0 + (k : Int) + (f.length : Int))))) (.str f) = true
    · rw [if_pos e] at hk3 ⊢
      exact ⟨by omega, by omega, hk3⟩
    · rw [if_neg e] at hk3 ⊢
      exact hk3
theorem plain_l {x0 x1 x2 x3 x7 x9 x10 x11 x16 x17 x18 x19 x20 : Sl} {mem ms : List Str} {f mk s u : Str} {cl : Bool} {N : DV → Prop} (hu : okLine f u = true) (hx : (x16 = .v .well ∧ thereN f u = 2) ∨ ∃ is : List Int, x16 = .v (.p (.list (is.map .int))) ∧ is.length = thereN f u) (h : N (.p (.bool (inS f u)))) : plainD [x0, x1, x2, x3, .v (.p (.tuple (mem.map .str))), .v (.p (.str f)), .v (.p (.str mk)), x7, .v (.p (.bool cl)), x9, x10, x11, .v (.p (.str s)), .v (.p (.str u)), .v (.p (.tuple (ms.map .str))), .v (.p (.list [])), x16, x17, x18, x19, x20] N := by
  simp only [okLine, Bool.and_eq_true, decide_eq_true_eq] at hu
  obtain ⟨⟨⟨hs, hl⟩, hc⟩, h0⟩ := hu
  unfold plainD
  simp only [dSeq, dNext, dBreak, dCont, dDrop, dRet, dRetN, dIfS, dSet, dB, dNotT, dAndT, dOrT, dNot, dAnd, dOr, dIf, dChain, dVar, dC, dOp, dUn, dNil, dCons, dCall, dTup, dLst, pyAll, dSl, dNo, dPart, dAsg, dPar, dDig, dMix, dPutD, dPutM, dM1, dFor, dItL, dItU, dItS, dItR1, dItR2, dItSc, dItZip, dLc, dYes, gdName, wipeD, asP, asB, asI, asS, asL, asU, sliceD, fCmp, fAdd, startD, fI, true_and, and_true, List.getD_cons_zero, List.getD_cons_succ, List.set_cons_zero, List.set_cons_succ, List.map_cons, List.map_nil, List.length_cons, List.length_nil, Nat.zero_add, Nat.reduceAdd, Nat.reduceSub, List.replicate, List.cons_append, List.nil_append, if_true, if_false, reduceIte, Bool.false_eq_true, Bool.not_true, Bool.not_false]
  by_cases f0 : f = ""
  · refine fEqW_of (b := true) (decide_eq_true f0) ?_
    subst f0
    rw [show inS ("" : Str) u = true by cases q : inS ("" : Str) u with | true => rfl | false => rw [q] at h0; exact absurd h0 (by decide)] at h
    exact h
  · refine fEqW_of (b := false) (decide_eq_false f0) ?_
    have fl : ¬ f.length = 0 := fun z => f0 (by
      cases f with | mk a =>
      have z : a.size = 0 := z
      rw [show a = #[] from Array.size_eq_zero_iff.mp z]
      decide +kernel)
    rw [decide_eq_false fl, Bool.false_or] at hc
    have hc' := eq_of_beq hc
    rcases hx with ⟨rfl, n2⟩ | ⟨is, rfl, e⟩
    · refine ⟨by decide, rfl, rfl, .inl ⟨rfl, ?_⟩⟩
      rw [n2] at hc'
      rw [show inS f u = true by cases q : inS f u with | true => rfl | false => rw [q] at hc'; exact absurd hc' (by decide)] at h
      exact h
    · refine ⟨by decide, rfl, rfl, .inr ⟨_, rfl, ?_⟩⟩
      have e2 : (!(is.map PyData.int).isEmpty) = inS f u := by
        rw [← e] at hc'
        cases is with
        | nil => cases q : inS f u with | false => rfl | true => rw [q] at hc'; exact absurd hc' (by decide)
        | cons a l => cases q : inS f u with | true => rfl | false => rw [q] at hc'; simp at hc'
      rw [e2]
      exact h
theorem kept_l {x0 x1 x2 x3 x7 x9 x10 x11 x16 x17 x18 x19 x20 : Sl} {mem ms : List Str} {f mk s u : Str} {cl : Bool} {N : DV → Prop} (hm : ms.length ≤ 50) (h : N (.p (.tuple ((keptS mk ms).map .str)))) : keptD [x0, x1, x2, x3, .v (.p (.tuple (mem.map .str))), .v (.p (.str f)), .v (.p (.str mk)), x7, .v (.p (.bool cl)), x9, x10, x11, .v (.p (.str s)), .v (.p (.str u)), .v (.p (.tuple (ms.map .str))), .v (.p (.list [])), x16, x17, x18, x19, x20] N := by
  unfold keptD
  simp only [dSeq, dNext, dBreak, dCont, dDrop, dRet, dRetN, dIfS, dSet, dB, dNotT, dAndT, dOrT, dNot, dAnd, dOr, dIf, dChain, dVar, dC, dOp, dUn, dNil, dCons, dCall, dTup, dLst, pyAll, dSl, dNo, dPart, dAsg, dPar, dDig, dMix, dPutD, dPutM, dM1, dFor, dItL, dItU, dItS, dItR1, dItR2, dItSc, dItZip, dLc, dYes, gdName, wipeD, asP, asB, asI, asS, asL, asU, sliceD, fCmp, fAdd, startD, fI, true_and, and_true, List.getD_cons_zero, List.getD_cons_succ, List.set_cons_zero, List.set_cons_succ, List.map_cons, List.map_nil, List.length_cons, List.length_nil, Nat.zero_add, Nat.reduceAdd, Nat.reduceSub, List.replicate, List.cons_append, List.nil_append, if_true, if_false, reduceIte, Bool.false_eq_true, Bool.not_true, Bool.not_false]
  refine ⟨rfl, rfl, Nat.zero_le _, ?_⟩
  show if (!PyData.eqv (.str mk) (.str (Str.ofString ""))) = true then gWm [.p (.tuple (ms.map .str)), .p (.str mk)] N else N (.p (.tuple (ms.map .str)))
  rw [eqv_ss]
  by_cases q : mk = Str.ofString ""
  · rw [decide_eq_true q]
    rw [keptS, if_pos (by rw [q]; decide)] at h
    exact h
  · rw [decide_eq_false q]
    have fl : ¬ mk.length = 0 := fun z => q (by
      cases mk with | mk a =>
      have z : a.size = 0 := z
      rw [show a = #[] from Array.size_eq_zero_iff.mp z]
      decide +kernel)
    rw [keptS, if_neg fl] at h
    exact ⟨ms, mk, rfl, hm, h⟩
theorem rows_l {x0 x1 x2 x3 x7 x9 x10 x11 x16 x17 x18 x19 x20 : Sl} {mem ms : List Str} {f mk s u : Str} {cl : Bool} {N : DV → Prop} {k2 : List Str} (gm : GoodM mem) (hl : u.length ≤ 17) (hf : f.length ≤ 8) (h : N (.p (.list (mem.map fun m => msgP s m (lineS f u) k2)))) : rowsD [x0, x1, x2, x3, .v (.p (.tuple (mem.map .str))), .v (.p (.str f)), .v (.p (.str mk)), x7, .v (.p (.bool cl)), x9, x10, x11, .v (.p (.str s)), .v (.p (.str u)), .v (.p (.tuple (ms.map .str))), .v (.p (.list [])), x16, x17, .v (.p (.bool (inS f u))), .v (.p (.tuple (k2.map .str))), x20] N := by
  unfold rowsD
  simp only [dSeq, dNext, dBreak, dCont, dDrop, dRet, dRetN, dIfS, dSet, dB, dNotT, dAndT, dOrT, dNot, dAnd, dOr, dIf, dChain, dVar, dC, dOp, dUn, dNil, dCons, dCall, dTup, dLst, pyAll, dSl, dNo, dPart, dAsg, dPar, dDig, dMix, dPutD, dPutM, dM1, dFor, dItL, dItU, dItS, dItR1, dItR2, dItSc, dItZip, dLc, dYes, gdName, wipeD, asP, asB, asI, asS, asL, asU, sliceD, fCmp, fAdd, startD, fI, true_and, and_true, List.getD_cons_zero, List.getD_cons_succ, List.set_cons_zero, List.set_cons_succ, List.map_cons, List.map_nil, List.length_cons, List.length_nil, Nat.zero_add, Nat.reduceAdd, Nat.reduceSub, List.replicate, List.cons_append, List.nil_append, if_true, if_false, reduceIte, Bool.false_eq_true, Bool.not_true, Bool.not_false]
  refine ⟨by rw [List.length_map]; exact sz gm.len, lc_map (fun d => .tuple [.str s, d, .str (lineS f u), .tuple (k2.map .str)]) (fun d hd K1 hk => ?_) ?_⟩
  · simp only [dSeq, dNext, dBreak, dCont, dDrop, dRet, dRetN, dIfS, dSet, dB, dNotT, dAndT, dOrT, dNot, dAnd, dOr, dIf, dChain, dVar, dC, dOp, dUn, dNil, dCons, dCall, dTup, dLst, pyAll, dSl, dNo, dPart, dAsg, dPar, dDig, dMix, dPutD, dPutM, dM1, dFor, dItL, dItU, dItS, dItR1, dItR2, dItSc, dItZip, dLc, dYes, gdName, wipeD, asP, asB, asI, asS, asL, asU, sliceD, fCmp, fAdd, startD, fI, true_and, and_true, List.getD_cons_zero, List.getD_cons_succ, List.set_cons_zero, List.set_cons_succ, List.map_cons, List.map_nil, List.length_cons, List.length_nil, Nat.zero_add, Nat.reduceAdd, Nat.reduceSub, List.replicate, List.cons_append, List.nil_append, if_true, if_false, reduceIte, Bool.false_eq_true, Bool.not_true, Bool.not_false]
    by_cases q : inS f u = true
    · rw [lineS, if_pos q] at hk
      rw [if_pos q]
      exact ⟨(show 4 ≤ sizeLine by decide), hk⟩
    · rw [lineS, if_neg q] at hk
      rw [if_neg q]
      exact ⟨Nat.le_trans (show f.length + u.length ≤ 25 by omega) (by decide), (show 4 ≤ sizeLine by decide), hk⟩
  · rw [List.map_map]
    exact h
theorem sent_part {E : DE} {x0 x1 x2 x3 x7 x9 x10 x11 x16 x17 x18 x19 x20 : Sl} {mem ms : List Str} {f mk s u : Str} {cl : Bool} (gm : GoodM mem) (hm : ms.length ≤ 50) (hk : mk.length ≤ 12) (hu : okLine f u = true) (hf : f.length ≤ 8)
    (h : ∀ y16 y17 y18 y19 y20, E.nx [x0, x1, x2, x3, .v (.p (.tuple (mem.map .str))), .v (.p (.str f)), .v (.p (.str mk)), x7, .v (.p (.bool cl)), x9, x10, x11, .v (.p (.str s)), .v (.p (.str u)), .v (.p (.tuple (ms.map .str))), .v (.p (.list (outL mem f mk cl s u ms))), y16, y17, y18, y19, y20]) :
    sentD E [x0, x1, x2, x3, .v (.p (.tuple (mem.map .str))), .v (.p (.str f)), .v (.p (.str mk)), x7, .v (.p (.bool cl)), x9, x10, x11, .v (.p (.str s)), .v (.p (.str u)), .v (.p (.tuple (ms.map .str))), .v (.p (.list [])), x16, x17, x18, x19, x20] := by
  have hl : u.length ≤ 17 := by
    simp only [okLine, Bool.and_eq_true, decide_eq_true_eq] at hu
    exact hu.1.1.2
  have zu : u.length ≤ sizeLine := Nat.le_trans hl (by decide)
  have zf : f.length ≤ sizeLine := Nat.le_trans hf (by decide)
  unfold sentD
  by_cases hg : goesB cl s mem = true
  · unfold dIfS
    have tst : ∀ (δ : Dn) (K : Bool → Prop), δ.getD 8 .un = .v (.p (.bool cl)) → δ.getD 12 .un = .v (.p (.str s)) → δ.getD 4 .un = .v (.p (.tuple (mem.map .str))) → K true → dOrT (dNotT (dB (dVar 8))) (dB (dOp (fInW false) (dVar 12) (dVar 4))) δ K := fun δ K e1 e2 e3 hK => by
      simp only [dOrT, dNotT, dB, dVar, dOp, e1, e2, e3, asB]
      cases cl with
      | false => exact hK
      | true =>
        refine ⟨mem, rfl, ?_⟩
        show K (inW (.str s) mem)
        rw [show inW (.str s) mem = true from hg]
        exact hK
    refine tst _ _ rfl rfl rfl (ite_t ?_)
    rw [outL, if_pos hg] at h
    have tl : ∀ x : Sl, ((x = .v .well ∧ thereN f u = 2) ∨ ∃ is : List Int, x = .v (.p (.list (is.map .int))) ∧ is.length = thereN f u) → tailD E [x0, x1, x2, x3, .v (.p (.tuple (mem.map .str))), .v (.p (.str f)), .v (.p (.str mk)), x7, .v (.p (.bool cl)), x9, x10, x11, .v (.p (.str s)), .v (.p (.str u)), .v (.p (.tuple (ms.map .str))), .v (.p (.list [])), x, x17, x18, x19, x20] := fun x hx =>
      st_set (plain_l hu hx (st_set (kept_l hm (rows_l (x18 := x18) (x19 := x19) gm hl hf (h _ _ _ _ _)))))
    exact st_set (there_l hl hf ⟨fun n2 => tl _ (.inl ⟨rfl, n2⟩), fun n2 is e => tl _ (.inr ⟨is, rfl, e⟩)⟩)
  · obtain ⟨rfl, q⟩ := goes_f hg
    rw [outL, if_neg hg] at h
    refine ⟨mem, rfl, ?_⟩
    show (if inW (.str s) mem = true then _ else _)
    rw [q]
    exact h _ _ _ _ _
def chkD (C : Addr) (n : Str) (tw : TD) : TDS := dIfS (dB (dOp (fEqQ true) (dLend 10 (dCall (gArr C) (dCons (dVar 10) (dCons (dTup (dCons (dVar 12) (dCons (dC (.p (.str n))) (dCons (dVar 13) (dCons (dVar 14) dNil))))) dNil)))) (dTup (dCons (dLst dNil) (dCons tw dNil))))) (dRet (dC (.p (.bool false)))) dNext
theorem chk_l {E : DE} {δ : Dn} {C a d : Addr} {es : Ents} {s n u : Str} {ms : List Str} {e : Ent} {tw : TD} (h10 : δ.getD 10 .un = .od (.hs C a d es)) (h12 : (δ.set 10 (.v (.hs C es))).getD 12 .un = .v (.p (.str s))) (h13 : (δ.set 10 (.v (.hs C es))).getD 13 .un = .v (.p (.str u))) (h14 : (δ.set 10 (.v (.hs C es))).getD 14 .un = .v (.p (.tuple (ms.map .str)))) (hh : (δ.set 10 (.v (.hs C es))).getD 10 .un = .v (.hs C es))
    (htw : ∀ N : DV → Prop, N (.p (.list (e.out s u ms))) → tw δ N) (hi : isMsg (msgP s n u ms) = true) (hw : Wt (msgP s n u ms)) (hg : getE es n = some (Ent.d e)) (he : e.ok) (hu : u.length ≤ 100) (hm : ms.length ≤ 50) (h : E.nx δ) : chkD C n tw E δ := by
  unfold chkD dIfS dB dOp dLend
  simp only [h10]
  unfold dCall
  simp only [dCons, dTup, dVar, hh, h12, h13, h14, dNil, dC, pyAll, asP]
  refine ⟨(show 4 ≤ sizeLine by decide), es, s, n, u, ms, e, rfl, hi, hw, hg, he, hu, hm, ?_⟩
  refine ⟨by decide, rfl, htw _ ⟨(show 2 ≤ sizeLine by decide), ne_out ?_⟩⟩
  exact h
def M4 : List (List Str) := [[], ["p"], ["a", "q"], ["auto", "zz"]]
theorem ok_M4 : ∀ ms ∈ M4, isNT (.tuple (ms.map .str)) = true ∧ ms.length ≤ 50 ∧ PyData.weightAll (ms.map .str) ≤ 20 := by decide +kernel
def sndrD : TD := dCall gChoose (dCons (dVar 2) (dCons (dOp fAdd (dCall fList (dCons (dVar 4) dNil)) (dLst (dCons (dC (.p (.str (Str.ofString "zoe")))) (dCons (dC (.p (.str (Str.ofString "l")))) dNil)))) dNil))
def marksD : TD := dCall gChoose (dCons (dVar 2) (dCons (dLst (dCons (dTup dNil) (dCons (dTup (dCons (dC (.p (.str (Str.ofString "p")))) dNil)) (dCons (dTup (dCons (dC (.p (.str (Str.ofString "a")))) (dCons (dC (.p (.str (Str.ofString "q")))) dNil))) (dCons (dTup (dCons (dC (.p (.str (Str.ofString "auto")))) (dCons (dC (.p (.str (Str.ofString "zz")))) dNil))) dNil))))) dNil))
def lineD : TDS := dAsg (dTup (dCons (dCall gLine25 (dCons (dVar 2) (dCons (dVar 5) dNil))) (dCons marksD dNil))) (gdTup 2 (gdCons (gdName 13) (gdCons (gdName 14) gdNil)))
def aliD : TD := dLst (dCons (dTup (dCons (dVar 12) (dCons (dVar 7) (dCons (dVar 13) (dCons (dVar 14) dNil))))) dNil)
def lookD (C : Addr) : TDS := dSeq (dSet 12 sndrD) (dSeq lineD (dSeq (dSet 15 (dLst dNil)) (dSeq sentD (dSeq (chkD C (Str.ofString "l") (dVar 15)) (chkD C (Str.ofString "e") aliD)))))
theorem sndr_l {δ : Dn} {N : DV → Prop} {mem : List Str} (gm : GoodM mem) (h2 : δ.getD 2 .un = .v .well) (h4 : δ.getD 4 .un = .v (.p (.tuple (mem.map .str)))) (h : ∀ s, isName (.str s) = true → N (.p (.str s))) : sndrD δ N := by
  unfold sndrD dCall
  simp only [dCons, dVar, h2, h4, dNil, dOp]
  refine ⟨_, .inr rfl, nP_strs _, by decide, rfl, ?_, ?_, _, rfl, ?_, ?_, fun x hx => ?_⟩
  · rw [List.length_map]
    exact Nat.le_trans (Nat.add_le_add_right gm.len 2) (by decide)
  · rw [show mem.map PyData.str ++ [PyData.str (Str.ofString "zoe"), PyData.str (Str.ofString "l")] = (mem ++ [Str.ofString "zoe", Str.ofString "l"]).map .str by rw [List.map_append]; rfl]
    exact nP_strs _
  · rw [List.length_append]
    exact Nat.lt_of_lt_of_le (show 0 < 2 by decide) (Nat.le_add_left _ _)
  · rw [List.length_append, List.length_map]
    have := gm.len
    show mem.length + 2 < 1000000
    omega
  · rcases List.mem_append.mp hx with m | m
    · obtain ⟨s, hs, rfl⟩ := List.mem_map.mp m
      exact h s (gm.nm s hs)
    · rcases List.mem_cons.mp m with rfl | m
      · exact h _ (by decide +kernel)
      · rw [List.mem_singleton.mp m]
        exact h _ (by decide +kernel)
theorem marks_l {δ : Dn} {N : DV → Prop} (h2 : δ.getD 2 .un = .v .well) (h : ∀ ms ∈ M4, N (.p (.tuple (ms.map .str)))) : marksD δ N := by
  unfold marksD dCall
  simp only [dCons, dVar, h2, dNil]
  refine ⟨(show 0 ≤ sizeLine by decide), (show 1 ≤ sizeLine by decide), (show 2 ≤ sizeLine by decide), (show 2 ≤ sizeLine by decide), (show 4 ≤ sizeLine by decide), rfl, _, rfl, by decide, by decide, fun x hx => ?_⟩
  obtain ⟨ms, hm, rfl⟩ := List.mem_map.mp (show x ∈ M4.map (fun ms => PyData.tuple (ms.map .str)) from hx)
  exact h ms hm
theorem wt_msg {s n u : Str} {ms : List Str} (h1 : s.length ≤ 12) (h2 : n.length ≤ 12) (h3 : u.length ≤ 17) (h4 : PyData.weightAll (ms.map .str) ≤ 20) : Wt (msgP s n u ms) := by
  show PyData.weight (msgP s n u ms) ≤ 4000
  simp only [PyData.weight, PyData.weightAll]
  have h1 : s.cps.size ≤ 12 := h1
  have h2 : n.cps.size ≤ 12 := h2
  have h3 : u.cps.size ≤ 17 := h3
  omega
theorem msg_ok {s n u : Str} {ms : List Str} (h1 : isName (.str s) = true) (h2 : isName (.str n) = true) (h3 : isSubj (.str u) = true) (h4 : isNT (.tuple (ms.map .str)) = true) : isMsg (msgP s n u ms) = true := by
  show (isName (.str s) && isName (.str n) && isSubj (.str u) && isNT (.tuple (ms.map .str))) = true
  rw [h1, h2, h3, h4]
  rfl
theorem look_l {E : DE} {C a d : Addr} {es : Ents} {x0 x1 x3 x9 x11 x12 x13 x14 x15 x16 x17 x18 x19 x20 : Sl} {mem : List Str} {f mk t : Str} {cl : Bool} (gl : GoodL mem f mk) (ht : isName (.str t) = true) (hf : f ∈ F5)
    (hl : getE es "l" = some (Ent.d (.lst mem f mk cl))) (he : getE es "e" = some (Ent.d (.ali t)))
    (h : ∀ y11 y12 y13 y14 y15 y16 y17 y18 y19 y20, E.nx [x0, x1, .v .well, x3, .v (.p (.tuple (mem.map .str))), .v (.p (.str f)), .v (.p (.str mk)), .v (.p (.str t)), .v (.p (.bool cl)), x9, .od (.hs C a d es), y11, y12, y13, y14, y15, y16, y17, y18, y19, y20]) :
    lookD C E [x0, x1, .v .well, x3, .v (.p (.tuple (mem.map .str))), .v (.p (.str f)), .v (.p (.str mk)), .v (.p (.str t)), .v (.p (.bool cl)), x9, .od (.hs C a d es), x11, x12, x13, x14, x15, x16, x17, x18, x19, x20] := by
  refine st_set (sndr_l gl.mm rfl rfl fun s hs => ?_)
  refine ⟨f, rfl, hf, fun u hu => marks_l rfl fun ms hms => ⟨(show 2 ≤ sizeLine by decide), rfl, _, _, rfl, _, _, rfl, rfl, ?_⟩⟩
  obtain ⟨m1, m2, m3⟩ := ok_M4 ms hms
  have hu' := hu
  simp only [okLine, Bool.and_eq_true, decide_eq_true_eq] at hu'
  obtain ⟨⟨⟨hsu, hul⟩, _⟩, _⟩ := hu'
  refine ⟨by decide, rfl, ?_⟩
  refine sent_part gl.mm m2 (mkLen gl.mr) hu (tagLen gl.tg) fun y16 y17 y18 y19 y20 => ?_
  dsimp only
  unfold dSeq
  refine chk_l (n := Str.ofString "l") (tw := dVar 15) (e := .lst mem f mk cl) (by rfl) (by rfl) (by rfl) (by rfl) (by rfl) (by exact fun N hN => hN) (msg_ok hs (by decide +kernel) hsu m1) (wt_msg (isName_str hs) (by decide) hul m3) hl gl (Nat.le_trans hul (by decide)) m2 ?_
  dsimp only
  refine chk_l (n := Str.ofString "e") (tw := aliD) (e := .ali t) (by rfl) (by rfl) (by rfl) (by rfl) (by rfl) (by exact fun N hN => ⟨(show 4 ≤ sizeLine by decide), (show 1 ≤ sizeLine by decide), rfl, hN⟩) (msg_ok hs (by decide +kernel) hsu m1) (wt_msg (isName_str hs) (by decide) hul m3) he ht (Nat.le_trans hul (by decide)) m2 ?_
  exact h _ _ _ _ _ _ _ _ _ _
def X3 : List Str := ["l", "e", "x"]
def T3 : List Str := ["", "p", "auto"]
theorem ok_F5 : ∀ f ∈ F5, isTxt (.str f) = true ∨ f = "" := by decide +kernel
theorem ok_T3 : ∀ f ∈ T3, isName (.str f) = true ∨ f = "" := by decide +kernel
theorem ok_X3 : ∀ f ∈ X3, isName (.str f) = true := by decide +kernel
def M8 : List Str := ["b", "c", "l", "e", "x", "y", "u", "v"]
theorem ok_M8 : (∀ f ∈ M8, isName (.str f) = true) ∧ M8.Nodup := by decide +kernel
def memD : TD := dCall fTuple (dCons (dSl (dCall gShuf25 (dCons (dVar 2) (dCons (dLst (dCons (dC (.p (.str (Str.ofString "b")))) (dCons (dC (.p (.str (Str.ofString "c")))) (dCons (dC (.p (.str (Str.ofString "l")))) (dCons (dC (.p (.str (Str.ofString "e")))) (dCons (dC (.p (.str (Str.ofString "x")))) (dCons (dC (.p (.str (Str.ofString "y")))) (dCons (dC (.p (.str (Str.ofString "u")))) (dCons (dC (.p (.str (Str.ofString "v")))) dNil))))))))) dNil))) dNo (dPart (dCall gDraw (dCons (dVar 2) (dCons (dC (.p (.int 9))) dNil))))) dNil)
def frontD : TD := dCall gChoose (dCons (dVar 2) (dCons (dLst (dCons (dC (.p (.str (Str.ofString "")))) (dCons (dC (.p (.str (Str.ofString "a")))) (dCons (dC (.p (.str (Str.ofString "[t]")))) (dCons (dC (.p (.str (Str.ofString "12345678")))) (dCons (dC (.p (.str (Str.ofString "aba")))) dNil)))))) dNil))
def tokD : TD := dCall gChoose (dCons (dVar 2) (dCons (dLst (dCons (dC (.p (.str (Str.ofString "")))) (dCons (dC (.p (.str (Str.ofString "p")))) (dCons (dC (.p (.str (Str.ofString "auto")))) dNil)))) dNil))
def targD : TD := dCall gChoose (dCons (dVar 2) (dCons (dLst (dCons (dC (.p (.str (Str.ofString "l")))) (dCons (dC (.p (.str (Str.ofString "e")))) (dCons (dC (.p (.str (Str.ofString "x")))) dNil)))) dNil))
def parD : TDS := dPar 7 8 (dCons targD (dCons (dOp (fEqQ false) (dCall gDraw (dCons (dVar 2) (dCons (dC (.p (.int 2))) dNil))) (dC (.p (.int 0)))) dNil))
def pagesT : TD := dDispS [(dC (.p (.str (Str.ofString "l"))), dTup (dCons (dC (.p (.str (Str.ofString "list")))) (dCons (dTup (dCons (dVar 4) (dCons (dVar 5) (dCons (dVar 6) (dCons (dVar 8) dNil))))) dNil))), (dC (.p (.str (Str.ofString "e"))), dTup (dCons (dC (.p (.str (Str.ofString "alias")))) (dCons (dVar 7) dNil)))]
def turnD (C : Addr) : TDS := dSeq (dSet 4 memD) (dSeq (dSet 5 frontD) (dSeq (dSet 6 tokD) (dSeq parD (dSeq (dSet 9 pagesT) (dSeq (dSetN 10 (dCallN (nHouse C) (dCons (dVar 2) (dCons (dVar 9) dNil)))) (dFor (dItR1 (dCons (dC (.p (.int 5))) dNil)) (gdName 11) (lookD C)))))))
theorem mem_l {δ : Dn} {N : DV → Prop} (h2 : δ.getD 2 .un = .v .well) (h : ∀ mem, GoodM mem → N (.p (.tuple (mem.map .str)))) : memD δ N := by
  unfold memD dCall
  simp only [dCons, dVar, h2, dNil, dSl, dNo, dPart]
  refine ⟨(show 8 ≤ sizeLine by decide), rfl, M8, rfl, by decide, fun ys hp => ?_⟩
  refine ⟨9, rfl, by decide, by decide, fun k hk => ?_⟩
  show nP (cutD (ys.map .str) none (some (k : Int))) = true ∧ fTuple [.p (.list (cutD (ys.map .str) none (some (k : Int))))] N
  rw [cut_to, ← List.map_take]
  refine ⟨nP_strs _, _, .inl rfl, h _ ⟨?_, fun x hx => ok_M8.1 x (hp.subset (List.mem_of_mem_take hx)), ?_⟩⟩
  · have := hp.length_eq
    rw [List.length_take]
    have e8 : M8.length = 8 := rfl
    omega
  · exact (hp.nodup_iff.mpr ok_M8.2).sublist (List.take_sublist _ _)
theorem front_l {δ : Dn} {N : DV → Prop} (h2 : δ.getD 2 .un = .v .well) (h : ∀ f ∈ F5, N (.p (.str f))) : frontD δ N := by
  unfold frontD dCall
  simp only [dCons, dVar, h2, dNil]
  refine ⟨(show 5 ≤ sizeLine by decide), rfl, _, rfl, by decide, by decide, fun x hx => ?_⟩
  obtain ⟨f, hf, rfl⟩ := List.mem_map.mp (show x ∈ F5.map PyData.str from hx)
  exact h f hf
theorem tok_l {δ : Dn} {N : DV → Prop} (h2 : δ.getD 2 .un = .v .well) (h : ∀ f ∈ T3, N (.p (.str f))) : tokD δ N := by
  unfold tokD dCall
  simp only [dCons, dVar, h2, dNil]
  refine ⟨(show 3 ≤ sizeLine by decide), rfl, _, rfl, by decide, by decide, fun x hx => ?_⟩
  obtain ⟨f, hf, rfl⟩ := List.mem_map.mp (show x ∈ T3.map PyData.str from hx)
  exact h f hf
theorem targ_l {δ : Dn} {N : DV → Prop} (h2 : δ.getD 2 .un = .v .well) (h : ∀ f ∈ X3, N (.p (.str f))) : targD δ N := by
  unfold targD dCall
  simp only [dCons, dVar, h2, dNil]
  refine ⟨(show 3 ≤ sizeLine by decide), rfl, _, rfl, by decide, by decide, fun x hx => ?_⟩
  obtain ⟨f, hf, rfl⟩ := List.mem_map.mp (show x ∈ X3.map PyData.str from hx)
  exact h f hf
theorem par_l {E : DE} {δ : Dn} (h2 : δ.getD 2 .un = .v .well) (h : ∀ t ∈ X3, ∀ cl : Bool, E.nx ((δ.set 7 (.v (.p (.str t)))).set 8 (.v (.p (.bool cl))))) : parD E δ := by
  refine targ_l h2 fun t ht => ?_
  unfold dOp dCall
  simp only [dCons, dVar, h2, dNil, dC]
  refine ⟨2, rfl, by decide, by decide, fun k hk => eq_int ⟨_, _, rfl, h t ht _⟩⟩
theorem pages_l {δ : Dn} {N : DV → Prop} {mem : List Str} {f mk t : Str} {cl : Bool} (h4 : δ.getD 4 .un = .v (.p (.tuple (mem.map .str)))) (h5 : δ.getD 5 .un = .v (.p (.str f))) (h6 : δ.getD 6 .un = .v (.p (.str mk))) (h7 : δ.getD 7 .un = .v (.p (.str t))) (h8 : δ.getD 8 .un = .v (.p (.bool cl)))
    (h : N (.p (pagesD (.lst mem f mk cl) (.ali t)))) : pagesT δ N := by
  unfold pagesT dDispS
  simp only [dPairs, dC, dTup, dCons, dVar, h4, h5, h6, h7, h8, dNil, pyAll, asP, asS]
  refine ⟨(show 4 ≤ sizeLine by decide), (show 2 ≤ sizeLine by decide), (show 2 ≤ sizeLine by decide), (show 2 ≤ 15 by decide), ?_⟩
  rw [mergeE, List.foldl_cons, List.foldl_cons, List.foldl_nil, put_1, put_2 ne_le]
  exact h
theorem turn_l {E : DE} {C : Addr} {x0 x1 x3 x4 x5 x6 x7 x8 x9 x10 x11 x12 x13 x14 x15 x16 x17 x18 x19 x20 : Sl}
    (h : ∀ y3 y4 y5 y6 y7 y8 y9 y10 y11 y12 y13 y14 y15 y16 y17 y18 y19 y20, E.nx [x0, x1, .v .well, y3, y4, y5, y6, y7, y8, y9, y10, y11, y12, y13, y14, y15, y16, y17, y18, y19, y20]) :
    turnD C E [x0, x1, .v .well, x3, x4, x5, x6, x7, x8, x9, x10, x11, x12, x13, x14, x15, x16, x17, x18, x19, x20] := by
  refine st_set (mem_l rfl fun mem gm => st_set (front_l rfl fun f hf => st_set (tok_l rfl fun mk hmk => ?_)))
  refine par_l rfl fun t ht cl => ?_
  dsimp only
  refine st_set ?_
  refine (pages_l (mem := mem) (f := f) (mk := mk) (t := t) (cl := cl) (by rfl) (by rfl) (by rfl) (by rfl) (by rfl) ?_)
  have gl : GoodL mem f mk := ⟨gm, ok_F5 f hf, ok_T3 mk hmk⟩
  refine ⟨mem, f, mk, cl, t, rfl, gl, ok_X3 t ht, fun a d es hl he => ?_⟩
  refine ⟨5, rfl, by decide, by decide, for_inv (fun δ => ∃ y11 y12 y13 y14 y15 y16 y17 y18 y19 y20, δ = [x0, x1, .v .well, x3, .v (.p (.tuple (mem.map .str))), .v (.p (.str f)), .v (.p (.str mk)), .v (.p (.str t)), .v (.p (.bool cl)), .v (.p (pagesD (.lst mem f mk cl) (.ali t))), .od (.hs C a d es), y11, y12, y13, y14, y15, y16, y17, y18, y19, y20]) _ _ ⟨_, _, _, _, _, _, _, _, _, _, rfl⟩ (fun dd hd δ' hJ E' hrt hnx _ _ => ?_) fun δ' hJ => ?_⟩
  · obtain ⟨y11, y12, y13, y14, y15, y16, y17, y18, y19, y20, rfl⟩ := hJ
    exact look_l gl (ok_X3 t ht) hf hl he fun z11 z12 z13 z14 z15 z16 z17 z18 z19 z20 => hnx _ ⟨_, _, _, _, _, _, _, _, _, _, rfl⟩
  · obtain ⟨y11, y12, y13, y14, y15, y16, y17, y18, y19, y20, rfl⟩ := hJ
    exact h _ _ _ _ _ _ _ _ _ _ _ _ _ _ _ _ _ _
end MR

namespace MR
open PySem PySem.Spec PyProof.Rows L2
section
variable {P : Program} {w : World} {K : PySem.W.Frag} {mg : Str → Option Value} {base : Heap}
theorem ok_is_name (T : Tx K mg) {k : Nat} (hk : 1 ≤ k) : FnG P w K mg base CX0 k T.a_is_name T.d_is_name ["value"] (spD ⟨K, P, w⟩ (gP isName)) :=
  (okB T.F_is_name sc_is_name (fun ds R h => by obtain ⟨_, rfl, _⟩ := h; rfl) fun cdv A gd outer s H E hr => ⟨_, (dss_one (ds_ret (de_and (de_callB cd_isi (by rfl) T.n_isinstance bt_isinstance (da_cons (dv 0) (da_cons (de_bltn (v := .ty "str") (u := .type "str") (by rfl) T.n_str bt_str rfl) da_nil))) (de_and (de_chain od_le od_le de_int (de_callB cd_len (by rfl) T.n_len bt_len (da_cons (dv 0) da_nil)) (de_glob (d := .p (.int 12)) (v := .int 12) (by rfl) T.c_MOST_LETTERS ⟨_, rfl⟩ (fun _ => rfl))) (de_one (de_callB (cd_all rfl) (by rfl) T.n_all bt_all (da_cons (de_lc (own := [("letter", 1)]) rfl sc_is_name.nd (di_str (dv 0)) (blkOk_by (N := ["value", "letter"]) (own := [("letter", 1)]) (sc := defScope s_is_name) (by decide +kernel)) (fun _ _ _ _ _ => (dg_name (i := 1) (by decide) sc_is_name.nd rfl (by first | exact Or.inl rfl | exact Or.inr rfl))) (fun _ _ _ _ _ => dts_nil) (fun _ _ _ _ _ => (de_chain od_le od_le de_str (dv 1) de_str))) da_nil))))))), fun ds R h => by
      obtain ⟨d, rfl, hw, h⟩ := h
      simp only [dSeq, dNext, dBreak, dCont, dDrop, dRet, dRetN, dIfS, dSet, dB, dNotT, dAndT, dOrT, dNot, dAnd, dOr, dIf, dChain, dVar, dC, dOp, dUn, dNil, dCons, dCall, dTup, dLst, pyAll, dSl, dNo, dPart, dAsg, dPar, dDig, dMix, dPutD, dPutM, dM1, dFor, dItL, dItU, dItS, dItR1, dItR2, dItSc, dItZip, dLc, dYes, gdName, wipeD, asP, asB, asI, asS, asL, asU, sliceD, fCmp, fAdd, startD, fI, true_and, and_true, List.getD_cons_zero, List.getD_cons_succ, List.set_cons_zero, List.set_cons_succ, List.map_cons, List.map_nil, List.length_cons, List.length_nil, Nat.zero_add, Nat.reduceAdd, Nat.reduceSub, List.replicate, List.cons_append, List.nil_append, if_true, if_false, reduceIte, Bool.false_eq_true, Bool.not_true, Bool.not_false]
      refine isi_str ?_
      cases d with
      | str x =>
        have hx := wt_str hw
        simp only [isS, isName] at h ⊢
        simp only [dSeq, dNext, dBreak, dCont, dDrop, dRet, dRetN, dIfS, dSet, dB, dNotT, dAndT, dOrT, dNot, dAnd, dOr, dIf, dChain, dVar, dC, dOp, dUn, dNil, dCons, dCall, dTup, dLst, pyAll, dSl, dNo, dPart, dAsg, dPar, dDig, dMix, dPutD, dPutM, dM1, dFor, dItL, dItU, dItS, dItR1, dItR2, dItSc, dItZip, dLc, dYes, gdName, wipeD, asP, asB, asI, asS, asL, asU, sliceD, fCmp, fAdd, startD, fI, true_and, and_true, List.getD_cons_zero, List.getD_cons_succ, List.set_cons_zero, List.set_cons_succ, List.map_cons, List.map_nil, List.length_cons, List.length_nil, Nat.zero_add, Nat.reduceAdd, Nat.reduceSub, List.replicate, List.cons_append, List.nil_append, if_true, if_false, reduceIte, Bool.false_eq_true, Bool.not_true, Bool.not_false]
        refine len_str (big hx) ?_
        simp only [dSeq, dNext, dBreak, dCont, dDrop, dRet, dRetN, dIfS, dSet, dB, dNotT, dAndT, dOrT, dNot, dAnd, dOr, dIf, dChain, dVar, dC, dOp, dUn, dNil, dCons, dCall, dTup, dLst, pyAll, dSl, dNo, dPart, dAsg, dPar, dDig, dMix, dPutD, dPutM, dM1, dFor, dItL, dItU, dItS, dItR1, dItR2, dItSc, dItZip, dLc, dYes, gdName, wipeD, asP, asB, asI, asS, asL, asU, sliceD, fCmp, fAdd, startD, fI, true_and, and_true, List.getD_cons_zero, List.getD_cons_succ, List.set_cons_zero, List.set_cons_succ, List.map_cons, List.map_nil, List.length_cons, List.length_nil, Nat.zero_add, Nat.reduceAdd, Nat.reduceSub, List.replicate, List.cons_append, List.nil_append, if_true, if_false, reduceIte, Bool.false_eq_true, Bool.not_true, Bool.not_false]
        have e1 : decide ((1 : Int) ≤ (x.length : Int)) = decide (1 ≤ x.length) := by
          rw [decide_eq_decide]
          omega
        have e2 : decide ((x.length : Int) ≤ (12 : Int)) = decide (x.length ≤ 12) := by
          rw [decide_eq_decide]
          omega
        rw [e1, e2]
        cases q1 : decide (1 ≤ x.length) with
        | false => rw [q1] at h; exact h
        | true =>
          rw [q1] at h
          simp only [dSeq, dNext, dBreak, dCont, dDrop, dRet, dRetN, dIfS, dSet, dB, dNotT, dAndT, dOrT, dNot, dAnd, dOr, dIf, dChain, dVar, dC, dOp, dUn, dNil, dCons, dCall, dTup, dLst, pyAll, dSl, dNo, dPart, dAsg, dPar, dDig, dMix, dPutD, dPutM, dM1, dFor, dItL, dItU, dItS, dItR1, dItR2, dItSc, dItZip, dLc, dYes, gdName, wipeD, asP, asB, asI, asS, asL, asU, sliceD, fCmp, fAdd, startD, fI, true_and, and_true, List.getD_cons_zero, List.getD_cons_succ, List.set_cons_zero, List.set_cons_succ, List.map_cons, List.map_nil, List.length_cons, List.length_nil, Nat.zero_add, Nat.reduceAdd, Nat.reduceSub, List.replicate, List.cons_append, List.nil_append, if_true, if_false, reduceIte, Bool.false_eq_true, Bool.not_true, Bool.not_false]
          cases q2 : decide (x.length ≤ 12) with
          | false => rw [q2] at h; exact h
          | true =>
            rw [q2] at h
            simp only [dSeq, dNext, dBreak, dCont, dDrop, dRet, dRetN, dIfS, dSet, dB, dNotT, dAndT, dOrT, dNot, dAnd, dOr, dIf, dChain, dVar, dC, dOp, dUn, dNil, dCons, dCall, dTup, dLst, pyAll, dSl, dNo, dPart, dAsg, dPar, dDig, dMix, dPutD, dPutM, dM1, dFor, dItL, dItU, dItS, dItR1, dItR2, dItSc, dItZip, dLc, dYes, gdName, wipeD, asP, asB, asI, asS, asL, asU, sliceD, fCmp, fAdd, startD, fI, true_and, and_true, List.getD_cons_zero, List.getD_cons_succ, List.set_cons_zero, List.set_cons_succ, List.map_cons, List.map_nil, List.length_cons, List.length_nil, Nat.zero_add, Nat.reduceAdd, Nat.reduceSub, List.replicate, List.cons_append, List.nil_append, if_true, if_false, reduceIte, Bool.false_eq_true, Bool.not_true, Bool.not_false]
            refine ⟨by rw [signs_len]; exact big hx, lc_map (fun d => .bool (loD d)) (fun d hd K1 hk => ?_) (all_map_of ?_)⟩
            · obtain ⟨c, _, rfl⟩ := mem_signs hd
              simp only [dSeq, dNext, dBreak, dCont, dDrop, dRet, dRetN, dIfS, dSet, dB, dNotT, dAndT, dOrT, dNot, dAnd, dOr, dIf, dChain, dVar, dC, dOp, dUn, dNil, dCons, dCall, dTup, dLst, pyAll, dSl, dNo, dPart, dAsg, dPar, dDig, dMix, dPutD, dPutM, dM1, dFor, dItL, dItU, dItS, dItR1, dItR2, dItSc, dItZip, dLc, dYes, gdName, wipeD, asP, asB, asI, asS, asL, asU, sliceD, fCmp, fAdd, startD, fI, true_and, and_true, List.getD_cons_zero, List.getD_cons_succ, List.set_cons_zero, List.set_cons_succ, List.map_cons, List.map_nil, List.length_cons, List.length_nil, Nat.zero_add, Nat.reduceAdd, Nat.reduceSub, List.replicate, List.cons_append, List.nil_append, if_true, if_false, reduceIte, Bool.false_eq_true, Bool.not_true, Bool.not_false]
              rw [s_a, s_z, leS_1, leS_1]
              have hk : K1 (.bool (loC c)) := hk
              unfold loC at hk
              cases q3 : decide (97 ≤ c) with
              | false => rw [q3] at hk; exact hk
              | true => rw [q3] at hk; exact hk
            · rw [all_signs (p := loC) fun c => rfl]
              exact h
      | _ => exact h⟩).mono hk
theorem ok_is_name_tuple (T : Tx K mg) {k : Nat} (hk : 2 ≤ k) : FnG P w K mg base CX0 k T.a_is_name_tuple T.d_is_name_tuple ["value"] (spD ⟨K, P, w⟩ (gP isNT)) :=
  (okB T.F_is_name_tuple sc_is_name_tuple (fun ds R h => by obtain ⟨_, rfl, _⟩ := h; rfl) fun cdv A gd outer s H E hr => ⟨_, (dss_one (ds_ret (de_and (de_callB cd_isi (by rfl) T.n_isinstance bt_isinstance (da_cons (dv 0) (da_cons (de_bltn (v := .ty "tuple") (u := .type "tuple") (by rfl) T.n_tuple bt_tuple rfl) da_nil))) (de_and (de_callB (cd_all rfl) (by rfl) T.n_all bt_all (da_cons (de_lc (own := [("name", 1)]) rfl sc_is_name_tuple.nd (di_tup (dv 0)) (blkOk_by (N := ["value", "name", "one", "other"]) (own := [("name", 1)]) (sc := defScope s_is_name_tuple) (by decide +kernel)) (fun _ _ _ _ _ => (dg_name (i := 1) (by decide) sc_is_name_tuple.nd rfl (by first | exact Or.inl rfl | exact Or.inr rfl))) (fun _ _ _ _ _ => dts_nil) (fun _ _ _ _ _ => (de_call (ok_is_name T (k := 1) (by decide)) gd hr (by rfl) T.m_is_name T.F_is_name.kp T.b_is_name pass0 (da_cons (dv 1) da_nil)))) da_nil)) (de_one (de_callB (cd_all rfl) (by rfl) T.n_all bt_all (da_cons (de_lc (own := [("one", 2), ("other", 3)]) rfl sc_is_name_tuple.nd (di_zip (by rfl) T.n_zip (da_cons (dv 0) (da_cons (de_slice (dv 0) (do_some de_int) do_none) da_nil))) (blkOk_by (N := ["value", "name", "one", "other"]) (own := [("one", 2), ("other", 3)]) (sc := defScope s_is_name_tuple) (by decide +kernel)) (fun _ _ _ _ _ => (dg_tup (n := 2) rfl (dgs_cons (dg_name (i := 2) (by decide) sc_is_name_tuple.nd rfl (by first | exact Or.inl rfl | exact Or.inr rfl)) (dgs_cons (dg_name (i := 3) (by decide) sc_is_name_tuple.nd rfl (by first | exact Or.inl rfl | exact Or.inr rfl)) dgs_nil)))) (fun _ _ _ _ _ => dts_nil) (fun _ _ _ _ _ => (de_cmp od_lt (dv 2) (dv 3)))) da_nil))))))), fun ds R h => by
      obtain ⟨d, rfl, hw, h⟩ := h
      simp only [dSeq, dNext, dBreak, dCont, dDrop, dRet, dRetN, dIfS, dSet, dB, dNotT, dAndT, dOrT, dNot, dAnd, dOr, dIf, dChain, dVar, dC, dOp, dUn, dNil, dCons, dCall, dTup, dLst, pyAll, dSl, dNo, dPart, dAsg, dPar, dDig, dMix, dPutD, dPutM, dM1, dFor, dItL, dItU, dItS, dItR1, dItR2, dItSc, dItZip, dLc, dYes, gdName, wipeD, asP, asB, asI, asS, asL, asU, sliceD, fCmp, fAdd, startD, fI, true_and, and_true, List.getD_cons_zero, List.getD_cons_succ, List.set_cons_zero, List.set_cons_succ, List.map_cons, List.map_nil, List.length_cons, List.length_nil, Nat.zero_add, Nat.reduceAdd, Nat.reduceSub, List.replicate, List.cons_append, List.nil_append, if_true, if_false, reduceIte, Bool.false_eq_true, Bool.not_true, Bool.not_false]
      refine isi_tuple ?_
      cases d with
      | tuple xs =>
        simp only [isT, isNT] at h ⊢
        have hl : xs.length ≤ sizeLine := big (Nat.le_trans (wt_len xs) (wt_tup hw))
        simp only [dSeq, dNext, dBreak, dCont, dDrop, dRet, dRetN, dIfS, dSet, dB, dNotT, dAndT, dOrT, dNot, dAnd, dOr, dIf, dChain, dVar, dC, dOp, dUn, dNil, dCons, dCall, dTup, dLst, pyAll, dSl, dNo, dPart, dAsg, dPar, dDig, dMix, dPutD, dPutM, dM1, dFor, dItL, dItU, dItS, dItR1, dItR2, dItSc, dItZip, dLc, dYes, gdName, wipeD, asP, asB, asI, asS, asL, asU, sliceD, fCmp, fAdd, startD, fI, true_and, and_true, List.getD_cons_zero, List.getD_cons_succ, List.set_cons_zero, List.set_cons_succ, List.map_cons, List.map_nil, List.length_cons, List.length_nil, Nat.zero_add, Nat.reduceAdd, Nat.reduceSub, List.replicate, List.cons_append, List.nil_append, if_true, if_false, reduceIte, Bool.false_eq_true, Bool.not_true, Bool.not_false]
        refine ⟨hl, lc_map (fun d => .bool (isName d)) (fun d hd K1 hk => ?_) (all_map_of ?_)⟩
        · simp only [dSeq, dNext, dBreak, dCont, dDrop, dRet, dRetN, dIfS, dSet, dB, dNotT, dAndT, dOrT, dNot, dAnd, dOr, dIf, dChain, dVar, dC, dOp, dUn, dNil, dCons, dCall, dTup, dLst, pyAll, dSl, dNo, dPart, dAsg, dPar, dDig, dMix, dPutD, dPutM, dM1, dFor, dItL, dItU, dItS, dItR1, dItR2, dItSc, dItZip, dLc, dYes, gdName, wipeD, asP, asB, asI, asS, asL, asU, sliceD, fCmp, fAdd, startD, fI, true_and, and_true, List.getD_cons_zero, List.getD_cons_succ, List.set_cons_zero, List.set_cons_succ, List.map_cons, List.map_nil, List.length_cons, List.length_nil, Nat.zero_add, Nat.reduceAdd, Nat.reduceSub, List.replicate, List.cons_append, List.nil_append, if_true, if_false, reduceIte, Bool.false_eq_true, Bool.not_true, Bool.not_false]
          exact ⟨d, rfl, wt_in hw hd, hk⟩
        · cases q : xs.all isName with
          | false => rw [q] at h; exact h
          | true =>
            rw [q] at h
            simp only [dSeq, dNext, dBreak, dCont, dDrop, dRet, dRetN, dIfS, dSet, dB, dNotT, dAndT, dOrT, dNot, dAnd, dOr, dIf, dChain, dVar, dC, dOp, dUn, dNil, dCons, dCall, dTup, dLst, pyAll, dSl, dNo, dPart, dAsg, dPar, dDig, dMix, dPutD, dPutM, dM1, dFor, dItL, dItU, dItS, dItR1, dItR2, dItSc, dItZip, dLc, dYes, gdName, wipeD, asP, asB, asI, asS, asL, asU, sliceD, fCmp, fAdd, startD, fI, true_and, and_true, List.getD_cons_zero, List.getD_cons_succ, List.set_cons_zero, List.set_cons_succ, List.map_cons, List.map_nil, List.length_cons, List.length_nil, Nat.zero_add, Nat.reduceAdd, Nat.reduceSub, List.replicate, List.cons_append, List.nil_append, if_true, if_false, reduceIte, Bool.false_eq_true, Bool.not_true, Bool.not_false]
            refine ⟨xs, cutD xs (some ((1 : Nat) : Int)) none, .inr rfl, ?_⟩
            rw [cut_from]
            refine ⟨?_, lc_map (fun d => .bool (prB d)) (fun d hd K1 hk => ?_) (all_map_of ?_)⟩
            · unfold pairsD
              rw [List.length_zipWith]
              omega
            · obtain ⟨a, ha, b, hb, rfl⟩ := mem_pairs hd
              obtain ⟨x, rfl⟩ := name_str (List.all_eq_true.mp q a ha)
              obtain ⟨y, rfl⟩ := name_str (List.all_eq_true.mp q b (List.mem_of_mem_drop hb))
              refine ⟨rfl, _, _, rfl, _, _, rfl, rfl, ?_⟩
              simp only [dSeq, dNext, dBreak, dCont, dDrop, dRet, dRetN, dIfS, dSet, dB, dNotT, dAndT, dOrT, dNot, dAnd, dOr, dIf, dChain, dVar, dC, dOp, dUn, dNil, dCons, dCall, dTup, dLst, pyAll, dSl, dNo, dPart, dAsg, dPar, dDig, dMix, dPutD, dPutM, dM1, dFor, dItL, dItU, dItS, dItR1, dItR2, dItSc, dItZip, dLc, dYes, gdName, wipeD, asP, asB, asI, asS, asL, asU, sliceD, fCmp, fAdd, startD, fI, true_and, and_true, List.getD_cons_zero, List.getD_cons_succ, List.set_cons_zero, List.set_cons_succ, List.map_cons, List.map_nil, List.length_cons, List.length_nil, Nat.zero_add, Nat.reduceAdd, Nat.reduceSub, List.replicate, List.cons_append, List.nil_append, if_true, if_false, reduceIte, Bool.false_eq_true, Bool.not_true, Bool.not_false]
              exact hk
            · rw [all_pairs q]
              exact h
      | _ => exact h⟩).mono hk
theorem ok_is_subject_code (T : Tx K mg) {k : Nat} (hk : 1 ≤ k) : FnG P w K mg base CX0 k T.a_is_subject_code T.d_is_subject_code ["code"] (spD ⟨K, P, w⟩ gCode) :=
  (okB T.F_is_subject_code sc_is_subject_code (fun ds R h => by obtain ⟨_, rfl, _⟩ := h; rfl) fun cdv A gd outer s H E hr => ⟨_, (dss_one (ds_ret (de_and (de_chain od_le od_le (de_glob (d := .p (.int 32)) (v := .int 32) (by rfl) T.c_FIRST_CODE ⟨_, rfl⟩ (fun _ => rfl)) (dv 0) (de_glob (d := .p (.int 126)) (v := .int 126) (by rfl) T.c_LAST_CODE ⟨_, rfl⟩ (fun _ => rfl))) (de_one (de_cmp (od_neQ hr.units) (dv 0) (de_glob (d := .p (.int 37)) (v := .int 37) (by rfl) T.c_PERCENT_CODE ⟨_, rfl⟩ (fun _ => rfl))))))), fun ds R h => by
      obtain ⟨c, rfl, h⟩ := h
      simp only [dSeq, dNext, dBreak, dCont, dDrop, dRet, dRetN, dIfS, dSet, dB, dNotT, dAndT, dOrT, dNot, dAnd, dOr, dIf, dChain, dVar, dC, dOp, dUn, dNil, dCons, dCall, dTup, dLst, pyAll, dSl, dNo, dPart, dAsg, dPar, dDig, dMix, dPutD, dPutM, dM1, dFor, dItL, dItU, dItS, dItR1, dItR2, dItSc, dItZip, dLc, dYes, gdName, wipeD, asP, asB, asI, asS, asL, asU, sliceD, fCmp, fAdd, startD, fI, true_and, and_true, List.getD_cons_zero, List.getD_cons_succ, List.set_cons_zero, List.set_cons_succ, List.map_cons, List.map_nil, List.length_cons, List.length_nil, Nat.zero_add, Nat.reduceAdd, Nat.reduceSub, List.replicate, List.cons_append, List.nil_append, if_true, if_false, reduceIte, Bool.false_eq_true, Bool.not_true, Bool.not_false]
      have e1 : decide ((32 : Int) ≤ (c : Int)) = decide (32 ≤ c) := by
        rw [decide_eq_decide]
        omega
      have e2 : decide ((c : Int) ≤ (126 : Int)) = decide (c ≤ 126) := by
        rw [decide_eq_decide]
        omega
      rw [e1, e2]
      unfold okC at h
      cases q1 : decide (32 ≤ c) with
      | false => rw [q1] at h; exact h
      | true =>
        cases q2 : decide (c ≤ 126) with
        | false => rw [q1, q2] at h; exact h
        | true =>
          rw [q1, q2] at h
          refine ⟨rfl, rfl, Nat.zero_le _, ?_⟩
          have e3 : PyData.eqv (.int (c : Int)) (.int 37) = decide (c = 37) := by
            simp only [PyData.eqv]
            by_cases z : c = 37
            · subst z; rfl
            · rw [decide_eq_false z]
              exact beq_eq_false_iff_ne.mpr (by omega)
          show R (.p (.bool (!PyData.eqv (.int (c : Int)) (.int 37))))
          rw [e3]
          exact h⟩).mono hk
theorem ok_is_subject (T : Tx K mg) {k : Nat} (hk : 2 ≤ k) : FnG P w K mg base CX0 k T.a_is_subject T.d_is_subject ["value"] (spD ⟨K, P, w⟩ (gP isSubj)) :=
  (okB T.F_is_subject sc_is_subject (fun ds R h => by obtain ⟨_, rfl, _⟩ := h; rfl) fun cdv A gd outer s H E hr => ⟨_, (dss_one (ds_ret (de_and (de_callB cd_isi (by rfl) T.n_isinstance bt_isinstance (da_cons (dv 0) (da_cons (de_bltn (v := .ty "str") (u := .type "str") (by rfl) T.n_str bt_str rfl) da_nil))) (de_one (de_callB (cd_all rfl) (by rfl) T.n_all bt_all (da_cons (de_lc (own := [("sign", 1)]) rfl sc_is_subject.nd (di_list (de_callB (cd_sortK rfl hr) (by rfl) T.n_sorted bt_sorted (da_cons (de_callTy (cd_set rfl) (by rfl) T.n_set bt_set (da_cons (dv 0) da_nil)) da_nil))) (blkOk_by (N := ["value", "sign"]) (own := [("sign", 1)]) (sc := defScope s_is_subject) (by decide +kernel)) (fun _ _ _ _ _ => (dg_name (i := 1) (by decide) sc_is_subject.nd rfl (by first | exact Or.inl rfl | exact Or.inr rfl))) (fun _ _ _ _ _ => dts_nil) (fun _ _ _ _ _ => (de_call (ok_is_subject_code T (k := 1) (by decide)) gd hr (by rfl) T.m_is_subject_code T.F_is_subject_code.kp T.b_is_subject_code pass0 (da_cons (de_callB cd_ord (by rfl) T.n_ord bt_ord (da_cons (dv 1) da_nil)) da_nil)))) da_nil)))))), fun ds R h => by
      obtain ⟨d, rfl, hw, h⟩ := h
      simp only [dSeq, dNext, dBreak, dCont, dDrop, dRet, dRetN, dIfS, dSet, dB, dNotT, dAndT, dOrT, dNot, dAnd, dOr, dIf, dChain, dVar, dC, dOp, dUn, dNil, dCons, dCall, dTup, dLst, pyAll, dSl, dNo, dPart, dAsg, dPar, dDig, dMix, dPutD, dPutM, dM1, dFor, dItL, dItU, dItS, dItR1, dItR2, dItSc, dItZip, dLc, dYes, gdName, wipeD, asP, asB, asI, asS, asL, asU, sliceD, fCmp, fAdd, startD, fI, true_and, and_true, List.getD_cons_zero, List.getD_cons_succ, List.set_cons_zero, List.set_cons_succ, List.map_cons, List.map_nil, List.length_cons, List.length_nil, Nat.zero_add, Nat.reduceAdd, Nat.reduceSub, List.replicate, List.cons_append, List.nil_append, if_true, if_false, reduceIte, Bool.false_eq_true, Bool.not_true, Bool.not_false]
      refine isi_str ?_
      cases d with
      | str x =>
        have hx := wt_str hw
        simp only [isS, isSubj] at h ⊢
        simp only [dSeq, dNext, dBreak, dCont, dDrop, dRet, dRetN, dIfS, dSet, dB, dNotT, dAndT, dOrT, dNot, dAnd, dOr, dIf, dChain, dVar, dC, dOp, dUn, dNil, dCons, dCall, dTup, dLst, pyAll, dSl, dNo, dPart, dAsg, dPar, dDig, dMix, dPutD, dPutM, dM1, dFor, dItL, dItU, dItS, dItR1, dItR2, dItSc, dItZip, dLc, dYes, gdName, wipeD, asP, asB, asI, asS, asL, asU, sliceD, fCmp, fAdd, startD, fI, true_and, and_true, List.getD_cons_zero, List.getD_cons_succ, List.set_cons_zero, List.set_cons_succ, List.map_cons, List.map_nil, List.length_cons, List.length_nil, Nat.zero_add, Nat.reduceAdd, Nat.reduceSub, List.replicate, List.cons_append, List.nil_append, if_true, if_false, reduceIte, Bool.false_eq_true, Bool.not_true, Bool.not_false]
        refine ⟨_, _, rfl, rfl, by rw [List.length_map, Array.length_toList]; exact Nat.lt_of_le_of_lt (Nat.succ_le_succ hx) (by decide), x.cps.toList.map fun c => ⟨#[c]⟩, by rw [List.map_map]; rfl, fun zs hr hm hz => ?_⟩
        simp only [dSeq, dNext, dBreak, dCont, dDrop, dRet, dRetN, dIfS, dSet, dB, dNotT, dAndT, dOrT, dNot, dAnd, dOr, dIf, dChain, dVar, dC, dOp, dUn, dNil, dCons, dCall, dTup, dLst, pyAll, dSl, dNo, dPart, dAsg, dPar, dDig, dMix, dPutD, dPutM, dM1, dFor, dItL, dItU, dItS, dItR1, dItR2, dItSc, dItZip, dLc, dYes, gdName, wipeD, asP, asB, asI, asS, asL, asU, sliceD, fCmp, fAdd, startD, fI, true_and, and_true, List.getD_cons_zero, List.getD_cons_succ, List.set_cons_zero, List.set_cons_succ, List.map_cons, List.map_nil, List.length_cons, List.length_nil, Nat.zero_add, Nat.reduceAdd, Nat.reduceSub, List.replicate, List.cons_append, List.nil_append, if_true, if_false, reduceIte, Bool.false_eq_true, Bool.not_true, Bool.not_false]
        refine ⟨by rw [List.length_map]; exact hz, lc_map (fun d => .bool (okD' d)) (fun d hd K1 hk => ?_) (all_map_of ?_)⟩
        · obtain ⟨y, hy, rfl⟩ := List.mem_map.mp hd
          obtain ⟨c, hc, rfl⟩ := List.mem_map.mp ((hm y).mp hy)
          simp only [dSeq, dNext, dBreak, dCont, dDrop, dRet, dRetN, dIfS, dSet, dB, dNotT, dAndT, dOrT, dNot, dAnd, dOr, dIf, dChain, dVar, dC, dOp, dUn, dNil, dCons, dCall, dTup, dLst, pyAll, dSl, dNo, dPart, dAsg, dPar, dDig, dMix, dPutD, dPutM, dM1, dFor, dItL, dItU, dItS, dItR1, dItR2, dItSc, dItZip, dLc, dYes, gdName, wipeD, asP, asB, asI, asS, asL, asU, sliceD, fCmp, fAdd, startD, fI, true_and, and_true, List.getD_cons_zero, List.getD_cons_succ, List.set_cons_zero, List.set_cons_succ, List.map_cons, List.map_nil, List.length_cons, List.length_nil, Nat.zero_add, Nat.reduceAdd, Nat.reduceSub, List.replicate, List.cons_append, List.nil_append, if_true, if_false, reduceIte, Bool.false_eq_true, Bool.not_true, Bool.not_false]
          exact ⟨c, rfl, c, rfl, hk⟩
        · rw [all_sorted hm]
          exact h
      | _ => exact h⟩).mono hk
theorem ok_is_text (T : Tx K mg) {k : Nat} (hk : 3 ≤ k) : FnG P w K mg base CX0 k T.a_is_text T.d_is_text ["value"] (spD ⟨K, P, w⟩ (gP isTxt)) :=
  (okB T.F_is_text sc_is_text (fun ds R h => by obtain ⟨_, rfl, _⟩ := h; rfl) fun cdv A gd outer s H E hr => ⟨_, (dss_one (ds_ret (de_and (de_call (ok_is_subject T (k := 2) (by decide)) gd hr (by rfl) T.m_is_subject T.F_is_subject.kp T.b_is_subject pass0 (da_cons (dv 0) da_nil)) (de_one (de_chain od_le od_le de_int (de_callB cd_len (by rfl) T.n_len bt_len (da_cons (dv 0) da_nil)) (de_glob (d := .p (.int 8)) (v := .int 8) (by rfl) T.c_MOST_CHARACTERS ⟨_, rfl⟩ (fun _ => rfl))))))), fun ds R h => by
      obtain ⟨d, rfl, hw, h⟩ := h
      simp only [dSeq, dNext, dBreak, dCont, dDrop, dRet, dRetN, dIfS, dSet, dB, dNotT, dAndT, dOrT, dNot, dAnd, dOr, dIf, dChain, dVar, dC, dOp, dUn, dNil, dCons, dCall, dTup, dLst, pyAll, dSl, dNo, dPart, dAsg, dPar, dDig, dMix, dPutD, dPutM, dM1, dFor, dItL, dItU, dItS, dItR1, dItR2, dItSc, dItZip, dLc, dYes, gdName, wipeD, asP, asB, asI, asS, asL, asU, sliceD, fCmp, fAdd, startD, fI, true_and, and_true, List.getD_cons_zero, List.getD_cons_succ, List.set_cons_zero, List.set_cons_succ, List.map_cons, List.map_nil, List.length_cons, List.length_nil, Nat.zero_add, Nat.reduceAdd, Nat.reduceSub, List.replicate, List.cons_append, List.nil_append, if_true, if_false, reduceIte, Bool.false_eq_true, Bool.not_true, Bool.not_false]
      refine ⟨d, rfl, hw, ?_⟩
      cases d with
      | str x =>
        have hx := wt_str hw
        simp only [isTxt] at h
        cases q0 : isSubj (.str x) with
        | false => rw [q0] at h; exact h
        | true =>
          rw [q0] at h
          simp only [dSeq, dNext, dBreak, dCont, dDrop, dRet, dRetN, dIfS, dSet, dB, dNotT, dAndT, dOrT, dNot, dAnd, dOr, dIf, dChain, dVar, dC, dOp, dUn, dNil, dCons, dCall, dTup, dLst, pyAll, dSl, dNo, dPart, dAsg, dPar, dDig, dMix, dPutD, dPutM, dM1, dFor, dItL, dItU, dItS, dItR1, dItR2, dItSc, dItZip, dLc, dYes, gdName, wipeD, asP, asB, asI, asS, asL, asU, sliceD, fCmp, fAdd, startD, fI, true_and, and_true, List.getD_cons_zero, List.getD_cons_succ, List.set_cons_zero, List.set_cons_succ, List.map_cons, List.map_nil, List.length_cons, List.length_nil, Nat.zero_add, Nat.reduceAdd, Nat.reduceSub, List.replicate, List.cons_append, List.nil_append, if_true, if_false, reduceIte, Bool.false_eq_true, Bool.not_true, Bool.not_false]
          refine len_str (big hx) ?_
          simp only [dSeq, dNext, dBreak, dCont, dDrop, dRet, dRetN, dIfS, dSet, dB, dNotT, dAndT, dOrT, dNot, dAnd, dOr, dIf, dChain, dVar, dC, dOp, dUn, dNil, dCons, dCall, dTup, dLst, pyAll, dSl, dNo, dPart, dAsg, dPar, dDig, dMix, dPutD, dPutM, dM1, dFor, dItL, dItU, dItS, dItR1, dItR2, dItSc, dItZip, dLc, dYes, gdName, wipeD, asP, asB, asI, asS, asL, asU, sliceD, fCmp, fAdd, startD, fI, true_and, and_true, List.getD_cons_zero, List.getD_cons_succ, List.set_cons_zero, List.set_cons_succ, List.map_cons, List.map_nil, List.length_cons, List.length_nil, Nat.zero_add, Nat.reduceAdd, Nat.reduceSub, List.replicate, List.cons_append, List.nil_append, if_true, if_false, reduceIte, Bool.false_eq_true, Bool.not_true, Bool.not_false]
          have e1 : decide ((1 : Int) ≤ (x.length : Int)) = decide (1 ≤ x.length) := by
            rw [decide_eq_decide]
            omega
          have e2 : decide ((x.length : Int) ≤ (8 : Int)) = decide (x.length ≤ 8) := by
            rw [decide_eq_decide]
            omega
          rw [e1, e2]
          cases q1 : decide (1 ≤ x.length) with
          | false => rw [q1] at h; exact h
          | true => rw [q1] at h; exact h
      | _ => exact h⟩).mono hk
theorem ok_is_message (T : Tx K mg) {k : Nat} (hk : 3 ≤ k) : FnG P w K mg base CX0 k T.a_is_message T.d_is_message ["value"] (spD ⟨K, P, w⟩ (gP isMsg)) :=
  (okB T.F_is_message sc_is_message (fun ds R h => by obtain ⟨_, rfl, _⟩ := h; rfl) fun cdv A gd outer s H E hr => ⟨_, (dss_cons (ds_if (dw_or (dt_not (dt_val (de_callB cd_isi (by rfl) T.n_isinstance bt_isinstance (da_cons (dv 0) (da_cons (de_bltn (v := .ty "tuple") (u := .type "tuple") (by rfl) T.n_tuple bt_tuple rfl) da_nil))))) (dw_or1 (dt_cmp (od_neQ hr.units) (de_callB cd_len (by rfl) T.n_len bt_len (da_cons (dv 0) da_nil)) de_int))).pt (dss_one (ds_ret de_bl)) dss_nil)
    (dss_cons (ds_asg (vs := [1, 2, 3, 4]) (dv 0) (dg_tup (n := 4) rfl (dgs_cons (dg_name (i := 1) (by decide) sc_is_message.nd rfl (by first | exact Or.inl rfl | exact Or.inr rfl)) (dgs_cons (dg_name (i := 2) (by decide) sc_is_message.nd rfl (by first | exact Or.inl rfl | exact Or.inr rfl)) (dgs_cons (dg_name (i := 3) (by decide) sc_is_message.nd rfl (by first | exact Or.inl rfl | exact Or.inr rfl)) (dgs_cons (dg_name (i := 4) (by decide) sc_is_message.nd rfl (by first | exact Or.inl rfl | exact Or.inr rfl)) dgs_nil))))))
    (dss_one (ds_ret (de_and (de_call (ok_is_name T (k := 2) (by decide)) gd hr (by rfl) T.m_is_name T.F_is_name.kp T.b_is_name pass0 (da_cons (dv 1) da_nil)) (de_and (de_call (ok_is_name T (k := 2) (by decide)) gd hr (by rfl) T.m_is_name T.F_is_name.kp T.b_is_name pass0 (da_cons (dv 2) da_nil)) (de_and (de_call (ok_is_subject T (k := 2) (by decide)) gd hr (by rfl) T.m_is_subject T.F_is_subject.kp T.b_is_subject pass0 (da_cons (dv 3) da_nil)) (de_one (de_call (ok_is_name_tuple T (k := 2) (by decide)) gd hr (by rfl) T.m_is_name_tuple T.F_is_name_tuple.kp T.b_is_name_tuple pass0 (da_cons (dv 4) da_nil)))))))))), fun ds R h => by
      obtain ⟨d, rfl, hw, h⟩ := h
      simp only [dSeq, dNext, dBreak, dCont, dDrop, dRet, dRetN, dIfS, dSet, dB, dNotT, dAndT, dOrT, dNot, dAnd, dOr, dIf, dChain, dVar, dC, dOp, dUn, dNil, dCons, dCall, dTup, dLst, pyAll, dSl, dNo, dPart, dAsg, dPar, dDig, dMix, dPutD, dPutM, dM1, dFor, dItL, dItU, dItS, dItR1, dItR2, dItSc, dItZip, dLc, dYes, gdName, wipeD, asP, asB, asI, asS, asL, asU, sliceD, fCmp, fAdd, startD, fI, true_and, and_true, List.getD_cons_zero, List.getD_cons_succ, List.set_cons_zero, List.set_cons_succ, List.map_cons, List.map_nil, List.length_cons, List.length_nil, Nat.zero_add, Nat.reduceAdd, Nat.reduceSub, List.replicate, List.cons_append, List.nil_append, if_true, if_false, reduceIte, Bool.false_eq_true, Bool.not_true, Bool.not_false]
      refine isi_tuple ?_
      cases d with
      | tuple xs =>
        simp only [isT] at h ⊢
        have hl : xs.length ≤ sizeLine := big (Nat.le_trans (wt_len xs) (wt_tup hw))
        simp only [dSeq, dNext, dBreak, dCont, dDrop, dRet, dRetN, dIfS, dSet, dB, dNotT, dAndT, dOrT, dNot, dAnd, dOr, dIf, dChain, dVar, dC, dOp, dUn, dNil, dCons, dCall, dTup, dLst, pyAll, dSl, dNo, dPart, dAsg, dPar, dDig, dMix, dPutD, dPutM, dM1, dFor, dItL, dItU, dItS, dItR1, dItR2, dItSc, dItZip, dLc, dYes, gdName, wipeD, asP, asB, asI, asS, asL, asU, sliceD, fCmp, fAdd, startD, fI, true_and, and_true, List.getD_cons_zero, List.getD_cons_succ, List.set_cons_zero, List.set_cons_succ, List.map_cons, List.map_nil, List.length_cons, List.length_nil, Nat.zero_add, Nat.reduceAdd, Nat.reduceSub, List.replicate, List.cons_append, List.nil_append, if_true, if_false, reduceIte, Bool.false_eq_true, Bool.not_true, Bool.not_false]
        refine len_tup hl ⟨rfl, rfl, Nat.zero_le _, ?_⟩
        by_cases h4 : xs.length = 4
        · match xs, h4 with
          | [a, b, c, m], _ =>
            have wa : Wt a := wt_in hw (by simp)
            have wb : Wt b := wt_in hw (by simp)
            have wc : Wt c := wt_in hw (by simp)
            have wm : Wt m := wt_in hw (by simp)
            refine ⟨rfl, _, _, rfl, _, _, rfl, _, _, rfl, _, _, rfl, rfl, ?_⟩
            simp only [dSeq, dNext, dBreak, dCont, dDrop, dRet, dRetN, dIfS, dSet, dB, dNotT, dAndT, dOrT, dNot, dAnd, dOr, dIf, dChain, dVar, dC, dOp, dUn, dNil, dCons, dCall, dTup, dLst, pyAll, dSl, dNo, dPart, dAsg, dPar, dDig, dMix, dPutD, dPutM, dM1, dFor, dItL, dItU, dItS, dItR1, dItR2, dItSc, dItZip, dLc, dYes, gdName, wipeD, asP, asB, asI, asS, asL, asU, sliceD, fCmp, fAdd, startD, fI, true_and, and_true, List.getD_cons_zero, List.getD_cons_succ, List.set_cons_zero, List.set_cons_succ, List.map_cons, List.map_nil, List.length_cons, List.length_nil, Nat.zero_add, Nat.reduceAdd, Nat.reduceSub, List.replicate, List.cons_append, List.nil_append, if_true, if_false, reduceIte, Bool.false_eq_true, Bool.not_true, Bool.not_false]
            refine ⟨a, rfl, wa, ?_⟩
            simp only [isMsg] at h
            cases q1 : isName a with
            | false => rw [q1] at h; exact h
            | true =>
              rw [q1] at h
              simp only [dSeq, dNext, dBreak, dCont, dDrop, dRet, dRetN, dIfS, dSet, dB, dNotT, dAndT, dOrT, dNot, dAnd, dOr, dIf, dChain, dVar, dC, dOp, dUn, dNil, dCons, dCall, dTup, dLst, pyAll, dSl, dNo, dPart, dAsg, dPar, dDig, dMix, dPutD, dPutM, dM1, dFor, dItL, dItU, dItS, dItR1, dItR2, dItSc, dItZip, dLc, dYes, gdName, wipeD, asP, asB, asI, asS, asL, asU, sliceD, fCmp, fAdd, startD, fI, true_and, and_true, List.getD_cons_zero, List.getD_cons_succ, List.set_cons_zero, List.set_cons_succ, List.map_cons, List.map_nil, List.length_cons, List.length_nil, Nat.zero_add, Nat.reduceAdd, Nat.reduceSub, List.replicate, List.cons_append, List.nil_append, if_true, if_false, reduceIte, Bool.false_eq_true, Bool.not_true, Bool.not_false]
              refine ⟨b, rfl, wb, ?_⟩
              cases q2 : isName b with
              | false => rw [q2] at h; exact h
              | true =>
                rw [q2] at h
                simp only [dSeq, dNext, dBreak, dCont, dDrop, dRet, dRetN, dIfS, dSet, dB, dNotT, dAndT, dOrT, dNot, dAnd, dOr, dIf, dChain, dVar, dC, dOp, dUn, dNil, dCons, dCall, dTup, dLst, pyAll, dSl, dNo, dPart, dAsg, dPar, dDig, dMix, dPutD, dPutM, dM1, dFor, dItL, dItU, dItS, dItR1, dItR2, dItSc, dItZip, dLc, dYes, gdName, wipeD, asP, asB, asI, asS, asL, asU, sliceD, fCmp, fAdd, startD, fI, true_and, and_true, List.getD_cons_zero, List.getD_cons_succ, List.set_cons_zero, List.set_cons_succ, List.map_cons, List.map_nil, List.length_cons, List.length_nil, Nat.zero_add, Nat.reduceAdd, Nat.reduceSub, List.replicate, List.cons_append, List.nil_append, if_true, if_false, reduceIte, Bool.false_eq_true, Bool.not_true, Bool.not_false]
                refine ⟨c, rfl, wc, ?_⟩
                cases q3 : isSubj c with
                | false => rw [q3] at h; exact h
                | true =>
                  rw [q3] at h
                  simp only [dSeq, dNext, dBreak, dCont, dDrop, dRet, dRetN, dIfS, dSet, dB, dNotT, dAndT, dOrT, dNot, dAnd, dOr, dIf, dChain, dVar, dC, dOp, dUn, dNil, dCons, dCall, dTup, dLst, pyAll, dSl, dNo, dPart, dAsg, dPar, dDig, dMix, dPutD, dPutM, dM1, dFor, dItL, dItU, dItS, dItR1, dItR2, dItSc, dItZip, dLc, dYes, gdName, wipeD, asP, asB, asI, asS, asL, asU, sliceD, fCmp, fAdd, startD, fI, true_and, and_true, List.getD_cons_zero, List.getD_cons_succ, List.set_cons_zero, List.set_cons_succ, List.map_cons, List.map_nil, List.length_cons, List.length_nil, Nat.zero_add, Nat.reduceAdd, Nat.reduceSub, List.replicate, List.cons_append, List.nil_append, if_true, if_false, reduceIte, Bool.false_eq_true, Bool.not_true, Bool.not_false]
                  exact ⟨m, rfl, wm, h⟩
        · rw [isMsg_not h4] at h
          have e : PyData.eqv (.int (xs.length : Int)) (.int 4) = false := by
            rw [eqv_int]
            exact decide_eq_false (by omega)
          rw [e]
          exact h
      | _ => exact h⟩).mono hk
theorem ok_with_mark (T : Tx K mg) {k : Nat} (hk : 1 ≤ k) : FnG P w K mg base CX0 k T.a_with_mark T.d_with_mark ["marks", "mark"] (spD ⟨K, P, w⟩ gWm) :=
  (okB T.F_with_mark sc_with_mark (fun ds R h => by obtain ⟨_, _, rfl, _⟩ := h; rfl) fun cdv A gd outer s H E hr => ⟨_, (dss_one (ds_ret (de_callTy cd_tuple (by rfl) T.n_tuple bt_tuple (da_cons (de_callB (cd_sortK rfl hr) (by rfl) T.n_sorted bt_sorted (da_cons (de_callTy (cd_set rfl) (by rfl) T.n_set bt_set (da_cons (de_lst (da_star (dv 0) (da_cons (dv 1) da_nil))) da_nil)) da_nil)) da_nil)))), fun ds R h => by
      obtain ⟨ms, mk, rfl, hl, h⟩ := h
      simp only [dSeq, dNext, dBreak, dCont, dDrop, dRet, dRetN, dIfS, dSet, dB, dNotT, dAndT, dOrT, dNot, dAnd, dOr, dIf, dChain, dVar, dC, dOp, dUn, dNil, dCons, dCall, dTup, dLst, pyAll, dSl, dNo, dPart, dAsg, dPar, dDig, dMix, dPutD, dPutM, dM1, dFor, dItL, dItU, dItS, dItR1, dItR2, dItSc, dItZip, dLc, dYes, gdName, wipeD, asP, asB, asI, asS, asL, asU, sliceD, fCmp, fAdd, startD, fI, true_and, and_true, List.getD_cons_zero, List.getD_cons_succ, List.set_cons_zero, List.set_cons_succ, List.map_cons, List.map_nil, List.length_cons, List.length_nil, Nat.zero_add, Nat.reduceAdd, Nat.reduceSub, List.replicate, List.cons_append, List.nil_append, if_true, if_false, reduceIte, Bool.false_eq_true, Bool.not_true, Bool.not_false]
      have e : ms.map PyData.str ++ [PyData.str mk] = (ms ++ [mk]).map .str := by rw [List.map_append]; rfl
      refine ⟨_, .inl rfl, pyAllApp ⟨by rw [List.length_append, List.length_map]; exact sz (Nat.add_le_add_right hl 1), by rw [e]; exact nP_strs _, _, (ms ++ [mk]).map Sum.inr, rfl, ?_, by rw [List.length_map, List.length_append]; exact Nat.lt_of_le_of_lt (Nat.add_le_add_right (Nat.add_le_add_right hl 1) 1) (by decide), ms ++ [mk], rfl, fun zs hr2 hm hz => ⟨_, .inl rfl, by rw [rs_of hr2 hm]; exact h⟩⟩⟩
      show ms.map .str ++ [.str mk] = List.map keyD ((ms ++ [mk]).map Sum.inr)
      rw [List.map_map, List.map_append]
      rfl⟩).mono hk
theorem ok_are_members (T : Tx K mg) {k : Nat} (hk : 2 ≤ k) : FnG P w K mg base CX0 k T.a_are_members T.d_are_members ["value"] (spD ⟨K, P, w⟩ gMem) :=
  (okB T.F_are_members sc_are_members (fun ds R h => by obtain ⟨_, rfl, _⟩ := h; rfl) fun cdv A gd outer s H E hr => ⟨_, (dss_one (ds_ret (de_and (de_callB cd_isi (by rfl) T.n_isinstance bt_isinstance (da_cons (dv 0) (da_cons (de_bltn (v := .ty "tuple") (u := .type "tuple") (by rfl) T.n_tuple bt_tuple rfl) da_nil))) (de_and (de_cmp od_le (de_callB cd_len (by rfl) T.n_len bt_len (da_cons (dv 0) da_nil)) (de_glob (d := .p (.int 8)) (v := .int 8) (by rfl) T.c_MOST_MEMBERS ⟨_, rfl⟩ (fun _ => rfl))) (de_and (de_callB (cd_all rfl) (by rfl) T.n_all bt_all (da_cons (de_lc (own := [("name", 1)]) rfl sc_are_members.nd (di_tup (dv 0)) (blkOk_by (N := ["value", "name"]) (own := [("name", 1)]) (sc := defScope s_are_members) (by decide +kernel)) (fun _ _ _ _ _ => (dg_name (i := 1) (by decide) sc_are_members.nd rfl (by first | exact Or.inl rfl | exact Or.inr rfl))) (fun _ _ _ _ _ => dts_nil) (fun _ _ _ _ _ => (de_call (ok_is_name T (k := 1) (by decide)) gd hr (by rfl) T.m_is_name T.F_is_name.kp T.b_is_name pass0 (da_cons (dv 1) da_nil)))) da_nil)) (de_one (de_cmp (od_eqQ hr.units) (de_callB cd_lenK (by rfl) T.n_len bt_len (da_cons (de_callTy (cd_set rfl) (by rfl) T.n_set bt_set (da_cons (dv 0) da_nil)) da_nil)) (de_callB cd_len (by rfl) T.n_len bt_len (da_cons (dv 0) da_nil))))))))), fun ds R h => by
      obtain ⟨mem, rfl, gm, h⟩ := h
      simp only [dSeq, dNext, dBreak, dCont, dDrop, dRet, dRetN, dIfS, dSet, dB, dNotT, dAndT, dOrT, dNot, dAnd, dOr, dIf, dChain, dVar, dC, dOp, dUn, dNil, dCons, dCall, dTup, dLst, pyAll, dSl, dNo, dPart, dAsg, dPar, dDig, dMix, dPutD, dPutM, dM1, dFor, dItL, dItU, dItS, dItR1, dItR2, dItSc, dItZip, dLc, dYes, gdName, wipeD, asP, asB, asI, asS, asL, asU, sliceD, fCmp, fAdd, startD, fI, true_and, and_true, List.getD_cons_zero, List.getD_cons_succ, List.set_cons_zero, List.set_cons_succ, List.map_cons, List.map_nil, List.length_cons, List.length_nil, Nat.zero_add, Nat.reduceAdd, Nat.reduceSub, List.replicate, List.cons_append, List.nil_append, if_true, if_false, reduceIte, Bool.false_eq_true, Bool.not_true, Bool.not_false]
      refine isi_tuple ?_
      simp only [isT]
      simp only [dSeq, dNext, dBreak, dCont, dDrop, dRet, dRetN, dIfS, dSet, dB, dNotT, dAndT, dOrT, dNot, dAnd, dOr, dIf, dChain, dVar, dC, dOp, dUn, dNil, dCons, dCall, dTup, dLst, pyAll, dSl, dNo, dPart, dAsg, dPar, dDig, dMix, dPutD, dPutM, dM1, dFor, dItL, dItU, dItS, dItR1, dItR2, dItSc, dItZip, dLc, dYes, gdName, wipeD, asP, asB, asI, asS, asL, asU, sliceD, fCmp, fAdd, startD, fI, true_and, and_true, List.getD_cons_zero, List.getD_cons_succ, List.set_cons_zero, List.set_cons_succ, List.map_cons, List.map_nil, List.length_cons, List.length_nil, Nat.zero_add, Nat.reduceAdd, Nat.reduceSub, List.replicate, List.cons_append, List.nil_append, if_true, if_false, reduceIte, Bool.false_eq_true, Bool.not_true, Bool.not_false]
      have hl : (mem.map PyData.str).length ≤ sizeLine := by rw [List.length_map]; exact sz gm.len
      refine len_tup hl (le_int ?_)
      rw [List.length_map]
      rw [decide_eq_true (show ((mem.length : Nat) : Int) ≤ 8 by have := gm.len; omega)]
      refine ⟨sz gm.len, lc_map (fun d => .bool (isName d)) (fun d hd K1 hk => ?_) (all_map_of ?_)⟩
      · simp only [dSeq, dNext, dBreak, dCont, dDrop, dRet, dRetN, dIfS, dSet, dB, dNotT, dAndT, dOrT, dNot, dAnd, dOr, dIf, dChain, dVar, dC, dOp, dUn, dNil, dCons, dCall, dTup, dLst, pyAll, dSl, dNo, dPart, dAsg, dPar, dDig, dMix, dPutD, dPutM, dM1, dFor, dItL, dItU, dItS, dItR1, dItR2, dItSc, dItZip, dLc, dYes, gdName, wipeD, asP, asB, asI, asS, asL, asU, sliceD, fCmp, fAdd, startD, fI, true_and, and_true, List.getD_cons_zero, List.getD_cons_succ, List.set_cons_zero, List.set_cons_succ, List.map_cons, List.map_nil, List.length_cons, List.length_nil, Nat.zero_add, Nat.reduceAdd, Nat.reduceSub, List.replicate, List.cons_append, List.nil_append, if_true, if_false, reduceIte, Bool.false_eq_true, Bool.not_true, Bool.not_false]
        obtain ⟨x, hx, rfl⟩ := List.mem_map.mp hd
        exact ⟨_, rfl, wtS (Nat.le_trans (isName_str (gm.nm x hx)) (by decide)), hk⟩
      · have e : (mem.map PyData.str).all isName = true := List.all_eq_true.mpr fun d hd => by
          obtain ⟨x, hx, rfl⟩ := List.mem_map.mp hd
          exact gm.nm x hx
        rw [e]
        refine ⟨_, mem.map Sum.inr, rfl, by show mem.map PyData.str = List.map keyD (mem.map Sum.inr); rw [List.map_map]; rfl, by rw [List.length_map]; exact Nat.lt_of_le_of_lt (Nat.add_le_add_right gm.len 1) (by decide), _, rfl, ?_, len_tup hl (eq_int ?_)⟩
        · exact List.nodup_iff_pairwise_ne.mpr (List.pairwise_map.mpr ((List.nodup_iff_pairwise_ne.mp gm.nd).imp fun n e => n (Sum.inr.inj e)))
        · rw [List.length_map, List.length_map, decide_eq_true rfl]
          exact h⟩).mono hk
theorem ok_need_list (T : Tx K mg) {k : Nat} (hk : 4 ≤ k) : FnG P w K mg base CX0 k T.a_need_list T.d_need_list ["what"] (spD ⟨K, P, w⟩ gNL) :=
  (okB T.F_need_list sc_need_list (fun ds R h => by obtain ⟨_, _, _, _, rfl, _⟩ := h; rfl) fun cdv A gd outer s H E hr => ⟨_, (dss_cons (ds_asg (vs := [1, 2, 3, 4]) (dv 0) (dg_tup (n := 4) rfl (dgs_cons (dg_name (i := 1) (by decide) sc_need_list.nd rfl (by first | exact Or.inl rfl | exact Or.inr rfl)) (dgs_cons (dg_name (i := 2) (by decide) sc_need_list.nd rfl (by first | exact Or.inl rfl | exact Or.inr rfl)) (dgs_cons (dg_name (i := 3) (by decide) sc_need_list.nd rfl (by first | exact Or.inl rfl | exact Or.inr rfl)) (dgs_cons (dg_name (i := 4) (by decide) sc_need_list.nd rfl (by first | exact Or.inl rfl | exact Or.inr rfl)) dgs_nil))))))
    (dss_one (ds_if (dt_not (dw_and (dt_val (de_call (ok_are_members T (k := 3) (by decide)) gd hr (by rfl) T.m_are_members T.F_are_members.kp T.b_are_members pass0 (da_cons (dv 1) da_nil))) (dw_and (dw_or (dt_val (de_call (ok_is_text T (k := 3) (by decide)) gd hr (by rfl) T.m_is_text T.F_is_text.kp T.b_is_text pass0 (da_cons (dv 2) da_nil))) (dw_or1 (dt_cmp (od_eqW hr.units) (dv 2) de_str))).pt (dw_and (dw_or (dt_val (de_call (ok_is_name T (k := 3) (by decide)) gd hr (by rfl) T.m_is_name T.F_is_name.kp T.b_is_name pass0 (da_cons (dv 3) da_nil))) (dw_or1 (dt_cmp (od_eqW hr.units) (dv 3) de_str))).pt (dw_and1 (dt_val (de_callB cd_isi (by rfl) T.n_isinstance bt_isinstance (da_cons (dv 4) (da_cons (de_bltn (v := .ty "bool") (u := .type "bool") (by rfl) T.n_bool bt_bool rfl) da_nil)))))))).pt) (dss_one ds_never) dss_nil))), fun ds R h => by
      obtain ⟨mem, tag, mk, cl, rfl, gl, h⟩ := h
      simp only [dSeq, dNext, dBreak, dCont, dDrop, dRet, dRetN, dIfS, dSet, dB, dNotT, dAndT, dOrT, dNot, dAnd, dOr, dIf, dChain, dVar, dC, dOp, dUn, dNil, dCons, dCall, dTup, dLst, pyAll, dSl, dNo, dPart, dAsg, dPar, dDig, dMix, dPutD, dPutM, dM1, dFor, dItL, dItU, dItS, dItR1, dItR2, dItSc, dItZip, dLc, dYes, gdName, wipeD, asP, asB, asI, asS, asL, asU, sliceD, fCmp, fAdd, startD, fI, true_and, and_true, List.getD_cons_zero, List.getD_cons_succ, List.set_cons_zero, List.set_cons_succ, List.map_cons, List.map_nil, List.length_cons, List.length_nil, Nat.zero_add, Nat.reduceAdd, Nat.reduceSub, List.replicate, List.cons_append, List.nil_append, if_true, if_false, reduceIte, Bool.false_eq_true, Bool.not_true, Bool.not_false]
      refine ⟨rfl, _, _, rfl, _, _, rfl, _, _, rfl, _, _, rfl, rfl, ?_⟩
      simp only [dSeq, dNext, dBreak, dCont, dDrop, dRet, dRetN, dIfS, dSet, dB, dNotT, dAndT, dOrT, dNot, dAnd, dOr, dIf, dChain, dVar, dC, dOp, dUn, dNil, dCons, dCall, dTup, dLst, pyAll, dSl, dNo, dPart, dAsg, dPar, dDig, dMix, dPutD, dPutM, dM1, dFor, dItL, dItU, dItS, dItR1, dItR2, dItSc, dItZip, dLc, dYes, gdName, wipeD, asP, asB, asI, asS, asL, asU, sliceD, fCmp, fAdd, startD, fI, true_and, and_true, List.getD_cons_zero, List.getD_cons_succ, List.set_cons_zero, List.set_cons_succ, List.map_cons, List.map_nil, List.length_cons, List.length_nil, Nat.zero_add, Nat.reduceAdd, Nat.reduceSub, List.replicate, List.cons_append, List.nil_append, if_true, if_false, reduceIte, Bool.false_eq_true, Bool.not_true, Bool.not_false]
      refine ⟨mem, rfl, gl.mm, _, rfl, wtS (Nat.le_trans (tagLen gl.tg) (by decide)), ?_⟩
      refine or_ite (b := isTxt (.str tag)) (c := eqW (.str tag) "") (gl.tg.imp id fun e => decide_eq_true e) ?_
      refine ⟨_, rfl, wtS (Nat.le_trans (mkLen gl.mr) (by decide)), ?_⟩
      refine or_ite (b := isName (.str mk)) (c := eqW (.str mk) "") (gl.mr.imp id fun e => decide_eq_true e) ?_
      exact ⟨_, "bool", true, rfl, rfl, h⟩⟩).mono hk
theorem ok_H_init (T : Tx K mg) : FnOk P w K mg base CX0 1 T.a_H_init T.d_H_init ["self"] (spInit T.C) := ok_hinit T.F_H_init sc_H_init (fun X p h1 h2 => pvS h1 h2) rfl T.cl T.nE T.nM
theorem ok_H_put (T : Tx K mg) {k : Nat} (hk : 1 ≤ k) : FnG P w K mg base CX0 k T.a_H_put T.d_H_put ["self", "name", "entry"] (spH ⟨K, P, w⟩ (hPut T.C)) :=
  (okM 0 T.F_H_put sc_H_put (fun o ds R h => by obtain ⟨_, _, _, _, _, rfl, rfl, _⟩ := h; exact ⟨rfl, rfl⟩) fun cdv A gd outer s H E hr => ⟨_, (dss_cons (ds_hput (i := 0) (u1 hr) T.cl T.nE (pv 0) (dv 1) (dv 2))
    (dss_one (ds_hmem (i := 0) T.cl T.nM (pv 0)))), fun o ds R h => by
      obtain ⟨a, d, es, n, z, rfl, rfl, hl, h⟩ := h
      exact ⟨rfl, Nat.lt_of_le_of_lt hl (by decide), ⟨rfl, _, rfl, ⟨rfl, rfl, rfl⟩, h⟩⟩⟩).mono hk
theorem ok_H_need_new (T : Tx K mg) {k : Nat} (hk : 2 ≤ k) : FnG P w K mg base CX0 k T.a_H_need_new T.d_H_need_new ["self", "name"] (spD ⟨K, P, w⟩ (gNew T.C)) :=
  (okB T.F_H_need_new sc_H_need_new (fun ds R h => by obtain ⟨_, _, rfl, _⟩ := h; rfl) fun cdv A gd outer s H E hr => ⟨_, (dss_cons (ds_if (dt_not (dt_val (de_call (ok_is_name T (k := 1) (by decide)) gd hr (by rfl) T.m_is_name T.F_is_name.kp T.b_is_name pass0 (da_cons (dv 1) da_nil)))) (dss_one ds_never) dss_nil)
    (dss_one (ds_if (dt_inH (u1 hr) (dv 1) (de_ents T.cl T.nE (dv 0))) (dss_one ds_never) dss_nil))), fun ds R h => by
      obtain ⟨es, n, rfl, hn, hg, h⟩ := h
      simp only [dSeq, dNext, dBreak, dCont, dDrop, dRet, dRetN, dIfS, dSet, dB, dNotT, dAndT, dOrT, dNot, dAnd, dOr, dIf, dChain, dVar, dC, dOp, dUn, dNil, dCons, dCall, dTup, dLst, pyAll, dSl, dNo, dPart, dAsg, dPar, dDig, dMix, dPutD, dPutM, dM1, dFor, dItL, dItU, dItS, dItR1, dItR2, dItSc, dItZip, dLc, dYes, gdName, wipeD, asP, asB, asI, asS, asL, asU, sliceD, fCmp, fAdd, startD, fI, true_and, and_true, List.getD_cons_zero, List.getD_cons_succ, List.set_cons_zero, List.set_cons_succ, List.map_cons, List.map_nil, List.length_cons, List.length_nil, Nat.zero_add, Nat.reduceAdd, Nat.reduceSub, List.replicate, List.cons_append, List.nil_append, if_true, if_false, reduceIte, Bool.false_eq_true, Bool.not_true, Bool.not_false]
      refine ⟨_, rfl, wtS (Nat.le_trans (isName_str hn) (by decide)), ?_⟩
      rw [hn]
      refine ⟨rfl, ?_⟩
      show (if (getE es n).isSome = true then _ else _)
      rw [hg]
      exact h⟩).mono hk
theorem ok_H_need_room (T : Tx K mg) {k : Nat} (hk : 1 ≤ k) : FnG P w K mg base CX0 k T.a_H_need_room T.d_H_need_room ["self", "name"] (spD ⟨K, P, w⟩ (gRoom T.C)) :=
  (okB T.F_H_need_room sc_H_need_room (fun ds R h => by obtain ⟨_, _, rfl, _⟩ := h; rfl) fun cdv A gd outer s H E hr => ⟨_, (dss_one (ds_if (dt_cmp od_ge (de_lenH (de_ents T.cl T.nE (dv 0)) (by rfl) T.n_len) (de_glob (d := .p (.int 20)) (v := .int 20) (by rfl) T.c_MOST_ADDRESSES ⟨_, rfl⟩ (fun _ => rfl))) (dss_one ds_never) dss_nil)), fun ds R h => by
      obtain ⟨es, n, rfl, hl, h⟩ := h
      simp only [dSeq, dNext, dBreak, dCont, dDrop, dRet, dRetN, dIfS, dSet, dB, dNotT, dAndT, dOrT, dNot, dAnd, dOr, dIf, dChain, dVar, dC, dOp, dUn, dNil, dCons, dCall, dTup, dLst, pyAll, dSl, dNo, dPart, dAsg, dPar, dDig, dMix, dPutD, dPutM, dM1, dFor, dItL, dItU, dItS, dItR1, dItR2, dItSc, dItZip, dLc, dYes, gdName, wipeD, asP, asB, asI, asS, asL, asU, sliceD, fCmp, fAdd, startD, fI, true_and, and_true, List.getD_cons_zero, List.getD_cons_succ, List.set_cons_zero, List.set_cons_succ, List.map_cons, List.map_nil, List.length_cons, List.length_nil, Nat.zero_add, Nat.reduceAdd, Nat.reduceSub, List.replicate, List.cons_append, List.nil_append, if_true, if_false, reduceIte, Bool.false_eq_true, Bool.not_true, Bool.not_false]
      refine ⟨rfl, ?_⟩
      show (if decide ((20 : Int) ≤ (es.length : Int)) = true then _ else _)
      rw [decide_eq_false (by omega)]
      exact h⟩).mono hk
theorem ok_H_add_list (T : Tx K mg) {k : Nat} (hk : 5 ≤ k) : FnG P w K mg base CX0 k T.a_H_add_list T.d_H_add_list ["self", "name", "members", "tag", "mark", "closed"] (spH ⟨K, P, w⟩ (hList T.C)) :=
  (okM 0 T.F_H_add_list sc_H_add_list (fun o ds R h => by obtain ⟨_, _, _, _, _, _, _, _, rfl, rfl, _⟩ := h; exact ⟨rfl, rfl⟩) fun cdv A gd outer s H E hr => ⟨_, (dss_cons (ds_expr (de_lend (i := 0) (de_methR (by decide +kernel) (by decide +kernel) (dv 0) T.cl T.mt_H_need_new (ok_H_need_new T (k := 4) (by decide)) gd hr T.b_H_need_new pass0 (da_cons (dv 1) da_nil))))
    (dss_cons (ds_expr (de_call (ok_need_list T (k := 4) (by decide)) gd hr (by rfl) T.m_need_list T.F_need_list.kp T.b_need_list pass0 (da_cons (de_tup (da_cons (dv 2) (da_cons (dv 3) (da_cons (dv 4) (da_cons (dv 5) da_nil))))) da_nil)))
    (dss_cons (ds_expr (de_lend (i := 0) (de_methR (by decide +kernel) (by decide +kernel) (dv 0) T.cl T.mt_H_need_room (ok_H_need_room T (k := 4) (by decide)) gd hr T.b_H_need_room pass0 (da_cons (dv 1) da_nil))))
    (dss_one (ds_meth (i := 0) (pv 0) (by decide +kernel) (by decide +kernel) T.cl T.mt_H_put (ok_H_put T (k := 4) (by decide)) gd hr T.b_H_put .nil pass0 kok_plain (da_cons (dv 1) (da_cons (de_tup (da_cons de_str (da_cons (de_tup (da_cons (dv 2) (da_cons (dv 3) (da_cons (dv 4) (da_cons (dv 5) da_nil))))) da_nil))) da_nil))))))), fun o ds R h => by
      obtain ⟨a, d, es, n, mem, tag, mk, cl, rfl, rfl, hn, hg, hl, gl, h⟩ := h
      simp only [dSeq, dNext, dBreak, dCont, dDrop, dRet, dRetN, dIfS, dSet, dB, dNotT, dAndT, dOrT, dNot, dAnd, dOr, dIf, dChain, dVar, dC, dOp, dUn, dNil, dCons, dCall, dTup, dLst, pyAll, dSl, dNo, dPart, dAsg, dPar, dDig, dMix, dPutD, dPutM, dM1, dFor, dItL, dItU, dItS, dItR1, dItR2, dItSc, dItZip, dLc, dYes, gdName, wipeD, asP, asB, asI, asS, asL, asU, sliceD, fCmp, fAdd, startD, fI, true_and, and_true, List.getD_cons_zero, List.getD_cons_succ, List.set_cons_zero, List.set_cons_succ, List.map_cons, List.map_nil, List.length_cons, List.length_nil, Nat.zero_add, Nat.reduceAdd, Nat.reduceSub, List.replicate, List.cons_append, List.nil_append, if_true, if_false, reduceIte, Bool.false_eq_true, Bool.not_true, Bool.not_false]
      exact ⟨rfl, es, n, rfl, hn, hg, by decide, mem, tag, mk, cl, rfl, gl, rfl, es, n, rfl, hl, rfl, (show 4 ≤ sizeLine by decide), (show 2 ≤ sizeLine by decide), a, d, es, n, _, rfl, rfl, Nat.le_trans (Nat.le_of_lt hl) (by decide), _, rfl, ⟨rfl, rfl, rfl⟩, h⟩⟩).mono hk
theorem ok_H_add_alias (T : Tx K mg) {k : Nat} (hk : 3 ≤ k) : FnG P w K mg base CX0 k T.a_H_add_alias T.d_H_add_alias ["self", "name", "target"] (spH ⟨K, P, w⟩ (hAlias T.C)) :=
  (okM 0 T.F_H_add_alias sc_H_add_alias (fun o ds R h => by obtain ⟨_, _, _, _, _, rfl, rfl, _⟩ := h; exact ⟨rfl, rfl⟩) fun cdv A gd outer s H E hr => ⟨_, (dss_cons (ds_expr (de_lend (i := 0) (de_methR (by decide +kernel) (by decide +kernel) (dv 0) T.cl T.mt_H_need_new (ok_H_need_new T (k := 2) (by decide)) gd hr T.b_H_need_new pass0 (da_cons (dv 1) da_nil))))
    (dss_cons (ds_if (dt_not (dt_val (de_call (ok_is_name T (k := 2) (by decide)) gd hr (by rfl) T.m_is_name T.F_is_name.kp T.b_is_name pass0 (da_cons (dv 2) da_nil)))) (dss_one ds_never) dss_nil)
    (dss_cons (ds_expr (de_lend (i := 0) (de_methR (by decide +kernel) (by decide +kernel) (dv 0) T.cl T.mt_H_need_room (ok_H_need_room T (k := 2) (by decide)) gd hr T.b_H_need_room pass0 (da_cons (dv 1) da_nil))))
    (dss_one (ds_meth (i := 0) (pv 0) (by decide +kernel) (by decide +kernel) T.cl T.mt_H_put (ok_H_put T (k := 2) (by decide)) gd hr T.b_H_put .nil pass0 kok_plain (da_cons (dv 1) (da_cons (de_tup (da_cons de_str (da_cons (dv 2) da_nil))) da_nil))))))), fun o ds R h => by
      obtain ⟨a, d, es, n, t, rfl, rfl, hn, hg, hl, ht, h⟩ := h
      simp only [dSeq, dNext, dBreak, dCont, dDrop, dRet, dRetN, dIfS, dSet, dB, dNotT, dAndT, dOrT, dNot, dAnd, dOr, dIf, dChain, dVar, dC, dOp, dUn, dNil, dCons, dCall, dTup, dLst, pyAll, dSl, dNo, dPart, dAsg, dPar, dDig, dMix, dPutD, dPutM, dM1, dFor, dItL, dItU, dItS, dItR1, dItR2, dItSc, dItZip, dLc, dYes, gdName, wipeD, asP, asB, asI, asS, asL, asU, sliceD, fCmp, fAdd, startD, fI, true_and, and_true, List.getD_cons_zero, List.getD_cons_succ, List.set_cons_zero, List.set_cons_succ, List.map_cons, List.map_nil, List.length_cons, List.length_nil, Nat.zero_add, Nat.reduceAdd, Nat.reduceSub, List.replicate, List.cons_append, List.nil_append, if_true, if_false, reduceIte, Bool.false_eq_true, Bool.not_true, Bool.not_false]
      refine ⟨rfl, es, n, rfl, hn, hg, _, rfl, wtS (Nat.le_trans (isName_str ht) (by decide)), ?_⟩
      rw [ht]
      exact ⟨rfl, es, n, rfl, hl, rfl, (show 2 ≤ sizeLine by decide), a, d, es, n, _, rfl, rfl, Nat.le_trans (Nat.le_of_lt hl) (by decide), _, rfl, ⟨rfl, rfl, rfl⟩, h⟩⟩).mono hk
theorem ok_H_entry_of (T : Tx K mg) {k : Nat} (hk : 1 ≤ k) : FnG P w K mg base CX0 k T.a_H_entry_of T.d_H_entry_of ["self", "name"] (spD ⟨K, P, w⟩ (gEnt T.C)) :=
  (okB T.F_H_entry_of sc_H_entry_of (fun ds R h => by obtain ⟨_, _, rfl, _⟩ := h; rfl) fun cdv A gd outer s H E hr => ⟨_, (dss_one (ds_ret (de_getH (u1 hr) (de_ents T.cl T.nE (dv 0)) (dv 1) ⟨rfl, rfl, rfl, rfl⟩))), fun ds R h => by
      obtain ⟨es, n, rfl, h⟩ := h
      exact ⟨rfl, h⟩⟩).mono hk
theorem ok_at_list (T : Tx K mg) {k : Nat} (hk : 2 ≤ k) : FnG P w K mg base CX0 k T.a_at_list T.d_at_list ["what", "message"] (spD ⟨K, P, w⟩ gAt) :=
  (okB T.F_at_list sc_at_list (fun ds R h => by obtain ⟨_, _, _, _, _, _, _, _, rfl, _⟩ := h; rfl) fun cdv A gd outer s H E hr => ⟨_, (dss_cons (ds_asg (vs := [2, 3, 4, 5]) (dv 0) (dg_tup (n := 4) rfl (dgs_cons (dg_name (i := 2) (by decide) sc_at_list.nd rfl (by first | exact Or.inl rfl | exact Or.inr rfl)) (dgs_cons (dg_name (i := 3) (by decide) sc_at_list.nd rfl (by first | exact Or.inl rfl | exact Or.inr rfl)) (dgs_cons (dg_name (i := 4) (by decide) sc_at_list.nd rfl (by first | exact Or.inl rfl | exact Or.inr rfl)) (dgs_cons (dg_name (i := 5) (by decide) sc_at_list.nd rfl (by first | exact Or.inl rfl | exact Or.inr rfl)) dgs_nil))))))
    (dss_cons (ds_asg (vs := [6, 7, 8, 9]) (dv 1) (dg_tup (n := 4) rfl (dgs_cons (dg_name (i := 6) (by decide) sc_at_list.nd rfl (by first | exact Or.inl rfl | exact Or.inr rfl)) (dgs_cons (dg_name (i := 7) (by decide) sc_at_list.nd rfl (by first | exact Or.inl rfl | exact Or.inr rfl)) (dgs_cons (dg_name (i := 8) (by decide) sc_at_list.nd rfl (by first | exact Or.inl rfl | exact Or.inr rfl)) (dgs_cons (dg_name (i := 9) (by decide) sc_at_list.nd rfl (by first | exact Or.inl rfl | exact Or.inr rfl)) dgs_nil))))))
    (dss_cons (ds_if (dw_and (dt_val (dv 5)) (dw_and1 (dt_cmp (od_notinW (u66 hr)) (dv 6) (dv 2)))).pt (dss_one (ds_ret (de_lst da_nil))) dss_nil)
    (dss_cons (ds_if (dt_cmp od_notinS (dv 3) (dv 8)) (dss_one (ds_set (i := 8) sc_at_list.nd rfl (by first | exact Or.inl rfl | exact Or.inr rfl) (de_op od_add (dv 3) (dv 8)))) dss_nil)
    (dss_cons (ds_if (dt_truS (dv 4)) (dss_one (ds_set (i := 9) sc_at_list.nd rfl (by first | exact Or.inl rfl | exact Or.inr rfl) (de_call (ok_with_mark T (k := 1) (by decide)) gd hr (by rfl) T.m_with_mark T.F_with_mark.kp T.b_with_mark pass0 (da_cons (dv 9) (da_cons (dv 4) da_nil))))) dss_nil)
    (dss_one (ds_ret (de_lc (own := [("member", 10)]) rfl sc_at_list.nd (di_tup (dv 2)) (blkOk_by (N := ["what", "message", "members", "tag", "mark", "closed", "sender", "address", "subject", "marks", "member"]) (own := [("member", 10)]) (sc := defScope s_at_list) (by decide +kernel)) (fun _ _ _ _ _ => (dg_name (i := 10) (by decide) sc_at_list.nd rfl (by first | exact Or.inl rfl | exact Or.inr rfl))) (fun _ _ _ _ _ => dts_nil) (fun _ _ _ _ _ => (de_tup (da_cons (de_tup (da_cons de_str (da_cons (dv 7) (da_cons (dv 10) da_nil)))) (da_cons (de_tup (da_cons (dv 6) (da_cons (dv 10) (da_cons (dv 8) (da_cons (dv 9) da_nil))))) da_nil)))))))))))), fun ds R h => by
      obtain ⟨mem, tag, mk, cl, s1, a, u, ms, rfl, sm, hk1, h⟩ := h
      simp only [dSeq, dNext, dBreak, dCont, dDrop, dRet, dRetN, dIfS, dSet, dB, dNotT, dAndT, dOrT, dNot, dAnd, dOr, dIf, dChain, dVar, dC, dOp, dUn, dNil, dCons, dCall, dTup, dLst, pyAll, dSl, dNo, dPart, dAsg, dPar, dDig, dMix, dPutD, dPutM, dM1, dFor, dItL, dItU, dItS, dItR1, dItR2, dItSc, dItZip, dLc, dYes, gdName, wipeD, asP, asB, asI, asS, asL, asU, sliceD, fCmp, fAdd, startD, fI, true_and, and_true, List.getD_cons_zero, List.getD_cons_succ, List.set_cons_zero, List.set_cons_succ, List.map_cons, List.map_nil, List.length_cons, List.length_nil, Nat.zero_add, Nat.reduceAdd, Nat.reduceSub, List.replicate, List.cons_append, List.nil_append, if_true, if_false, reduceIte, Bool.false_eq_true, Bool.not_true, Bool.not_false]
      refine ⟨rfl, _, _, rfl, _, _, rfl, _, _, rfl, _, _, rfl, rfl, ?_⟩
      simp only [dSeq, dNext, dBreak, dCont, dDrop, dRet, dRetN, dIfS, dSet, dB, dNotT, dAndT, dOrT, dNot, dAnd, dOr, dIf, dChain, dVar, dC, dOp, dUn, dNil, dCons, dCall, dTup, dLst, pyAll, dSl, dNo, dPart, dAsg, dPar, dDig, dMix, dPutD, dPutM, dM1, dFor, dItL, dItU, dItS, dItR1, dItR2, dItSc, dItZip, dLc, dYes, gdName, wipeD, asP, asB, asI, asS, asL, asU, sliceD, fCmp, fAdd, startD, fI, true_and, and_true, List.getD_cons_zero, List.getD_cons_succ, List.set_cons_zero, List.set_cons_succ, List.map_cons, List.map_nil, List.length_cons, List.length_nil, Nat.zero_add, Nat.reduceAdd, Nat.reduceSub, List.replicate, List.cons_append, List.nil_append, if_true, if_false, reduceIte, Bool.false_eq_true, Bool.not_true, Bool.not_false]
      refine ⟨rfl, _, _, rfl, _, _, rfl, _, _, rfl, _, _, rfl, rfl, ?_⟩
      simp only [dSeq, dNext, dBreak, dCont, dDrop, dRet, dRetN, dIfS, dSet, dB, dNotT, dAndT, dOrT, dNot, dAnd, dOr, dIf, dChain, dVar, dC, dOp, dUn, dNil, dCons, dCall, dTup, dLst, pyAll, dSl, dNo, dPart, dAsg, dPar, dDig, dMix, dPutD, dPutM, dM1, dFor, dItL, dItU, dItS, dItR1, dItR2, dItSc, dItZip, dLc, dYes, gdName, wipeD, asP, asB, asI, asS, asL, asU, sliceD, fCmp, fAdd, startD, fI, true_and, and_true, List.getD_cons_zero, List.getD_cons_succ, List.set_cons_zero, List.set_cons_succ, List.map_cons, List.map_nil, List.length_cons, List.length_nil, Nat.zero_add, Nat.reduceAdd, Nat.reduceSub, List.replicate, List.cons_append, List.nil_append, if_true, if_false, reduceIte, Bool.false_eq_true, Bool.not_true, Bool.not_false]
      by_cases hg : goesB cl s1 mem = true
      · refine gate_t hg ?_
        by_cases q2 : inS tag u = true
        · refine fNis_of (b := false) (by rw [q2]; rfl) (ite_f ?_)
          exact at_mid sm.1 (Nat.le_trans hk1 (by decide)) sm.2.2.2 (by rw [atL, if_pos hg, lineS, if_pos q2] at h; exact h)
        · refine fNis_of (b := true) (by rw [Bool.eq_false_iff.mpr q2]; rfl) (ite_t ⟨?_, ?_⟩)
          · have := sm.2.1
            have := sm.2.2.1
            exact Nat.le_trans (show tag.length + u.length ≤ 108 by omega) (by decide)
          · exact at_mid sm.1 (Nat.le_trans hk1 (by decide)) sm.2.2.2 (by rw [atL, if_pos hg, lineS, if_neg q2] at h; exact h)
      · obtain ⟨rfl, q⟩ := goes_f hg
        rw [atL, if_neg hg] at h
        refine ite_t ⟨mem, rfl, ?_⟩
        show (if (!inW (.str s1) mem) = true then _ else _)
        rw [q]
        exact ⟨by decide, rfl, h⟩⟩).mono hk
theorem ok_arrival_at (T : Tx K mg) {k : Nat} (hk : 3 ≤ k) : FnG P w K mg base CX0 k T.a_arrival_at T.d_arrival_at ["house", "message"] (spD ⟨K, P, w⟩ (gArrAt T.C)) :=
  (okB T.F_arrival_at sc_arrival_at (fun ds R h => by obtain ⟨_, _, _, _, _, _, rfl, _⟩ := h; rfl) fun cdv A gd outer s H E hr => ⟨_, (dss_cons (ds_asg (vs := [2, 3, 4, 5]) (dv 1) (dg_tup (n := 4) rfl (dgs_cons (dg_name (i := 2) (by decide) sc_arrival_at.nd rfl (by first | exact Or.inl rfl | exact Or.inr rfl)) (dgs_cons (dg_name (i := 3) (by decide) sc_arrival_at.nd rfl (by first | exact Or.inl rfl | exact Or.inr rfl)) (dgs_cons (dg_name (i := 4) (by decide) sc_arrival_at.nd rfl (by first | exact Or.inl rfl | exact Or.inr rfl)) (dgs_cons (dg_name (i := 5) (by decide) sc_arrival_at.nd rfl (by first | exact Or.inl rfl | exact Or.inr rfl)) dgs_nil))))))
    (dss_cons (ds_asg (vs := [6, 7]) (de_methR (by decide +kernel) (by decide +kernel) (dv 0) T.cl T.mt_H_entry_of (ok_H_entry_of T (k := 2) (by decide)) gd hr T.b_H_entry_of pass0 (da_cons (dv 3) da_nil)) (dg_tup (n := 2) rfl (dgs_cons (dg_name (i := 6) (by decide) sc_arrival_at.nd rfl (by first | exact Or.inl rfl | exact Or.inr rfl)) (dgs_cons (dg_name (i := 7) (by decide) sc_arrival_at.nd rfl (by first | exact Or.inl rfl | exact Or.inr rfl)) dgs_nil))))
    (dss_cons (ds_if (dt_cmp (od_eqW hr.units) (dv 6) de_str) dss_never dss_nil)
    (dss_cons (ds_if (dt_cmp (od_eqW hr.units) (dv 6) de_str) (dss_one (ds_ret (de_tup (da_cons (de_lst da_nil) (da_cons (de_lst da_nil) (da_cons (de_call (ok_at_list T (k := 2) (by decide)) gd hr (by rfl) T.m_at_list T.F_at_list.kp T.b_at_list pass0 (da_cons (dv 7) (da_cons (dv 1) da_nil))) da_nil)))))) dss_nil)
    (dss_one (ds_ret (de_tup (da_cons (de_lst da_nil) (da_cons (de_lst da_nil) (da_cons (de_lst (da_cons (de_tup (da_cons (de_tup (da_cons de_str (da_cons (dv 3) da_nil))) (da_cons (de_tup (da_cons (dv 2) (da_cons (dv 7) (da_cons (dv 4) (da_cons (dv 5) da_nil))))) da_nil))) da_nil)) da_nil)))))))))), fun ds R h => by
      obtain ⟨es, s1, a, u, ms, e, rfl, hg, he, hu, hm, h⟩ := h
      simp only [dSeq, dNext, dBreak, dCont, dDrop, dRet, dRetN, dIfS, dSet, dB, dNotT, dAndT, dOrT, dNot, dAnd, dOr, dIf, dChain, dVar, dC, dOp, dUn, dNil, dCons, dCall, dTup, dLst, pyAll, dSl, dNo, dPart, dAsg, dPar, dDig, dMix, dPutD, dPutM, dM1, dFor, dItL, dItU, dItS, dItR1, dItR2, dItSc, dItZip, dLc, dYes, gdName, wipeD, asP, asB, asI, asS, asL, asU, sliceD, fCmp, fAdd, startD, fI, true_and, and_true, List.getD_cons_zero, List.getD_cons_succ, List.set_cons_zero, List.set_cons_succ, List.map_cons, List.map_nil, List.length_cons, List.length_nil, Nat.zero_add, Nat.reduceAdd, Nat.reduceSub, List.replicate, List.cons_append, List.nil_append, if_true, if_false, reduceIte, Bool.false_eq_true, Bool.not_true, Bool.not_false]
      refine ⟨rfl, _, _, rfl, _, _, rfl, _, _, rfl, _, _, rfl, rfl, ?_⟩
      simp only [dSeq, dNext, dBreak, dCont, dDrop, dRet, dRetN, dIfS, dSet, dB, dNotT, dAndT, dOrT, dNot, dAnd, dOr, dIf, dChain, dVar, dC, dOp, dUn, dNil, dCons, dCall, dTup, dLst, pyAll, dSl, dNo, dPart, dAsg, dPar, dDig, dMix, dPutD, dPutM, dM1, dFor, dItL, dItU, dItS, dItR1, dItR2, dItSc, dItZip, dLc, dYes, gdName, wipeD, asP, asB, asI, asS, asL, asU, sliceD, fCmp, fAdd, startD, fI, true_and, and_true, List.getD_cons_zero, List.getD_cons_succ, List.set_cons_zero, List.set_cons_succ, List.map_cons, List.map_nil, List.length_cons, List.length_nil, Nat.zero_add, Nat.reduceAdd, Nat.reduceSub, List.replicate, List.cons_append, List.nil_append, if_true, if_false, reduceIte, Bool.false_eq_true, Bool.not_true, Bool.not_false]
      refine ⟨rfl, es, a, rfl, ?_⟩
      rw [hg]
      cases e with
      | lst mem tag mk cl =>
        refine ⟨rfl, _, _, rfl, _, _, rfl, rfl, ?_⟩
        simp only [dSeq, dNext, dBreak, dCont, dDrop, dRet, dRetN, dIfS, dSet, dB, dNotT, dAndT, dOrT, dNot, dAnd, dOr, dIf, dChain, dVar, dC, dOp, dUn, dNil, dCons, dCall, dTup, dLst, pyAll, dSl, dNo, dPart, dAsg, dPar, dDig, dMix, dPutD, dPutM, dM1, dFor, dItL, dItU, dItS, dItR1, dItR2, dItSc, dItZip, dLc, dYes, gdName, wipeD, asP, asB, asI, asS, asL, asU, sliceD, fCmp, fAdd, startD, fI, true_and, and_true, List.getD_cons_zero, List.getD_cons_succ, List.set_cons_zero, List.set_cons_succ, List.map_cons, List.map_nil, List.length_cons, List.length_nil, Nat.zero_add, Nat.reduceAdd, Nat.reduceSub, List.replicate, List.cons_append, List.nil_append, if_true, if_false, reduceIte, Bool.false_eq_true, Bool.not_true, Bool.not_false]
        refine fEqW_of (b := false) (by decide +kernel) (ite_f ?_)
        refine fEqW_of (b := true) (by decide +kernel) (ite_t ?_)
        exact ⟨by decide, rfl, by decide, rfl, mem, tag, mk, cl, s1, a, u, ms, rfl, ⟨he.mm.len, tagLen he.tg, hu, hm⟩, mkLen he.mr, (show 3 ≤ sizeLine by decide), h⟩
      | ali t =>
        refine ⟨rfl, _, _, rfl, _, _, rfl, rfl, ?_⟩
        simp only [dSeq, dNext, dBreak, dCont, dDrop, dRet, dRetN, dIfS, dSet, dB, dNotT, dAndT, dOrT, dNot, dAnd, dOr, dIf, dChain, dVar, dC, dOp, dUn, dNil, dCons, dCall, dTup, dLst, pyAll, dSl, dNo, dPart, dAsg, dPar, dDig, dMix, dPutD, dPutM, dM1, dFor, dItL, dItU, dItS, dItR1, dItR2, dItSc, dItZip, dLc, dYes, gdName, wipeD, asP, asB, asI, asS, asL, asU, sliceD, fCmp, fAdd, startD, fI, true_and, and_true, List.getD_cons_zero, List.getD_cons_succ, List.set_cons_zero, List.set_cons_succ, List.map_cons, List.map_nil, List.length_cons, List.length_nil, Nat.zero_add, Nat.reduceAdd, Nat.reduceSub, List.replicate, List.cons_append, List.nil_append, if_true, if_false, reduceIte, Bool.false_eq_true, Bool.not_true, Bool.not_false]
        refine fEqW_of (b := false) (by decide +kernel) (ite_f ?_)
        refine fEqW_of (b := false) (by decide +kernel) (ite_f ?_)
        exact ⟨by decide, rfl, by decide, rfl, (show 2 ≤ sizeLine by decide), (show 4 ≤ sizeLine by decide), (show 2 ≤ sizeLine by decide), (show 1 ≤ sizeLine by decide), rfl, (show 3 ≤ sizeLine by decide), h⟩⟩).mono hk
theorem ok_arrives (T : Tx K mg) {k : Nat} (hk : 2 ≤ k) : FnG P w K mg base CX0 k T.a_arrives T.d_arrives ["house", "message"] (spD ⟨K, P, w⟩ (gArrs T.C)) :=
  (okB T.F_arrives sc_arrives (fun ds R h => by obtain ⟨_, _, _, _, _, _, rfl, _⟩ := h; rfl) fun cdv A gd outer s H E hr => ⟨_, (dss_one (ds_ret (de_cmp od_notN (de_methR (by decide +kernel) (by decide +kernel) (dv 0) T.cl T.mt_H_entry_of (ok_H_entry_of T (k := 1) (by decide)) gd hr T.b_H_entry_of pass0 (da_cons (de_ix (dv 1) de_int) da_nil)) de_non))), fun ds R h => by
      obtain ⟨es, s1, a, u, ms, e, rfl, hg, h⟩ := h
      simp only [dSeq, dNext, dBreak, dCont, dDrop, dRet, dRetN, dIfS, dSet, dB, dNotT, dAndT, dOrT, dNot, dAnd, dOr, dIf, dChain, dVar, dC, dOp, dUn, dNil, dCons, dCall, dTup, dLst, pyAll, dSl, dNo, dPart, dAsg, dPar, dDig, dMix, dPutD, dPutM, dM1, dFor, dItL, dItU, dItS, dItR1, dItR2, dItSc, dItZip, dLc, dYes, gdName, wipeD, asP, asB, asI, asS, asL, asU, sliceD, fCmp, fAdd, startD, fI, true_and, and_true, List.getD_cons_zero, List.getD_cons_succ, List.set_cons_zero, List.set_cons_succ, List.map_cons, List.map_nil, List.length_cons, List.length_nil, Nat.zero_add, Nat.reduceAdd, Nat.reduceSub, List.replicate, List.cons_append, List.nil_append, if_true, if_false, reduceIte, Bool.false_eq_true, Bool.not_true, Bool.not_false]
      refine ⟨rfl, _, rfl, es, a, rfl, ?_⟩
      rw [hg]
      cases e <;> exact ⟨rfl, h⟩⟩).mono hk
theorem ok_arrive (T : Tx K mg) {k : Nat} (hk : 4 ≤ k) : FnG P w K mg base CX0 k T.a_arrive T.d_arrive ["house", "message"] (spD ⟨K, P, w⟩ (gArr T.C)) :=
  (okB T.F_arrive sc_arrive (fun ds R h => by obtain ⟨_, _, _, _, _, _, rfl, _⟩ := h; rfl) fun cdv A gd outer s H E hr => ⟨_, (dss_cons (ds_if (dw_or (dt_not (dt_val (de_call (ok_is_message T (k := 3) (by decide)) gd hr (by rfl) T.m_is_message T.F_is_message.kp T.b_is_message pass0 (da_cons (dv 1) da_nil)))) (dw_or1 (dt_not (dt_val (de_call (ok_arrives T (k := 3) (by decide)) gd hr (by rfl) T.m_arrives T.F_arrives.kp T.b_arrives pass0 (da_cons (dv 0) (da_cons (dv 1) da_nil))))))).pt (dss_one ds_never) dss_nil)
    (dss_cons (ds_asg (vs := [2, 3, 4]) (de_call (ok_arrival_at T (k := 3) (by decide)) gd hr (by rfl) T.m_arrival_at T.F_arrival_at.kp T.b_arrival_at pass0 (da_cons (dv 0) (da_cons (dv 1) da_nil))) (dg_tup (n := 3) rfl (dgs_cons (dg_name (i := 2) (by decide) sc_arrive.nd rfl (by first | exact Or.inl rfl | exact Or.inr rfl)) (dgs_cons (dg_name (i := 3) (by decide) sc_arrive.nd rfl (by first | exact Or.inl rfl | exact Or.inr rfl)) (dgs_cons (dg_name (i := 4) (by decide) sc_arrive.nd rfl (by first | exact Or.inl rfl | exact Or.inr rfl)) dgs_nil)))))
    (dss_one (ds_ret (de_tup (da_cons (de_lc (own := [("folder", 5), ("_", 6)]) rfl sc_arrive.nd (di_list (dv 3)) (blkOk_by (N := ["house", "message", "fired", "filed", "sent", "folder", "_", "cut", "copy"]) (own := [("folder", 5), ("_", 6)]) (sc := defScope s_arrive) (by decide +kernel)) (fun _ _ _ _ _ => (dg_tup (n := 2) rfl (dgs_cons (dg_name (i := 5) (by decide) sc_arrive.nd rfl (by first | exact Or.inl rfl | exact Or.inr rfl)) (dgs_cons (dg_name (i := 6) (by decide) sc_arrive.nd rfl (by first | exact Or.inl rfl | exact Or.inr rfl)) dgs_nil)))) (fun _ _ _ _ _ => dts_nil) (fun _ _ _ _ _ => (dv 5))) (da_cons (de_lc (own := [("cut", 7), ("copy", 8)]) rfl sc_arrive.nd (di_list (dv 4)) (blkOk_by (N := ["house", "message", "fired", "filed", "sent", "folder", "_", "cut", "copy"]) (own := [("cut", 7), ("copy", 8)]) (sc := defScope s_arrive) (by decide +kernel)) (fun _ _ _ _ _ => (dg_tup (n := 2) rfl (dgs_cons (dg_name (i := 7) (by decide) sc_arrive.nd rfl (by first | exact Or.inl rfl | exact Or.inr rfl)) (dgs_cons (dg_name (i := 8) (by decide) sc_arrive.nd rfl (by first | exact Or.inl rfl | exact Or.inr rfl)) dgs_nil)))) (fun _ _ _ _ _ => dts_nil) (fun _ _ _ _ _ => (dv 8))) da_nil))))))), fun ds R h => by
      obtain ⟨es, s1, a, u, ms, e, rfl, hi, hw, hg, he, hu, hm, h⟩ := h
      simp only [dSeq, dNext, dBreak, dCont, dDrop, dRet, dRetN, dIfS, dSet, dB, dNotT, dAndT, dOrT, dNot, dAnd, dOr, dIf, dChain, dVar, dC, dOp, dUn, dNil, dCons, dCall, dTup, dLst, pyAll, dSl, dNo, dPart, dAsg, dPar, dDig, dMix, dPutD, dPutM, dM1, dFor, dItL, dItU, dItS, dItR1, dItR2, dItSc, dItZip, dLc, dYes, gdName, wipeD, asP, asB, asI, asS, asL, asU, sliceD, fCmp, fAdd, startD, fI, true_and, and_true, List.getD_cons_zero, List.getD_cons_succ, List.set_cons_zero, List.set_cons_succ, List.map_cons, List.map_nil, List.length_cons, List.length_nil, Nat.zero_add, Nat.reduceAdd, Nat.reduceSub, List.replicate, List.cons_append, List.nil_append, if_true, if_false, reduceIte, Bool.false_eq_true, Bool.not_true, Bool.not_false]
      refine ⟨_, rfl, hw, ?_⟩
      rw [hi]
      refine ⟨es, s1, a, u, ms, e, rfl, hg, ?_⟩
      simp only [dSeq, dNext, dBreak, dCont, dDrop, dRet, dRetN, dIfS, dSet, dB, dNotT, dAndT, dOrT, dNot, dAnd, dOr, dIf, dChain, dVar, dC, dOp, dUn, dNil, dCons, dCall, dTup, dLst, pyAll, dSl, dNo, dPart, dAsg, dPar, dDig, dMix, dPutD, dPutM, dM1, dFor, dItL, dItU, dItS, dItR1, dItR2, dItSc, dItZip, dLc, dYes, gdName, wipeD, asP, asB, asI, asS, asL, asU, sliceD, fCmp, fAdd, startD, fI, true_and, and_true, List.getD_cons_zero, List.getD_cons_succ, List.set_cons_zero, List.set_cons_succ, List.map_cons, List.map_nil, List.length_cons, List.length_nil, Nat.zero_add, Nat.reduceAdd, Nat.reduceSub, List.replicate, List.cons_append, List.nil_append, if_true, if_false, reduceIte, Bool.false_eq_true, Bool.not_true, Bool.not_false]
      refine ⟨es, s1, a, u, ms, e, rfl, hg, he, hu, hm, ?_⟩
      refine ⟨rfl, _, _, rfl, _, _, rfl, _, _, rfl, rfl, ?_⟩
      simp only [dSeq, dNext, dBreak, dCont, dDrop, dRet, dRetN, dIfS, dSet, dB, dNotT, dAndT, dOrT, dNot, dAnd, dOr, dIf, dChain, dVar, dC, dOp, dUn, dNil, dCons, dCall, dTup, dLst, pyAll, dSl, dNo, dPart, dAsg, dPar, dDig, dMix, dPutD, dPutM, dM1, dFor, dItL, dItU, dItS, dItR1, dItR2, dItSc, dItZip, dLc, dYes, gdName, wipeD, asP, asB, asI, asS, asL, asU, sliceD, fCmp, fAdd, startD, fI, true_and, and_true, List.getD_cons_zero, List.getD_cons_succ, List.set_cons_zero, List.set_cons_succ, List.map_cons, List.map_nil, List.length_cons, List.length_nil, Nat.zero_add, Nat.reduceAdd, Nat.reduceSub, List.replicate, List.cons_append, List.nil_append, if_true, if_false, reduceIte, Bool.false_eq_true, Bool.not_true, Bool.not_false]
      refine ⟨by decide, Nat.le_trans (at_len he s1 a u ms) (by decide), lc_map sndD (fun d hd K1 hk => ?_) ⟨by decide, by rw [at_out]; exact h⟩ fun d hd => ?_⟩
      · obtain ⟨c, m, rfl, _⟩ := at_tup hd
        exact ⟨rfl, _, _, rfl, _, _, rfl, rfl, hk⟩
      · obtain ⟨c, m, rfl, q⟩ := at_tup hd
        exact q⟩).mono hk
theorem ok_w_stream (T : Tx K mg) {k : Nat} (hk : 1 ≤ k) : FnG P w K mg base CX0 k T.a_w_stream T.d_w_stream ["script", "start"] (spD ⟨K, P, w⟩ gStream) :=
  (okB T.F_w_stream sc_w_stream (fun ds R h => by obtain ⟨_, _, rfl, _⟩ := h; rfl) fun cdv A gd outer s H E hr => ⟨_, (dss_cons (ds_set (i := 2) sc_w_stream.nd rfl (by first | exact Or.inl rfl | exact Or.inr rfl) (de_op od_add de_int (dv 1)))
    (dss_cons (ds_for (vs := [3]) PassesOwn.never rfl (di_scr (dv 0)) (dg_name (i := 3) (by decide) sc_w_stream.nd rfl (by first | exact Or.inl rfl | exact Or.inr rfl)) (dss_one (ds_set (i := 2) sc_w_stream.nd rfl (by first | exact Or.inl rfl | exact Or.inr rfl) (de_op od_add (de_op od_mod (de_op od_pow (de_op od_add (de_op od_mulB (dv 2) de_int) (de_callTy cd_int (by rfl) T.n_int bt_int (da_cons (dv 3) da_nil))) de_int) de_int) de_int))))
    (dss_cons (ds_set (i := 4) sc_w_stream.nd rfl (by first | exact Or.inl rfl | exact Or.inr rfl) de_int)
    (dss_cons (ds_if (dw_and (dt_cmp od_lt (dv 1) (de_callB cd_lenS (by rfl) T.n_len bt_len (da_cons (dv 0) da_nil))) (dw_and1 (dt_cmp od_ge (de_ixS (dv 0) (dv 1)) (de_op od_powC de_int de_int)))).pt (dss_one (ds_set (i := 4) sc_w_stream.nd rfl (by first | exact Or.inl rfl | exact Or.inr rfl) (de_op od_sub (de_ixS (dv 0) (dv 1)) (de_op od_powC de_int de_int)))) dss_nil)
    (dss_one (ds_ret (de_well (dv 4) (dv 2)))))))), fun ds R h => by
      obtain ⟨ns, a, rfl, hn, hb, ha, h⟩ := h
      simp only [dSeq, dNext, dBreak, dCont, dDrop, dRet, dRetN, dIfS, dSet, dB, dNotT, dAndT, dOrT, dNot, dAnd, dOr, dIf, dChain, dVar, dC, dOp, dUn, dNil, dCons, dCall, dTup, dLst, pyAll, dSl, dNo, dPart, dAsg, dPar, dDig, dMix, dPutD, dPutM, dM1, dFor, dItL, dItU, dItS, dItR1, dItR2, dItSc, dItZip, dLc, dYes, gdName, wipeD, asP, asB, asI, asS, asL, asU, sliceD, fCmp, fAdd, startD, fI, true_and, and_true, List.getD_cons_zero, List.getD_cons_succ, List.set_cons_zero, List.set_cons_succ, List.map_cons, List.map_nil, List.length_cons, List.length_nil, Nat.zero_add, Nat.reduceAdd, Nat.reduceSub, List.replicate, List.cons_append, List.nil_append, if_true, if_false, reduceIte, Bool.false_eq_true, Bool.not_true, Bool.not_false]
      refine ⟨ns, rfl, for_inv (fun δ => ∃ (j : Int) (y : Sl), WJ j ∧ δ = [.v (.scr ns), .v (.p (.int a)), .v (.p (.int j)), y, .un]) _ _ ⟨_, _, ⟨by omega, by omega⟩, rfl⟩ (fun d hd δ' ⟨j, y, wj, e⟩ E' _ hnx _ _ => ?_) fun δ' ⟨j, y, wj, e⟩ => ?_⟩
      · subst e
        obtain ⟨n, hn', rfl⟩ := List.mem_map.mp hd
        have bn := hb n hn'
        simp only [dSeq, dNext, dBreak, dCont, dDrop, dRet, dRetN, dIfS, dSet, dB, dNotT, dAndT, dOrT, dNot, dAnd, dOr, dIf, dChain, dVar, dC, dOp, dUn, dNil, dCons, dCall, dTup, dLst, pyAll, dSl, dNo, dPart, dAsg, dPar, dDig, dMix, dPutD, dPutM, dM1, dFor, dItL, dItU, dItS, dItR1, dItR2, dItSc, dItZip, dLc, dYes, gdName, wipeD, asP, asB, asI, asS, asL, asU, sliceD, fCmp, fAdd, startD, fI, true_and, and_true, List.getD_cons_zero, List.getD_cons_succ, List.set_cons_zero, List.set_cons_succ, List.map_cons, List.map_nil, List.length_cons, List.length_nil, Nat.zero_add, Nat.reduceAdd, Nat.reduceSub, List.replicate, List.cons_append, List.nil_append, if_true, if_false, reduceIte, Bool.false_eq_true, Bool.not_true, Bool.not_false]
        have b2 : Bd 100 (j * 40127) := bd64 (by have := wj.1; have := wj.2; omega)
        have b3 : Bd 1048577 (j * 40127 + n) := (b2.mono (by decide)).add bn
        refine ⟨⟨bd32 (by have := wj.1; have := wj.2; omega), bd32 (by decide)⟩, n, rfl, ⟨.inr rfl, b3.mono (by decide)⟩, by decide, hnx _ ⟨_, _, ⟨?_, ?_⟩, rfl⟩⟩
        · omega
        · omega
      · subst e
        simp only [dSeq, dNext, dBreak, dCont, dDrop, dRet, dRetN, dIfS, dSet, dB, dNotT, dAndT, dOrT, dNot, dAnd, dOr, dIf, dChain, dVar, dC, dOp, dUn, dNil, dCons, dCall, dTup, dLst, pyAll, dSl, dNo, dPart, dAsg, dPar, dDig, dMix, dPutD, dPutM, dM1, dFor, dItL, dItU, dItS, dItR1, dItR2, dItSc, dItZip, dLc, dYes, gdName, wipeD, asP, asB, asI, asS, asL, asU, sliceD, fCmp, fAdd, startD, fI, true_and, and_true, List.getD_cons_zero, List.getD_cons_succ, List.set_cons_zero, List.set_cons_succ, List.map_cons, List.map_nil, List.length_cons, List.length_nil, Nat.zero_add, Nat.reduceAdd, Nat.reduceSub, List.replicate, List.cons_append, List.nil_append, if_true, if_false, reduceIte, Bool.false_eq_true, Bool.not_true, Bool.not_false]
        refine ⟨ns, rfl, ?_⟩
        simp only [dSeq, dNext, dBreak, dCont, dDrop, dRet, dRetN, dIfS, dSet, dB, dNotT, dAndT, dOrT, dNot, dAnd, dOr, dIf, dChain, dVar, dC, dOp, dUn, dNil, dCons, dCall, dTup, dLst, pyAll, dSl, dNo, dPart, dAsg, dPar, dDig, dMix, dPutD, dPutM, dM1, dFor, dItL, dItU, dItS, dItR1, dItR2, dItSc, dItZip, dLc, dYes, gdName, wipeD, asP, asB, asI, asS, asL, asU, sliceD, fCmp, fAdd, startD, fI, true_and, and_true, List.getD_cons_zero, List.getD_cons_succ, List.set_cons_zero, List.set_cons_succ, List.map_cons, List.map_nil, List.length_cons, List.length_nil, Nat.zero_add, Nat.reduceAdd, Nat.reduceSub, List.replicate, List.cons_append, List.nil_append, if_true, if_false, reduceIte, Bool.false_eq_true, Bool.not_true, Bool.not_false]
        cases q : decide ((a : Int) < (ns.length : Int)) with
        | false =>
          exact ⟨⟨Int.le_refl 0, bd32 (by decide)⟩, wj, h⟩
        | true =>
          have q' : a < ns.length := by
            have := of_decide_eq_true q
            omega
          have hx : atI ns (a : Int) = some ns[a] := atI_nat (List.getElem?_eq_getElem q')
          refine ⟨ns, _, ns[a], rfl, rfl, hx, ⟨by decide, by decide, by decide⟩, ?_⟩
          simp only [dSeq, dNext, dBreak, dCont, dDrop, dRet, dRetN, dIfS, dSet, dB, dNotT, dAndT, dOrT, dNot, dAnd, dOr, dIf, dChain, dVar, dC, dOp, dUn, dNil, dCons, dCall, dTup, dLst, pyAll, dSl, dNo, dPart, dAsg, dPar, dDig, dMix, dPutD, dPutM, dM1, dFor, dItL, dItU, dItS, dItR1, dItR2, dItSc, dItZip, dLc, dYes, gdName, wipeD, asP, asB, asI, asS, asL, asU, sliceD, fCmp, fAdd, startD, fI, true_and, and_true, List.getD_cons_zero, List.getD_cons_succ, List.set_cons_zero, List.set_cons_succ, List.map_cons, List.map_nil, List.length_cons, List.length_nil, Nat.zero_add, Nat.reduceAdd, Nat.reduceSub, List.replicate, List.cons_append, List.nil_append, if_true, if_false, reduceIte, Bool.false_eq_true, Bool.not_true, Bool.not_false]
          cases q2 : decide ((10 : Int) ^ (Int.toNat 18) ≤ ns[a]) with
          | false =>
            exact ⟨⟨Int.le_refl 0, bd32 (by decide)⟩, wj, h⟩
          | true =>
            have z := of_decide_eq_true q2
            have z1 : (10 : Int) ^ (Int.toNat 18) = 1000000000000000000 := by decide
            rw [z1] at z
            refine ⟨ns, _, ns[a], rfl, rfl, hx, ⟨by decide, by decide, by decide⟩, ⟨?_, ?_⟩, wj, h⟩
            · rw [z1]
              omega
            · rw [z1]
              exact ((hb _ (List.getElem_mem q')).mono (by decide)).less (by omega)⟩).mono hk
theorem ok_w_draw (T : Tx K mg) {k : Nat} (hk : 1 ≤ k) : FnG P w K mg base CX0 k T.a_w_draw T.d_w_draw ["stream", "size"] (spD ⟨K, P, w⟩ gDraw) :=
  (okB T.F_w_draw sc_w_draw (fun ds R h => by obtain ⟨_, rfl, _⟩ := h; rfl) fun cdv A gd outer s H E hr => ⟨_, (dss_cons (ds_if (dt_cmp od_ge (de_dig (dv 0)) (dv 1)) (dss_cons (ds_set (i := 2) sc_w_draw.nd rfl (by first | exact Or.inl rfl | exact Or.inr rfl) (de_op od_mod (de_callTy cd_int (by rfl) T.n_int bt_int (da_cons (de_dig (dv 0)) da_nil)) (dv 1)))
    (dss_cons (ds_putD (dv 0) (de_op od_fdiv (de_dig (dv 0)) (dv 1)))
    (dss_one (ds_ret (dv 2))))) dss_nil)
    (dss_cons (ds_putM (dv 0) (de_op od_mod (de_op od_add (de_op od_mulB (de_callTy cd_int (by rfl) T.n_int bt_int (da_cons (de_mix (dv 0)) da_nil)) de_int) de_int) de_int))
    (dss_one (ds_ret (de_op od_mod (de_op od_fdiv (de_op od_mod (de_op od_pow5 (de_op od_mod (de_op od_pow (de_callTy cd_int (by rfl) T.n_int bt_int (da_cons (de_mix (dv 0)) da_nil)) de_int) de_int) de_int) de_int) de_int) (dv 1)))))), fun ds R h => by
      obtain ⟨m, rfl, m0, m1, h⟩ := h
      have hR : ∀ x : Int, R (.p (.int (x % m))) := fun x => by
        have e1 := Int.emod_nonneg x (show m ≠ 0 by omega)
        have e2 := Int.emod_lt_of_pos x m0
        have e3 := h (x % m).toNat (by omega)
        rw [show (((x % m).toNat : Nat) : Int) = x % m by omega] at e3
        exact e3
      simp only [dSeq, dNext, dBreak, dCont, dDrop, dRet, dRetN, dIfS, dSet, dB, dNotT, dAndT, dOrT, dNot, dAnd, dOr, dIf, dChain, dVar, dC, dOp, dUn, dNil, dCons, dCall, dTup, dLst, pyAll, dSl, dNo, dPart, dAsg, dPar, dDig, dMix, dPutD, dPutM, dM1, dFor, dItL, dItU, dItS, dItR1, dItR2, dItSc, dItZip, dLc, dYes, gdName, wipeD, asP, asB, asI, asS, asL, asU, sliceD, fCmp, fAdd, startD, fI, true_and, and_true, List.getD_cons_zero, List.getD_cons_succ, List.set_cons_zero, List.set_cons_succ, List.map_cons, List.map_nil, List.length_cons, List.length_nil, Nat.zero_add, Nat.reduceAdd, Nat.reduceSub, List.replicate, List.cons_append, List.nil_append, if_true, if_false, reduceIte, Bool.false_eq_true, Bool.not_true, Bool.not_false]
      intro i wi
      cases decide (m ≤ i) with
      | true =>
        intro i wi
        refine ⟨i, rfl, m0, fun i1 wi1 => ⟨⟨by omega, by omega⟩, ⟨?_, ?_⟩, hR _⟩⟩
        · rw [Int.fdiv_eq_ediv_of_nonneg _ (by omega)]
          exact Int.ediv_nonneg wi1.1 (by omega)
        · refine wi1.2.less ?_
          rw [Int.fdiv_eq_ediv_of_nonneg _ (by omega)]
          have e1 := Int.ediv_nonneg wi1.1 (show 0 ≤ m by omega)
          have e2 := Int.ediv_le_self m wi1.1
          omega
      | false =>
        intro j wj
        refine ⟨j, rfl, ⟨bd32 (by have := wj.1; have := wj.2; omega), bd32 (by decide)⟩, by decide, ⟨by omega, by omega⟩, fun j2 wj2 => ⟨j2, rfl, ⟨.inr rfl, bd32 (by have := wj2.1; have := wj2.2; omega)⟩, by decide, ⟨by decide, by decide, bd32 (by omega)⟩, by decide, ⟨by omega, by omega⟩, m0, hR _⟩⟩⟩).mono hk
theorem ok_w_choose (T : Tx K mg) {k : Nat} (hk : 2 ≤ k) : FnG P w K mg base CX0 k T.a_w_choose T.d_w_choose ["stream", "things"] (spD ⟨K, P, w⟩ gChoose) :=
  (okB T.F_w_choose sc_w_choose (fun ds R h => by obtain ⟨_, rfl, _⟩ := h; rfl) fun cdv A gd outer s H E hr => ⟨_, (dss_one (ds_ret (de_ix (dv 1) (de_call (ok_w_draw T (k := 1) (by decide)) gd hr (by rfl) T.m_w_draw T.F_w_draw.kp T.b_w_draw pass0 (da_cons (dv 0) (da_cons (de_callB cd_len (by rfl) T.n_len bt_len (da_cons (dv 1) da_nil)) da_nil)))))), fun ds R h => by
      obtain ⟨xs, rfl, h0, h1, h⟩ := h
      simp only [dSeq, dNext, dBreak, dCont, dDrop, dRet, dRetN, dIfS, dSet, dB, dNotT, dAndT, dOrT, dNot, dAnd, dOr, dIf, dChain, dVar, dC, dOp, dUn, dNil, dCons, dCall, dTup, dLst, pyAll, dSl, dNo, dPart, dAsg, dPar, dDig, dMix, dPutD, dPutM, dM1, dFor, dItL, dItU, dItS, dItR1, dItR2, dItSc, dItZip, dLc, dYes, gdName, wipeD, asP, asB, asI, asS, asL, asU, sliceD, fCmp, fAdd, startD, fI, true_and, and_true, List.getD_cons_zero, List.getD_cons_succ, List.set_cons_zero, List.set_cons_succ, List.map_cons, List.map_nil, List.length_cons, List.length_nil, Nat.zero_add, Nat.reduceAdd, Nat.reduceSub, List.replicate, List.cons_append, List.nil_append, if_true, if_false, reduceIte, Bool.false_eq_true, Bool.not_true, Bool.not_false]
      refine len_lst (by exact Nat.le_trans (Nat.le_of_lt h1) (by decide)) ⟨_, rfl, by omega, by omega, fun k hk => ?_⟩
      have hk' : k < xs.length := by omega
      exact ⟨xs[k], atI_nat (List.getElem?_eq_getElem hk'), h _ (List.getElem_mem hk')⟩⟩).mono hk
theorem ok_w_shuffled (T : Tx K mg) {k : Nat} (hk : 2 ≤ k) : FnG P w K mg base CX0 k T.a_w_shuffled T.d_w_shuffled ["stream", "things"] (spD ⟨K, P, w⟩ gShuf25) :=
  (okB T.F_w_shuffled sc_w_shuffled (fun ds R h => by obtain ⟨_, rfl, _⟩ := h; rfl) fun cdv A gd outer s H E hr => ⟨_, (dss_cons (ds_parO (i := 2) (j := 3) (by decide) (df_listOf (dv 1) (by rfl) T.n_list) (fun ha => ps_par rfl sc_w_shuffled.nd rfl rfl (by decide) rfl rfl ha (by rfl)))
    (dss_cons (ds_while PassesOwn.never (dt_frz (i := 2) (dt_cmp (od_neE hr.units0) (dv 2) (de_lst da_nil))) (dss_one (ds_appPop (i := 3) (j := 2) (by decide) (de_call (ok_w_draw T (k := 1) (by decide)) gd hr (by rfl) T.m_w_draw T.F_w_draw.kp T.b_w_draw pass0 (da_cons (dv 0) (da_cons (de_lenO (i := 2) (pv 2) (by rfl) T.n_len) da_nil))) (fun ha => ps_expr (pe_bm PySem.F.plainAttrs_list PySem.F.slot_list_append PySem.F.type_list_append mt_append (pv 3) (pa_cons (pe_bm PySem.F.plainAttrs_list PySem.F.slot_list_pop PySem.F.type_list_pop mt_popAt (pv 2) ha) pa_nil))))))
    (dss_one (ds_frz (i := 3) (ds_ret (dv 3)))))), fun ds R h => by
      obtain ⟨xs, rfl, hl, h⟩ := h
      have hp := nP_strs xs
      refine ⟨_, .inl rfl, hp, ?_⟩
      refine ⟨fun m δ => ∃ ls fs : List Str, m = ls.length ∧ (ls ++ fs).Perm xs ∧ δ = [.v .well, .v (.p (.list (xs.map .str))), .own (ls.map .str), .own (fs.map .str)], ⟨_, xs, [], rfl, by rw [List.append_nil], rfl⟩, fun m δ ⟨ls, fs, e1, e2, e⟩ => ?_⟩
      subst e
      have e3 : ls.length + fs.length = xs.length := by rw [← List.length_append]; exact e2.length_eq
      refine ⟨by decide, rfl, rfl, ?_⟩
      cases ls with
      | nil =>
        exact h fs e2
      | cons l ls =>
        rw [List.length_cons] at e1 e3
        refine ⟨fun δ' => ∃ ls' fs' : List Str, ls'.length + 1 = m ∧ (ls' ++ fs').Perm xs ∧ δ' = [.v .well, .v (.p (.list (xs.map .str))), .own (ls'.map .str), .own (fs'.map .str)], fun δ' ⟨ls', fs', a1, a2, a5⟩ => ⟨ls'.length, by omega, ls', fs', rfl, a2, a5⟩, ?_⟩
        refine ⟨by rw [List.length_map, List.length_cons]; exact Nat.le_trans (show ls.length + 1 ≤ 100 by omega) (by decide), _, rfl, by rw [List.length_map, List.length_cons]; omega, by rw [List.length_map, List.length_cons]; omega, fun k hk => ?_⟩
        rw [List.length_map, List.length_cons] at hk
        have hk2 : k < (l :: ls).length := by rw [List.length_cons]; omega
        have e4 : ((l :: ls).map PyData.str)[k]? = some (.str (l :: ls)[k]) := by rw [List.getElem?_map, List.getElem?_eq_getElem hk2]; rfl
        have er : ((l :: ls).map PyData.str).eraseIdx k = ((l :: ls).eraseIdx k).map PyData.str := map_erase _ _
        refine ⟨k, .str (l :: ls)[k], ?_, e4, by omega, by omega, by rw [er]; exact nP_strs _, by rw [List.length_map]; exact Nat.lt_of_lt_of_le (show fs.length < 101 by omega) (by decide), ?_, ?_⟩
        · exact sI_nat (by rw [List.length_map]; exact hk2)
        · rw [show fs.map PyData.str ++ [PyData.str (l :: ls)[k]] = (fs ++ [(l :: ls)[k]]).map PyData.str by rw [List.map_append]; rfl]
          exact nP_strs _
        · refine ⟨(l :: ls).eraseIdx k, fs ++ [(l :: ls)[k]], ?_, ?_, ?_⟩
          · rw [List.length_eraseIdx_of_lt hk2, List.length_cons]; omega
          · refine List.Perm.trans ?_ e2
            have p1 : ((l :: ls)[k] :: (l :: ls).eraseIdx k).Perm (l :: ls) := perm_erase hk2
            have p2 : ((l :: ls).eraseIdx k ++ (fs ++ [(l :: ls)[k]])).Perm ((l :: ls)[k] :: ((l :: ls).eraseIdx k ++ fs)) := by
              rw [← List.append_assoc]
              exact List.perm_append_singleton _ _
            exact p2.trans (p1.append_right fs)
          · rw [er, List.map_append]
            rfl⟩).mono hk
theorem ok_w_house (T : Tx K mg) {k : Nat} (hk : 6 ≤ k) : FnG P w K mg base CX0 k T.a_w_house T.d_w_house ["stream", "pages"] (spN ⟨K, P, w⟩ (nHouse T.C)) :=
  (okN T.F_w_house sc_w_house (fun ds R h => by obtain ⟨_, _, _, _, _, rfl, _⟩ := h; rfl) fun cdv A gd outer s H E hr => ⟨_, (dss_cons (ds_setN (i := 2) sc_w_house.nd rfl (by first | exact Or.inl rfl | exact Or.inr rfl) (de_newH T.mkH (FnOk.mono (k := 4) (ok_H_init T) (by decide)) hr (by rfl) T.mgC T.b_H_init pass0))
    (dss_cons (ds_for (vs := [3]) PassesOwn.never rfl (di_list (de_call (ok_w_shuffled T (k := 5) (by decide)) gd hr (by rfl) T.m_w_shuffled T.F_w_shuffled.kp T.b_w_shuffled pass0 (da_cons (dv 0) (da_cons (de_callB (cd_sortD rfl (u64 hr)) (by rfl) T.n_sorted bt_sorted (da_cons (dv 1) da_nil)) da_nil)))) (dg_name (i := 3) (by decide) sc_w_house.nd rfl (by first | exact Or.inl rfl | exact Or.inr rfl)) (dss_cons (ds_asg (vs := [4, 5]) (de_dgetD (u1 hr) (dv 1) (dv 3)) (dg_tup (n := 2) rfl (dgs_cons (dg_name (i := 4) (by decide) sc_w_house.nd rfl (by first | exact Or.inl rfl | exact Or.inr rfl)) (dgs_cons (dg_name (i := 5) (by decide) sc_w_house.nd rfl (by first | exact Or.inl rfl | exact Or.inr rfl)) dgs_nil))))
    (dss_one (ds_if (dt_cmp (od_eqW hr.units) (dv 4) de_str) dss_never (dss_one (ds_if (dt_cmp (od_eqW hr.units) (dv 4) de_str) (dss_one (ds_methKE (i := 2) (pv 2) (by decide +kernel) (by decide +kernel) T.cl T.mt_H_add_list (ok_H_add_list T (k := 5) (by decide)) gd hr T.kb_H_add_list pass0 kok_gK (da_cons (dv 3) (da_cons (de_ix (dv 5) de_int) da_nil)) (dk_cons (de_ix (dv 5) de_int) (dk_cons (de_ix (dv 5) de_int) (dk_cons (de_ix (dv 5) de_int) dk_nil))))) (dss_one (ds_meth (i := 2) (pv 2) (by decide +kernel) (by decide +kernel) T.cl T.mt_H_add_alias (ok_H_add_alias T (k := 5) (by decide)) gd hr T.b_H_add_alias .nil pass0 kok_plain (da_cons (dv 3) (da_cons (dv 5) da_nil))))))))))
    (dss_one (ds_retN0 (pv 2))))), fun ds R h => by
      obtain ⟨mem, tag, mk, cl, t, rfl, gl, ht, h⟩ := h
      simp only [dSeq, dNext, dBreak, dCont, dDrop, dRet, dRetN, dIfS, dSet, dB, dNotT, dAndT, dOrT, dNot, dAnd, dOr, dIf, dChain, dVar, dC, dOp, dUn, dNil, dCons, dCall, dTup, dLst, pyAll, dSl, dNo, dPart, dAsg, dPar, dDig, dMix, dPutD, dPutM, dM1, dFor, dItL, dItU, dItS, dItR1, dItR2, dItSc, dItZip, dLc, dYes, gdName, wipeD, asP, asB, asI, asS, asL, asU, sliceD, fCmp, fAdd, startD, fI, true_and, and_true, List.getD_cons_zero, List.getD_cons_succ, List.set_cons_zero, List.set_cons_succ, List.map_cons, List.map_nil, List.length_cons, List.length_nil, Nat.zero_add, Nat.reduceAdd, Nat.reduceSub, List.replicate, List.cons_append, List.nil_append, if_true, if_false, reduceIte, Bool.false_eq_true, Bool.not_true, Bool.not_false]
      refine fun a d => ?_
      refine ⟨[("l", Ent.d (.lst mem tag mk cl)), ("e", Ent.d (.ali t))], rfl, sortK ["l", "e"], rfl, ?_, fun ys hp => ?_⟩
      · unfold sortK
        rw [List.length_mergeSort]
        decide
      rcases perm_two (hp.trans (List.mergeSort_perm _ _)) with rfl | rfl
      · refine step_l (C := T.C) gl rfl (show 0 < 20 by decide) ?_
        refine step_e (C := T.C) ht (get_0 ne_le) (show 1 < 20 by decide) ?_
        exact h a d _ (by rw [put_1, put_2 ne_le]; exact get_1) (by rw [put_1, put_2 ne_le]; exact get_2 ne_le)
      · refine step_e (C := T.C) ht rfl (show 0 < 20 by decide) ?_
        refine step_l (C := T.C) gl (get_0 (Ne.symm ne_le)) (show 1 < 20 by decide) ?_
        exact h a d _ (by rw [put_1, put_2 (Ne.symm ne_le)]; exact get_2 (Ne.symm ne_le)) (by rw [put_1, put_2 (Ne.symm ne_le)]; exact get_1)⟩).mono hk
theorem ok_w_with (T : Tx K mg) {k : Nat} (hk : 1 ≤ k) : FnG P w K mg base CX0 k T.a_w_with T.d_w_with ["marks", "token"] (spD ⟨K, P, w⟩ gWm) :=
  (okB T.F_w_with sc_w_with (fun ds R h => by obtain ⟨_, _, rfl, _⟩ := h; rfl) fun cdv A gd outer s H E hr => ⟨_, (dss_one (ds_ret (de_callTy cd_tuple (by rfl) T.n_tuple bt_tuple (da_cons (de_callB (cd_sortK rfl hr) (by rfl) T.n_sorted bt_sorted (da_cons (de_callTy (cd_set rfl) (by rfl) T.n_set bt_set (da_cons (de_op od_add (de_callTy cd_list (by rfl) T.n_list bt_list (da_cons (dv 0) da_nil)) (de_lst (da_cons (dv 1) da_nil))) da_nil)) da_nil)) da_nil)))), fun ds R h => by
      obtain ⟨ms, mk, rfl, hl, h⟩ := h
      simp only [dSeq, dNext, dBreak, dCont, dDrop, dRet, dRetN, dIfS, dSet, dB, dNotT, dAndT, dOrT, dNot, dAnd, dOr, dIf, dChain, dVar, dC, dOp, dUn, dNil, dCons, dCall, dTup, dLst, pyAll, dSl, dNo, dPart, dAsg, dPar, dDig, dMix, dPutD, dPutM, dM1, dFor, dItL, dItU, dItS, dItR1, dItR2, dItSc, dItZip, dLc, dYes, gdName, wipeD, asP, asB, asI, asS, asL, asU, sliceD, fCmp, fAdd, startD, fI, true_and, and_true, List.getD_cons_zero, List.getD_cons_succ, List.set_cons_zero, List.set_cons_succ, List.map_cons, List.map_nil, List.length_cons, List.length_nil, Nat.zero_add, Nat.reduceAdd, Nat.reduceSub, List.replicate, List.cons_append, List.nil_append, if_true, if_false, reduceIte, Bool.false_eq_true, Bool.not_true, Bool.not_false]
      have e : ms.map PyData.str ++ [PyData.str mk] = (ms ++ [mk]).map .str := by rw [List.map_append]; rfl
      refine ⟨_, .inr rfl, nP_strs _, by decide, rfl, by rw [List.length_map]; exact sz (Nat.add_le_add_right hl 1), by rw [e]; exact nP_strs _, _, (ms ++ [mk]).map Sum.inr, rfl, ?_, by rw [List.length_map, List.length_append]; exact Nat.lt_of_le_of_lt (Nat.add_le_add_right (Nat.add_le_add_right hl 1) 1) (by decide), ms ++ [mk], rfl, fun zs hr2 hm hz => ⟨_, .inl rfl, by rw [rs_of hr2 hm]; exact h⟩⟩
      show ms.map .str ++ [.str mk] = List.map keyD ((ms ++ [mk]).map Sum.inr)
      rw [List.map_map, List.map_append]
      rfl⟩).mono hk
theorem ok_w_line (T : Tx K mg) {k : Nat} (hk : 3 ≤ k) : FnG P w K mg base CX0 k T.a_w_line T.d_w_line ["stream", "front"] (spD ⟨K, P, w⟩ gLine25) :=
  (okB T.F_w_line sc_w_line (fun ds R h => by obtain ⟨_, rfl, _⟩ := h; rfl) fun cdv A gd outer s H E hr => ⟨_, (dss_cons (ds_setO (i := 2) sc_w_line.nd rfl (by first | exact Or.inl rfl | exact Or.inr rfl) (df_lst (da_cons de_str (da_cons (dv 1) (da_cons (de_op od_add de_str (dv 1)) (da_cons (de_op od_add (dv 1) de_str) (da_cons (de_op od_add (de_op od_add de_str (dv 1)) de_str) (da_cons (de_op od_add (dv 1) (dv 1)) (da_cons (de_slice (dv 1) (do_some de_int) do_none) (da_cons (de_slice (dv 1) do_none (do_some (de_un ud_neg de_int))) (da_cons de_str da_nil)))))))))))
    (dss_cons (ds_app (i := 2) (pv 2) (de_op od_add de_str (de_slice (dv 1) do_none (do_some de_int))) (fun ha => ps_expr (pe_bm PySem.F.plainAttrs_list PySem.F.slot_list_append PySem.F.type_list_append mt_append (pv 2) ha)))
    (dss_one (ds_frz (i := 2) (ds_ret (de_call (ok_w_choose T (k := 2) (by decide)) gd hr (by rfl) T.m_w_choose T.F_w_choose.kp T.b_w_choose pass0 (da_cons (dv 0) (da_cons (dv 2) da_nil)))))))), fun ds R h => by
      obtain ⟨f, rfl, hf, h⟩ := h
      simp only [dSeq, dNext, dBreak, dCont, dDrop, dRet, dRetN, dIfS, dSet, dB, dNotT, dAndT, dOrT, dNot, dAnd, dOr, dIf, dChain, dVar, dC, dOp, dUn, dNil, dCons, dCall, dTup, dLst, pyAll, dSl, dNo, dPart, dAsg, dPar, dDig, dMix, dPutD, dPutM, dM1, dFor, dItL, dItU, dItS, dItR1, dItR2, dItSc, dItZip, dLc, dYes, gdName, wipeD, asP, asB, asI, asS, asL, asU, sliceD, fCmp, fAdd, startD, fI, true_and, and_true, List.getD_cons_zero, List.getD_cons_succ, List.set_cons_zero, List.set_cons_succ, List.map_cons, List.map_nil, List.length_cons, List.length_nil, Nat.zero_add, Nat.reduceAdd, Nat.reduceSub, List.replicate, List.cons_append, List.nil_append, if_true, if_false, reduceIte, Bool.false_eq_true, Bool.not_true, Bool.not_false]
      simp only [dSetO, dApp, dFrz]
      simp only [dSeq, dNext, dBreak, dCont, dDrop, dRet, dRetN, dIfS, dSet, dB, dNotT, dAndT, dOrT, dNot, dAnd, dOr, dIf, dChain, dVar, dC, dOp, dUn, dNil, dCons, dCall, dTup, dLst, pyAll, dSl, dNo, dPart, dAsg, dPar, dDig, dMix, dPutD, dPutM, dM1, dFor, dItL, dItU, dItS, dItR1, dItR2, dItSc, dItZip, dLc, dYes, gdName, wipeD, asP, asB, asI, asS, asL, asU, sliceD, fCmp, fAdd, startD, fI, true_and, and_true, List.getD_cons_zero, List.getD_cons_succ, List.set_cons_zero, List.set_cons_succ, List.map_cons, List.map_nil, List.length_cons, List.length_nil, Nat.zero_add, Nat.reduceAdd, Nat.reduceSub, List.replicate, List.cons_append, List.nil_append, if_true, if_false, reduceIte, Bool.false_eq_true, Bool.not_true, Bool.not_false]
      have fin : ∀ xs : List PyData, xs.all (linP f) = true → 0 < xs.length → xs.length < 1000000 → gChoose [.well, .p (.list xs)] R := fun xs ha h0 h1 => ⟨xs, rfl, h0, h1, fun x hx => by
        have q := List.all_eq_true.mp ha x hx
        cases x with
        | str u => exact h u q
        | _ => exact Bool.noConfusion q⟩
      rcases List.mem_cons.mp hf with rfl | hf
      · exact ⟨by decide, by decide, by decide, by decide, by decide, by decide, by decide, by decide, rfl, by decide, by decide +kernel, by decide, rfl, fin _ (by decide +kernel) (by decide) (by decide)⟩
      rcases List.mem_cons.mp hf with rfl | hf
      · exact ⟨by decide, by decide, by decide, by decide, by decide, by decide, by decide, by decide, rfl, by decide, by decide +kernel, by decide, rfl, fin _ (by decide +kernel) (by decide) (by decide)⟩
      rcases List.mem_cons.mp hf with rfl | hf
      · exact ⟨by decide, by decide, by decide, by decide, by decide, by decide, by decide, by decide, rfl, by decide, by decide +kernel, by decide, rfl, fin _ (by decide +kernel) (by decide) (by decide)⟩
      rcases List.mem_cons.mp hf with rfl | hf
      · exact ⟨by decide, by decide, by decide, by decide, by decide, by decide, by decide, by decide, rfl, by decide, by decide +kernel, by decide, rfl, fin _ (by decide +kernel) (by decide) (by decide)⟩
      have e := List.mem_singleton.mp hf
      subst e
      exact ⟨by decide, by decide, by decide, by decide, by decide, by decide, by decide, by decide, rfl, by decide, by decide +kernel, by decide, rfl, fin _ (by decide +kernel) (by decide) (by decide)⟩⟩).mono hk
theorem law_s0 (T : Tx K mg) {fa : Addr} {fd : FuncData} (F : Fun K "law" "law" s_law fa fd) (cdv : Value) (A : Around) (gd : A.guards = some []) (outer : List PySem.Env) (s : Shared) (H : Hp) (E : XK) (hr : Room 6 (A.deeper (envOfC "law" (defScope s_law) s.heap.objs.size fa cdv))) : ∃ t, PS (cxOf CX0 P w K mg base ["script", "start", "stream", "turn", "members", "front", "token", "target", "is_shut", "pages", "house", "look", "sender", "line", "marks", "sent", "there", "at", "plain", "kept", "member"] "law" (defScope s_law) fa cdv A outer s H E).nox ((defBody s_law).getD 0 (.Pass ⟨0, 0, 0, 0⟩)) (upS ⟨K, P, w⟩ t) ∧ ∀ (ns : List Int), ns.length ≤ 63 → (∀ n ∈ ns, Bd 1048576 n) → ∀ (D : DE) (δ : Dn), J0 ns δ → D.rt (.p (.bool true)) → (∀ δ', J0 ns δ' → D.nx δ') → t D δ :=
  ⟨_, (ds_for (vs := [1]) PassesOwn.never rfl (di_rng1 (by rfl) T.n_range (da_cons (de_callB (cd_max rfl) (by rfl) T.n_max bt_max (da_cons de_int (da_cons (de_callB (cd_min rfl) (by rfl) T.n_min bt_min (da_cons de_int (da_cons (de_callB cd_lenS (by rfl) T.n_len bt_len (da_cons (dv 0) da_nil)) da_nil))) da_nil))) da_nil)) (dg_name (i := 1) (by decide) sc_law.nd rfl (by first | exact Or.inl rfl | exact Or.inr rfl)) (dss_cons (ds_set (i := 2) sc_law.nd rfl (by first | exact Or.inl rfl | exact Or.inr rfl) (de_call (ok_w_stream T (k := 6) (by decide)) gd hr (by rfl) T.m_w_stream T.F_w_stream.kp T.b_w_stream pass0 (da_cons (dv 0) (da_cons (dv 1) da_nil))))
    (dss_one (ds_for (vs := [3]) PassesOwn.never rfl (di_rng1 (by rfl) T.n_range (da_cons de_int da_nil)) (dg_name (i := 3) (by decide) sc_law.nd rfl (by first | exact Or.inl rfl | exact Or.inr rfl)) (dss_cons (ds_set (i := 4) sc_law.nd rfl (by first | exact Or.inl rfl | exact Or.inr rfl) (de_callTy cd_tuple (by rfl) T.n_tuple bt_tuple (da_cons (de_slice (de_call (ok_w_shuffled T (k := 6) (by decide)) gd hr (by rfl) T.m_w_shuffled T.F_w_shuffled.kp T.b_w_shuffled pass0 (da_cons (dv 2) (da_cons (de_lst (da_cons de_str (da_cons de_str (da_cons de_str (da_cons de_str (da_cons de_str (da_cons de_str (da_cons de_str (da_cons de_str da_nil))))))))) da_nil))) do_none (do_some (de_call (ok_w_draw T (k := 6) (by decide)) gd hr (by rfl) T.m_w_draw T.F_w_draw.kp T.b_w_draw pass0 (da_cons (dv 2) (da_cons de_int da_nil))))) da_nil)))
    (dss_cons (ds_set (i := 5) sc_law.nd rfl (by first | exact Or.inl rfl | exact Or.inr rfl) (de_call (ok_w_choose T (k := 6) (by decide)) gd hr (by rfl) T.m_w_choose T.F_w_choose.kp T.b_w_choose pass0 (da_cons (dv 2) (da_cons (de_lst (da_cons de_str (da_cons de_str (da_cons de_str (da_cons de_str (da_cons de_str da_nil)))))) da_nil))))
    (dss_cons (ds_set (i := 6) sc_law.nd rfl (by first | exact Or.inl rfl | exact Or.inr rfl) (de_call (ok_w_choose T (k := 6) (by decide)) gd hr (by rfl) T.m_w_choose T.F_w_choose.kp T.b_w_choose pass0 (da_cons (dv 2) (da_cons (de_lst (da_cons de_str (da_cons de_str (da_cons de_str da_nil)))) da_nil))))
    (dss_cons (ds_par (i := 7) (j := 8) rfl sc_law.nd rfl rfl (by decide) rfl rfl (da_cons (de_call (ok_w_choose T (k := 6) (by decide)) gd hr (by rfl) T.m_w_choose T.F_w_choose.kp T.b_w_choose pass0 (da_cons (dv 2) (da_cons (de_lst (da_cons de_str (da_cons de_str (da_cons de_str da_nil)))) da_nil))) (da_cons (de_cmp (od_eqQ hr.units) (de_call (ok_w_draw T (k := 6) (by decide)) gd hr (by rfl) T.m_w_draw T.F_w_draw.kp T.b_w_draw pass0 (da_cons (dv 2) (da_cons de_int da_nil))) de_int) da_nil)) (fun ha => ps_par rfl sc_law.nd rfl rfl (by decide) rfl rfl ha (by rfl)))
    (dss_cons (ds_set (i := 9) sc_law.nd rfl (by first | exact Or.inl rfl | exact Or.inr rfl) (de_dispS (ps := [(_, _), (_, _)]) (pps_cons de_str (de_tup (da_cons de_str (da_cons (de_tup (da_cons (dv 4) (da_cons (dv 5) (da_cons (dv 6) (da_cons (dv 8) da_nil))))) da_nil))) (pps_cons de_str (de_tup (da_cons de_str (da_cons (dv 7) da_nil))) pps_nil))))
    (dss_cons (ds_setN (i := 10) sc_law.nd rfl (by first | exact Or.inl rfl | exact Or.inr rfl) (de_callN (ok_w_house T (k := 6) (by decide)) gd hr (by rfl) T.m_w_house T.F_w_house.kp T.b_w_house pass0 (da_cons (dv 2) (da_cons (dv 9) da_nil))))
    (dss_one (ds_for (vs := [11]) PassesOwn.never rfl (di_rng1 (by rfl) T.n_range (da_cons de_int da_nil)) (dg_name (i := 11) (by decide) sc_law.nd rfl (by first | exact Or.inl rfl | exact Or.inr rfl)) (dss_cons (ds_set (i := 12) sc_law.nd rfl (by first | exact Or.inl rfl | exact Or.inr rfl) (de_call (ok_w_choose T (k := 6) (by decide)) gd hr (by rfl) T.m_w_choose T.F_w_choose.kp T.b_w_choose pass0 (da_cons (dv 2) (da_cons (de_op od_add (de_callTy cd_list (by rfl) T.n_list bt_list (da_cons (dv 4) da_nil)) (de_lst (da_cons de_str (da_cons de_str da_nil)))) da_nil))))
    (dss_cons (ds_asg (vs := [13, 14]) (de_tup (da_cons (de_call (ok_w_line T (k := 6) (by decide)) gd hr (by rfl) T.m_w_line T.F_w_line.kp T.b_w_line pass0 (da_cons (dv 2) (da_cons (dv 5) da_nil))) (da_cons (de_call (ok_w_choose T (k := 6) (by decide)) gd hr (by rfl) T.m_w_choose T.F_w_choose.kp T.b_w_choose pass0 (da_cons (dv 2) (da_cons (de_lst (da_cons (de_tup da_nil) (da_cons (de_tup (da_cons de_str da_nil)) (da_cons (de_tup (da_cons de_str (da_cons de_str da_nil))) (da_cons (de_tup (da_cons de_str (da_cons de_str da_nil))) da_nil))))) da_nil))) da_nil))) (dg_tup (n := 2) rfl (dgs_cons (dg_name (i := 13) (by decide) sc_law.nd rfl (by first | exact Or.inl rfl | exact Or.inr rfl)) (dgs_cons (dg_name (i := 14) (by decide) sc_law.nd rfl (by first | exact Or.inl rfl | exact Or.inr rfl)) dgs_nil))))
    (dss_cons (ds_set (i := 15) sc_law.nd rfl (by first | exact Or.inl rfl | exact Or.inr rfl) (de_lst da_nil))
    (dss_cons (ds_if (dw_or (dt_not (dt_val (dv 8))) (dw_or1 (dt_cmp (od_inW (u66 hr)) (dv 12) (dv 4)))).pt (dss_cons (ds_setLcN (i := 16) rfl sc_law.nd rfl rfl (sw_true rfl rfl rfl (by decide +kernel)) (own := [("at", 17)]) (di_rng1 (by rfl) T.n_range (da_cons (de_callB cd_len (by rfl) T.n_len bt_len (da_cons (dv 13) da_nil)) da_nil)) (blkOk_by (N := ["script", "start", "stream", "turn", "members", "front", "token", "target", "is_shut", "pages", "house", "look", "sender", "line", "marks", "sent", "there", "at", "plain", "kept", "member"]) (own := [("at", 17)]) (sc := defScope s_law) (by decide +kernel)) (fun _ _ _ _ _ => (dg_name (i := 17) (by decide) sc_law.nd rfl (by first | exact Or.inl rfl | exact Or.inr rfl))) (fun _ _ _ _ _ => (dts_one (dt_cmp (od_eqQ hr.units) (de_slice (dv 13) (do_some (dv 17)) (do_some (de_op od_add (dv 17) (de_callB cd_len (by rfl) T.n_len bt_len (da_cons (dv 5) da_nil))))) (dv 5)))) (fun _ _ _ _ _ => (dv 17)))
    (dss_cons (ds_set (i := 18) sc_law.nd rfl (by first | exact Or.inl rfl | exact Or.inr rfl) (de_or (de_cmp (od_eqW hr.units) (dv 5) de_str) (de_one (de_cmp (od_neWE hr.units0) (dv 16) (de_lst da_nil)))))
    (dss_cons (ds_set (i := 19) sc_law.nd rfl (by first | exact Or.inl rfl | exact Or.inr rfl) (de_if (dt_cmp (od_neQ hr.units) (dv 6) de_str) (de_call (ok_w_with T (k := 6) (by decide)) gd hr (by rfl) T.m_w_with T.F_w_with.kp T.b_w_with pass0 (da_cons (dv 14) (da_cons (dv 6) da_nil))) (dv 14)))
    (dss_one (ds_setLc (i := 15) rfl sc_law.nd rfl rfl (sw_true rfl rfl rfl (by decide +kernel)) (own := [("member", 20)]) (di_tup (dv 4)) (blkOk_by (N := ["script", "start", "stream", "turn", "members", "front", "token", "target", "is_shut", "pages", "house", "look", "sender", "line", "marks", "sent", "there", "at", "plain", "kept", "member"]) (own := [("member", 20)]) (sc := defScope s_law) (by decide +kernel)) (fun _ _ _ _ _ => (dg_name (i := 20) (by decide) sc_law.nd rfl (by first | exact Or.inl rfl | exact Or.inr rfl))) (fun _ _ _ _ _ => dts_nil) (fun _ _ _ _ _ => (de_tup (da_cons (dv 12) (da_cons (dv 20) (da_cons (de_if (dt_val (dv 18)) (dv 13) (de_op od_add (dv 5) (dv 13))) (da_cons (dv 19) da_nil))))))))))) dss_nil)
    (dss_cons (ds_if (dt_cmp (od_neQ hr.units) (de_lend (i := 10) (de_call (ok_arrive T (k := 6) (by decide)) gd hr (by rfl) T.m_arrive T.F_arrive.kp T.b_arrive pass0 (da_cons (dv 10) (da_cons (de_tup (da_cons (dv 12) (da_cons de_str (da_cons (dv 13) (da_cons (dv 14) da_nil))))) da_nil)))) (de_tup (da_cons (de_lst da_nil) (da_cons (dv 15) da_nil)))) (dss_one (ds_ret de_bl)) dss_nil)
    (dss_one (ds_if (dt_cmp (od_neQ hr.units) (de_lend (i := 10) (de_call (ok_arrive T (k := 6) (by decide)) gd hr (by rfl) T.m_arrive T.F_arrive.kp T.b_arrive pass0 (da_cons (dv 10) (da_cons (de_tup (da_cons (dv 12) (da_cons de_str (da_cons (dv 13) (da_cons (dv 14) da_nil))))) da_nil)))) (de_tup (da_cons (de_lst da_nil) (da_cons (de_lst (da_cons (de_tup (da_cons (dv 12) (da_cons (dv 7) (da_cons (dv 13) (da_cons (dv 14) da_nil))))) da_nil)) da_nil)))) (dss_one (ds_ret de_bl)) dss_nil))))))))))))))))))), fun ns hn hb D δ hI hT hN => by
      obtain ⟨y1, y2, y3, y4, y5, y6, y7, y8, y9, y10, y11, y12, y13, y14, y15, y16, y17, y18, y19, y20, e⟩ := hI
      subst e
      refine ⟨ns, rfl, _, _, rfl, _, _, rfl, _, rfl, by split <;> split <;> omega, by split <;> split <;> omega, for_inv (J0 ns) _ _ ⟨_, _, _, _, _, _, _, _, _, _, _, _, _, _, _, _, _, _, _, _, rfl⟩ (fun d hd δ' hJ E' hrt hnx _ _ => ?_) hN⟩
      obtain ⟨y1, y2, y3, y4, y5, y6, y7, y8, y9, y10, y11, y12, y13, y14, y15, y16, y17, y18, y19, y20, e⟩ := hJ
      subst e
      obtain ⟨k, hk, rfl⟩ := mem_rng hd
      have k5 : k ≤ 63 := by
        revert hk
        split <;> split <;> omega
      refine ⟨ns, k, by rw [Int.zero_add], hn, hb, k5, ?_⟩
      refine ⟨8, rfl, by decide, by decide, for_inv (fun δ => ∃ z1 z3 z4 z5 z6 z7 z8 z9 z10 z11 z12 z13 z14 z15 z16 z17 z18 z19 z20 : Sl, δ = [.v (.scr ns), z1, .v .well, z3, z4, z5, z6, z7, z8, z9, z10, z11, z12, z13, z14, z15, z16, z17, z18, z19, z20]) _ _ ⟨_, _, _, _, _, _, _, _, _, _, _, _, _, _, _, _, _, _, _, rfl⟩ (fun d2 hd2 δ2 hJ2 E2 hrt2 hnx2 _ _ => ?_) fun δ2 hJ2 => ?_⟩
      · obtain ⟨z1, z3, z4, z5, z6, z7, z8, z9, z10, z11, z12, z13, z14, z15, z16, z17, z18, z19, z20, e⟩ := hJ2
        subst e
        exact turn_l (C := T.C) fun w3 w4 w5 w6 w7 w8 w9 w10 w11 w12 w13 w14 w15 w16 w17 w18 w19 w20 => hnx2 _ ⟨_, _, _, _, _, _, _, _, _, _, _, _, _, _, _, _, _, _, _, rfl⟩
      · obtain ⟨z1, z3, z4, z5, z6, z7, z8, z9, z10, z11, z12, z13, z14, z15, z16, z17, z18, z19, z20, e⟩ := hJ2
        subst e
        exact hnx _ ⟨_, _, _, _, _, _, _, _, _, _, _, _, _, _, _, _, _, _, _, _, rfl⟩⟩
theorem law_s1 (T : Tx K mg) {fa : Addr} {fd : FuncData} (F : Fun K "law" "law" s_law fa fd) (cdv : Value) (A : Around) (gd : A.guards = some []) (outer : List PySem.Env) (s : Shared) (H : Hp) (E : XK) (hr : Room 6 (A.deeper (envOfC "law" (defScope s_law) s.heap.objs.size fa cdv))) : ∃ t, PS (cxOf CX0 P w K mg base ["script", "start", "stream", "turn", "members", "front", "token", "target", "is_shut", "pages", "house", "look", "sender", "line", "marks", "sent", "there", "at", "plain", "kept", "member"] "law" (defScope s_law) fa cdv A outer s H E).nox ((defBody s_law).getD 1 (.Pass ⟨0, 0, 0, 0⟩)) (upS ⟨K, P, w⟩ t) ∧ ∀ (ns : List Int), ns.length ≤ 63 → (∀ n ∈ ns, Bd 1048576 n) → ∀ (D : DE) (δ : Dn), J0 ns δ → D.rt (.p (.bool true)) → t D δ :=
  ⟨_, (ds_ret de_bl), fun ns hn hb D δ hI hT => by
      exact hT⟩
theorem ok_law (T : Tx K mg) {fa : Addr} {fd : FuncData} (F : Fun K "law" "law" s_law fa fd) : FnG P w K mg base CX0 7 fa fd ["script"] (spD ⟨K, P, w⟩ fLaw) :=
  okB F sc_law (fun ds R h => by obtain ⟨_, rfl, _⟩ := h; rfl) fun cdv A gd outer s H E hr => by
    obtain ⟨t0, p0, r0⟩ := law_s0 (base := base) T F cdv A gd outer s H E hr
    obtain ⟨t1, p1, r1⟩ := law_s1 (base := base) T F cdv A gd outer s H E hr
    exact ⟨_, (dss_cons p0 (dss_one p1)), fun ds R h => by
      obtain ⟨ns, rfl, hn, hb, h⟩ := h
      have h0 : J0 ns (startD ["script", "start", "stream", "turn", "members", "front", "token", "target", "is_shut", "pages", "house", "look", "sender", "line", "marks", "sent", "there", "at", "plain", "kept", "member"] [.scr ns]) := ⟨_, _, _, _, _, _, _, _, _, _, _, _, _, _, _, _, _, _, _, _, rfl⟩
      exact r0 ns hn hb _ _ h0 h fun _ h1 => r1 ns hn hb _ _ h1 h⟩
end
theorem all_mk {l : PySem.W.OpenLaw} {w : World} {K : PySem.W.Frag} {h : Heap} {mg : Str → Option Value} {fa C : Addr} (X : K.In h) (G : h.Ns mainGlobals mg) (hfa : mg "law" = some (.ref fa))
    {f0 : Addr} {od0 an0 : Option Addr} {sl0 : Array (Option Value)} {oc0 kV0 dc0 pm0 cd0 ct0 : Value}
    (a0 : PySem.W.nsIn K mainGlobals "is_name" = some (some (.ref f0))) (l0 : K.lookup f0 = some ⟨oc0, od0, .func (PySem.W.fnOf "is_name" "is_name" (defArgs s_is_name) (defBody s_is_name) (defScope s_is_name) .none kV0 dc0 pm0 an0 cd0 ct0), sl0⟩) (c0 : PySem.W.codeIn K cd0 "is_name" = true) (k0 : PySem.W.keepIn K (.ref f0) = true)
    {f1 : Addr} {od1 an1 : Option Addr} {sl1 : Array (Option Value)} {oc1 kV1 dc1 pm1 cd1 ct1 : Value}
    (a1 : PySem.W.nsIn K mainGlobals "is_name_tuple" = some (some (.ref f1))) (l1 : K.lookup f1 = some ⟨oc1, od1, .func (PySem.W.fnOf "is_name_tuple" "is_name_tuple" (defArgs s_is_name_tuple) (defBody s_is_name_tuple) (defScope s_is_name_tuple) .none kV1 dc1 pm1 an1 cd1 ct1), sl1⟩) (c1 : PySem.W.codeIn K cd1 "is_name_tuple" = true) (k1 : PySem.W.keepIn K (.ref f1) = true)
    {f2 : Addr} {od2 an2 : Option Addr} {sl2 : Array (Option Value)} {oc2 kV2 dc2 pm2 cd2 ct2 : Value}
    (a2 : PySem.W.nsIn K mainGlobals "is_subject_code" = some (some (.ref f2))) (l2 : K.lookup f2 = some ⟨oc2, od2, .func (PySem.W.fnOf "is_subject_code" "is_subject_code" (defArgs s_is_subject_code) (defBody s_is_subject_code) (defScope s_is_subject_code) .none kV2 dc2 pm2 an2 cd2 ct2), sl2⟩) (c2 : PySem.W.codeIn K cd2 "is_subject_code" = true) (k2 : PySem.W.keepIn K (.ref f2) = true)
    {f3 : Addr} {od3 an3 : Option Addr} {sl3 : Array (Option Value)} {oc3 kV3 dc3 pm3 cd3 ct3 : Value}
    (a3 : PySem.W.nsIn K mainGlobals "is_subject" = some (some (.ref f3))) (l3 : K.lookup f3 = some ⟨oc3, od3, .func (PySem.W.fnOf "is_subject" "is_subject" (defArgs s_is_subject) (defBody s_is_subject) (defScope s_is_subject) .none kV3 dc3 pm3 an3 cd3 ct3), sl3⟩) (c3 : PySem.W.codeIn K cd3 "is_subject" = true) (k3 : PySem.W.keepIn K (.ref f3) = true)
    {f4 : Addr} {od4 an4 : Option Addr} {sl4 : Array (Option Value)} {oc4 kV4 dc4 pm4 cd4 ct4 : Value}
    (a4 : PySem.W.nsIn K mainGlobals "is_text" = some (some (.ref f4))) (l4 : K.lookup f4 = some ⟨oc4, od4, .func (PySem.W.fnOf "is_text" "is_text" (defArgs s_is_text) (defBody s_is_text) (defScope s_is_text) .none kV4 dc4 pm4 an4 cd4 ct4), sl4⟩) (c4 : PySem.W.codeIn K cd4 "is_text" = true) (k4 : PySem.W.keepIn K (.ref f4) = true)
    {f5 : Addr} {od5 an5 : Option Addr} {sl5 : Array (Option Value)} {oc5 kV5 dc5 pm5 cd5 ct5 : Value}
    (a5 : PySem.W.nsIn K mainGlobals "is_message" = some (some (.ref f5))) (l5 : K.lookup f5 = some ⟨oc5, od5, .func (PySem.W.fnOf "is_message" "is_message" (defArgs s_is_message) (defBody s_is_message) (defScope s_is_message) .none kV5 dc5 pm5 an5 cd5 ct5), sl5⟩) (c5 : PySem.W.codeIn K cd5 "is_message" = true) (k5 : PySem.W.keepIn K (.ref f5) = true)
    {f6 : Addr} {od6 an6 : Option Addr} {sl6 : Array (Option Value)} {oc6 kV6 dc6 pm6 cd6 ct6 : Value}
    (a6 : PySem.W.nsIn K mainGlobals "with_mark" = some (some (.ref f6))) (l6 : K.lookup f6 = some ⟨oc6, od6, .func (PySem.W.fnOf "with_mark" "with_mark" (defArgs s_with_mark) (defBody s_with_mark) (defScope s_with_mark) .none kV6 dc6 pm6 an6 cd6 ct6), sl6⟩) (c6 : PySem.W.codeIn K cd6 "with_mark" = true) (k6 : PySem.W.keepIn K (.ref f6) = true)
    {f7 : Addr} {od7 an7 : Option Addr} {sl7 : Array (Option Value)} {oc7 kV7 dc7 pm7 cd7 ct7 : Value}
    (a7 : PySem.W.nsIn K mainGlobals "are_members" = some (some (.ref f7))) (l7 : K.lookup f7 = some ⟨oc7, od7, .func (PySem.W.fnOf "are_members" "are_members" (defArgs s_are_members) (defBody s_are_members) (defScope s_are_members) .none kV7 dc7 pm7 an7 cd7 ct7), sl7⟩) (c7 : PySem.W.codeIn K cd7 "are_members" = true) (k7 : PySem.W.keepIn K (.ref f7) = true)
    {f8 : Addr} {od8 an8 : Option Addr} {sl8 : Array (Option Value)} {oc8 kV8 dc8 pm8 cd8 ct8 : Value}
    (a8 : PySem.W.nsIn K mainGlobals "need_list" = some (some (.ref f8))) (l8 : K.lookup f8 = some ⟨oc8, od8, .func (PySem.W.fnOf "need_list" "need_list" (defArgs s_need_list) (defBody s_need_list) (defScope s_need_list) .none kV8 dc8 pm8 an8 cd8 ct8), sl8⟩) (c8 : PySem.W.codeIn K cd8 "need_list" = true) (k8 : PySem.W.keepIn K (.ref f8) = true)
    {f9 : Addr} {od9 an9 : Option Addr} {sl9 : Array (Option Value)} {oc9 kV9 dc9 pm9 cd9 ct9 : Value}
    (a9 : PySem.W.findIn K (.ref C) "__init__" = some (some (.ref f9))) (i9 : PySem.W.isFn K (.ref f9) = true) (l9 : K.lookup f9 = some ⟨oc9, od9, .func (PySem.W.fnOf "__init__" "House.__init__" (defArgs s_H_init) (defBody s_H_init) (defScope s_H_init) .none kV9 dc9 pm9 an9 cd9 ct9), sl9⟩) (c9 : PySem.W.codeIn K cd9 "House.__init__" = true) (k9 : PySem.W.keepIn K (.ref f9) = true)
    {f10 : Addr} {od10 an10 : Option Addr} {sl10 : Array (Option Value)} {oc10 kV10 dc10 pm10 cd10 ct10 : Value}
    (a10 : PySem.W.findIn K (.ref C) "_put" = some (some (.ref f10))) (i10 : PySem.W.isFn K (.ref f10) = true) (l10 : K.lookup f10 = some ⟨oc10, od10, .func (PySem.W.fnOf "_put" "House._put" (defArgs s_H_put) (defBody s_H_put) (defScope s_H_put) .none kV10 dc10 pm10 an10 cd10 ct10), sl10⟩) (c10 : PySem.W.codeIn K cd10 "House._put" = true) (k10 : PySem.W.keepIn K (.ref f10) = true)
    {f11 : Addr} {od11 an11 : Option Addr} {sl11 : Array (Option Value)} {oc11 kV11 dc11 pm11 cd11 ct11 : Value}
    (a11 : PySem.W.findIn K (.ref C) "_need_new" = some (some (.ref f11))) (i11 : PySem.W.isFn K (.ref f11) = true) (l11 : K.lookup f11 = some ⟨oc11, od11, .func (PySem.W.fnOf "_need_new" "House._need_new" (defArgs s_H_need_new) (defBody s_H_need_new) (defScope s_H_need_new) .none kV11 dc11 pm11 an11 cd11 ct11), sl11⟩) (c11 : PySem.W.codeIn K cd11 "House._need_new" = true) (k11 : PySem.W.keepIn K (.ref f11) = true)
    {f12 : Addr} {od12 an12 : Option Addr} {sl12 : Array (Option Value)} {oc12 kV12 dc12 pm12 cd12 ct12 : Value}
    (a12 : PySem.W.findIn K (.ref C) "_need_room" = some (some (.ref f12))) (i12 : PySem.W.isFn K (.ref f12) = true) (l12 : K.lookup f12 = some ⟨oc12, od12, .func (PySem.W.fnOf "_need_room" "House._need_room" (defArgs s_H_need_room) (defBody s_H_need_room) (defScope s_H_need_room) .none kV12 dc12 pm12 an12 cd12 ct12), sl12⟩) (c12 : PySem.W.codeIn K cd12 "House._need_room" = true) (k12 : PySem.W.keepIn K (.ref f12) = true)
    {f13 : Addr} {od13 an13 : Option Addr} {sl13 : Array (Option Value)} {oc13 kV13 dc13 pm13 cd13 ct13 : Value}
    (a13 : PySem.W.findIn K (.ref C) "add_list" = some (some (.ref f13))) (i13 : PySem.W.isFn K (.ref f13) = true) (l13 : K.lookup f13 = some ⟨oc13, od13, .func (PySem.W.fnOf "add_list" "House.add_list" (defArgs s_H_add_list) (defBody s_H_add_list) (defScope s_H_add_list) .none kV13 dc13 pm13 an13 cd13 ct13), sl13⟩) (c13 : PySem.W.codeIn K cd13 "House.add_list" = true) (k13 : PySem.W.keepIn K (.ref f13) = true)
    {f14 : Addr} {od14 an14 : Option Addr} {sl14 : Array (Option Value)} {oc14 kV14 dc14 pm14 cd14 ct14 : Value}
    (a14 : PySem.W.findIn K (.ref C) "add_alias" = some (some (.ref f14))) (i14 : PySem.W.isFn K (.ref f14) = true) (l14 : K.lookup f14 = some ⟨oc14, od14, .func (PySem.W.fnOf "add_alias" "House.add_alias" (defArgs s_H_add_alias) (defBody s_H_add_alias) (defScope s_H_add_alias) .none kV14 dc14 pm14 an14 cd14 ct14), sl14⟩) (c14 : PySem.W.codeIn K cd14 "House.add_alias" = true) (k14 : PySem.W.keepIn K (.ref f14) = true)
    {f15 : Addr} {od15 an15 : Option Addr} {sl15 : Array (Option Value)} {oc15 kV15 dc15 pm15 cd15 ct15 : Value}
    (a15 : PySem.W.findIn K (.ref C) "entry_of" = some (some (.ref f15))) (i15 : PySem.W.isFn K (.ref f15) = true) (l15 : K.lookup f15 = some ⟨oc15, od15, .func (PySem.W.fnOf "entry_of" "House.entry_of" (defArgs s_H_entry_of) (defBody s_H_entry_of) (defScope s_H_entry_of) .none kV15 dc15 pm15 an15 cd15 ct15), sl15⟩) (c15 : PySem.W.codeIn K cd15 "House.entry_of" = true) (k15 : PySem.W.keepIn K (.ref f15) = true)
    {f16 : Addr} {od16 an16 : Option Addr} {sl16 : Array (Option Value)} {oc16 kV16 dc16 pm16 cd16 ct16 : Value}
    (a16 : PySem.W.nsIn K mainGlobals "at_list" = some (some (.ref f16))) (l16 : K.lookup f16 = some ⟨oc16, od16, .func (PySem.W.fnOf "at_list" "at_list" (defArgs s_at_list) (defBody s_at_list) (defScope s_at_list) .none kV16 dc16 pm16 an16 cd16 ct16), sl16⟩) (c16 : PySem.W.codeIn K cd16 "at_list" = true) (k16 : PySem.W.keepIn K (.ref f16) = true)
    {f17 : Addr} {od17 an17 : Option Addr} {sl17 : Array (Option Value)} {oc17 kV17 dc17 pm17 cd17 ct17 : Value}
    (a17 : PySem.W.nsIn K mainGlobals "arrival_at" = some (some (.ref f17))) (l17 : K.lookup f17 = some ⟨oc17, od17, .func (PySem.W.fnOf "arrival_at" "arrival_at" (defArgs s_arrival_at) (defBody s_arrival_at) (defScope s_arrival_at) .none kV17 dc17 pm17 an17 cd17 ct17), sl17⟩) (c17 : PySem.W.codeIn K cd17 "arrival_at" = true) (k17 : PySem.W.keepIn K (.ref f17) = true)
    {f18 : Addr} {od18 an18 : Option Addr} {sl18 : Array (Option Value)} {oc18 kV18 dc18 pm18 cd18 ct18 : Value}
    (a18 : PySem.W.nsIn K mainGlobals "arrives" = some (some (.ref f18))) (l18 : K.lookup f18 = some ⟨oc18, od18, .func (PySem.W.fnOf "arrives" "arrives" (defArgs s_arrives) (defBody s_arrives) (defScope s_arrives) .none kV18 dc18 pm18 an18 cd18 ct18), sl18⟩) (c18 : PySem.W.codeIn K cd18 "arrives" = true) (k18 : PySem.W.keepIn K (.ref f18) = true)
    {f19 : Addr} {od19 an19 : Option Addr} {sl19 : Array (Option Value)} {oc19 kV19 dc19 pm19 cd19 ct19 : Value}
    (a19 : PySem.W.nsIn K mainGlobals "arrive" = some (some (.ref f19))) (l19 : K.lookup f19 = some ⟨oc19, od19, .func (PySem.W.fnOf "arrive" "arrive" (defArgs s_arrive) (defBody s_arrive) (defScope s_arrive) .none kV19 dc19 pm19 an19 cd19 ct19), sl19⟩) (c19 : PySem.W.codeIn K cd19 "arrive" = true) (k19 : PySem.W.keepIn K (.ref f19) = true)
    {f20 : Addr} {od20 an20 : Option Addr} {sl20 : Array (Option Value)} {oc20 kV20 dc20 pm20 cd20 ct20 : Value}
    (a20 : PySem.W.nsIn K mainGlobals "_law_stream" = some (some (.ref f20))) (l20 : K.lookup f20 = some ⟨oc20, od20, .func (PySem.W.fnOf "_law_stream" "_law_stream" (defArgs s_w_stream) (defBody s_w_stream) (defScope s_w_stream) .none kV20 dc20 pm20 an20 cd20 ct20), sl20⟩) (c20 : PySem.W.codeIn K cd20 "_law_stream" = true) (k20 : PySem.W.keepIn K (.ref f20) = true)
    {f21 : Addr} {od21 an21 : Option Addr} {sl21 : Array (Option Value)} {oc21 kV21 dc21 pm21 cd21 ct21 : Value}
    (a21 : PySem.W.nsIn K mainGlobals "_law_draw" = some (some (.ref f21))) (l21 : K.lookup f21 = some ⟨oc21, od21, .func (PySem.W.fnOf "_law_draw" "_law_draw" (defArgs s_w_draw) (defBody s_w_draw) (defScope s_w_draw) .none kV21 dc21 pm21 an21 cd21 ct21), sl21⟩) (c21 : PySem.W.codeIn K cd21 "_law_draw" = true) (k21 : PySem.W.keepIn K (.ref f21) = true)
    {f22 : Addr} {od22 an22 : Option Addr} {sl22 : Array (Option Value)} {oc22 kV22 dc22 pm22 cd22 ct22 : Value}
    (a22 : PySem.W.nsIn K mainGlobals "_law_choose" = some (some (.ref f22))) (l22 : K.lookup f22 = some ⟨oc22, od22, .func (PySem.W.fnOf "_law_choose" "_law_choose" (defArgs s_w_choose) (defBody s_w_choose) (defScope s_w_choose) .none kV22 dc22 pm22 an22 cd22 ct22), sl22⟩) (c22 : PySem.W.codeIn K cd22 "_law_choose" = true) (k22 : PySem.W.keepIn K (.ref f22) = true)
    {f23 : Addr} {od23 an23 : Option Addr} {sl23 : Array (Option Value)} {oc23 kV23 dc23 pm23 cd23 ct23 : Value}
    (a23 : PySem.W.nsIn K mainGlobals "_law_shuffled" = some (some (.ref f23))) (l23 : K.lookup f23 = some ⟨oc23, od23, .func (PySem.W.fnOf "_law_shuffled" "_law_shuffled" (defArgs s_w_shuffled) (defBody s_w_shuffled) (defScope s_w_shuffled) .none kV23 dc23 pm23 an23 cd23 ct23), sl23⟩) (c23 : PySem.W.codeIn K cd23 "_law_shuffled" = true) (k23 : PySem.W.keepIn K (.ref f23) = true)
    {f24 : Addr} {od24 an24 : Option Addr} {sl24 : Array (Option Value)} {oc24 kV24 dc24 pm24 cd24 ct24 : Value}
    (a24 : PySem.W.nsIn K mainGlobals "_law_house" = some (some (.ref f24))) (l24 : K.lookup f24 = some ⟨oc24, od24, .func (PySem.W.fnOf "_law_house" "_law_house" (defArgs s_w_house) (defBody s_w_house) (defScope s_w_house) .none kV24 dc24 pm24 an24 cd24 ct24), sl24⟩) (c24 : PySem.W.codeIn K cd24 "_law_house" = true) (k24 : PySem.W.keepIn K (.ref f24) = true)
    {f25 : Addr} {od25 an25 : Option Addr} {sl25 : Array (Option Value)} {oc25 kV25 dc25 pm25 cd25 ct25 : Value}
    (a25 : PySem.W.nsIn K mainGlobals "_law_with" = some (some (.ref f25))) (l25 : K.lookup f25 = some ⟨oc25, od25, .func (PySem.W.fnOf "_law_with" "_law_with" (defArgs s_w_with) (defBody s_w_with) (defScope s_w_with) .none kV25 dc25 pm25 an25 cd25 ct25), sl25⟩) (c25 : PySem.W.codeIn K cd25 "_law_with" = true) (k25 : PySem.W.keepIn K (.ref f25) = true)
    {f26 : Addr} {od26 an26 : Option Addr} {sl26 : Array (Option Value)} {oc26 kV26 dc26 pm26 cd26 ct26 : Value}
    (a26 : PySem.W.nsIn K mainGlobals "_law_line" = some (some (.ref f26))) (l26 : K.lookup f26 = some ⟨oc26, od26, .func (PySem.W.fnOf "_law_line" "_law_line" (defArgs s_w_line) (defBody s_w_line) (defScope s_w_line) .none kV26 dc26 pm26 an26 cd26 ct26), sl26⟩) (c26 : PySem.W.codeIn K cd26 "_law_line" = true) (k26 : PySem.W.keepIn K (.ref f26) = true)
    {f27 : Addr} {od27 an27 : Option Addr} {sl27 : Array (Option Value)} {oc27 kV27 dc27 pm27 cd27 ct27 : Value}
    (a27 : PySem.W.nsIn K mainGlobals "law" = some (some (.ref f27))) (l27 : K.lookup f27 = some ⟨oc27, od27, .func (PySem.W.fnOf "law" "law" (defArgs s_law) (defBody s_law) (defScope s_law) .none kV27 dc27 pm27 an27 cd27 ct27), sl27⟩) (c27 : PySem.W.codeIn K cd27 "law" = true) (k27 : PySem.W.keepIn K (.ref f27) = true)
    (aC : PySem.W.nsIn K mainGlobals "House" = some (some (.ref C))) (pg : PySem.W.plainGet K C Str.empty = true) (hd : PySem.W.hasDictIn K C = true) (po : PySem.W.plainOver K C = true) (sa : PySem.W.findIn K (.ref C) "__setattr__" = some (some (.builtin "object.__setattr__"))) (mk : PySem.W.makesIn K C = true) (kc : PySem.W.keepIn K (.ref C) = true)
    (nE : PySem.W.findIn K (.ref C) "_entries" = some none) (nM : PySem.W.findIn K (.ref C) "memory" = some none)
    (z0 : PySem.W.nsIn K mainGlobals "all" = some none)
    (z1 : PySem.W.nsIn K mainGlobals "bool" = some none)
    (z2 : PySem.W.nsIn K mainGlobals "int" = some none)
    (z3 : PySem.W.nsIn K mainGlobals "isinstance" = some none)
    (z4 : PySem.W.nsIn K mainGlobals "len" = some none)
    (z5 : PySem.W.nsIn K mainGlobals "list" = some none)
    (z6 : PySem.W.nsIn K mainGlobals "max" = some none)
    (z7 : PySem.W.nsIn K mainGlobals "min" = some none)
    (z8 : PySem.W.nsIn K mainGlobals "ord" = some none)
    (z9 : PySem.W.nsIn K mainGlobals "range" = some none)
    (z10 : PySem.W.nsIn K mainGlobals "set" = some none)
    (z11 : PySem.W.nsIn K mainGlobals "sorted" = some none)
    (z12 : PySem.W.nsIn K mainGlobals "str" = some none)
    (z13 : PySem.W.nsIn K mainGlobals "tuple" = some none)
    (z14 : PySem.W.nsIn K mainGlobals "zip" = some none)
    {tk0 : Tok} (y0 : PySem.W.nsIn K mainGlobals "FIRST_CODE" = some (some (.int 32 tk0)))
    {tk1 : Tok} (y1 : PySem.W.nsIn K mainGlobals "LAST_CODE" = some (some (.int 126 tk1)))
    {tk2 : Tok} (y2 : PySem.W.nsIn K mainGlobals "MOST_ADDRESSES" = some (some (.int 20 tk2)))
    {tk3 : Tok} (y3 : PySem.W.nsIn K mainGlobals "MOST_CHARACTERS" = some (some (.int 8 tk3)))
    {tk4 : Tok} (y4 : PySem.W.nsIn K mainGlobals "MOST_LETTERS" = some (some (.int 12 tk4)))
    {tk5 : Tok} (y5 : PySem.W.nsIn K mainGlobals "MOST_MEMBERS" = some (some (.int 8 tk5)))
    {tk6 : Tok} (y6 : PySem.W.nsIn K mainGlobals "PERCENT_CODE" = some (some (.int 37 tk6)))
    (off : K.lookup sysModules = none) :
    K.lookup sysModules = none ∧ ∃ fd : FuncData, (∀ (s : Shared) (u : Value), BindsTo s fd ⟨[u], []⟩ [("script", u)]) ∧ ∀ base : Heap, K.In base → base.Ns mainGlobals mg → FnG l.prog w K mg base CX0 7 fa fd ["script"] (spD ⟨K, l.prog, w⟩ fLaw) := by
  have e := hfa.symm.trans (PySem.W.mg_of X G a27)
  cases e
  have F0 := fun_mk (st := s_is_name) l0 c0 k0
  have F1 := fun_mk (st := s_is_name_tuple) l1 c1 k1
  have F2 := fun_mk (st := s_is_subject_code) l2 c2 k2
  have F3 := fun_mk (st := s_is_subject) l3 c3 k3
  have F4 := fun_mk (st := s_is_text) l4 c4 k4
  have F5 := fun_mk (st := s_is_message) l5 c5 k5
  have F6 := fun_mk (st := s_with_mark) l6 c6 k6
  have F7 := fun_mk (st := s_are_members) l7 c7 k7
  have F8 := fun_mk (st := s_need_list) l8 c8 k8
  have F9 := fun_mk (st := s_H_init) l9 c9 k9
  have F10 := fun_mk (st := s_H_put) l10 c10 k10
  have F11 := fun_mk (st := s_H_need_new) l11 c11 k11
  have F12 := fun_mk (st := s_H_need_room) l12 c12 k12
  have F13 := fun_mk (st := s_H_add_list) l13 c13 k13
  have F14 := fun_mk (st := s_H_add_alias) l14 c14 k14
  have F15 := fun_mk (st := s_H_entry_of) l15 c15 k15
  have F16 := fun_mk (st := s_at_list) l16 c16 k16
  have F17 := fun_mk (st := s_arrival_at) l17 c17 k17
  have F18 := fun_mk (st := s_arrives) l18 c18 k18
  have F19 := fun_mk (st := s_arrive) l19 c19 k19
  have F20 := fun_mk (st := s_w_stream) l20 c20 k20
  have F21 := fun_mk (st := s_w_draw) l21 c21 k21
  have F22 := fun_mk (st := s_w_choose) l22 c22 k22
  have F23 := fun_mk (st := s_w_shuffled) l23 c23 k23
  have F24 := fun_mk (st := s_w_house) l24 c24 k24
  have F25 := fun_mk (st := s_w_with) l25 c25 k25
  have F26 := fun_mk (st := s_w_line) l26 c26 k26
  have F27 := fun_mk (st := s_law) l27 c27 k27
  have T : Tx K mg := ⟨C, ⟨pg, hd, po, sa⟩, nE, nM, PySem.W.mg_of X G aC,
    f0, _, F0, F0.binds (ps := ["value"]) (fun _ _ _ _ _ _ us hl => match us, hl with | [_], _ => rfl), PySem.W.mg_of X G a0,
    f1, _, F1, F1.binds (ps := ["value"]) (fun _ _ _ _ _ _ us hl => match us, hl with | [_], _ => rfl), PySem.W.mg_of X G a1,
    f2, _, F2, F2.binds (ps := ["code"]) (fun _ _ _ _ _ _ us hl => match us, hl with | [_], _ => rfl), PySem.W.mg_of X G a2,
    f3, _, F3, F3.binds (ps := ["value"]) (fun _ _ _ _ _ _ us hl => match us, hl with | [_], _ => rfl), PySem.W.mg_of X G a3,
    f4, _, F4, F4.binds (ps := ["value"]) (fun _ _ _ _ _ _ us hl => match us, hl with | [_], _ => rfl), PySem.W.mg_of X G a4,
    f5, _, F5, F5.binds (ps := ["value"]) (fun _ _ _ _ _ _ us hl => match us, hl with | [_], _ => rfl), PySem.W.mg_of X G a5,
    f6, _, F6, F6.binds (ps := ["marks", "mark"]) (fun _ _ _ _ _ _ us hl => match us, hl with | [_, _], _ => rfl), PySem.W.mg_of X G a6,
    f7, _, F7, F7.binds (ps := ["value"]) (fun _ _ _ _ _ _ us hl => match us, hl with | [_], _ => rfl), PySem.W.mg_of X G a7,
    f8, _, F8, F8.binds (ps := ["what"]) (fun _ _ _ _ _ _ us hl => match us, hl with | [_], _ => rfl), PySem.W.mg_of X G a8,
    f9, _, F9, F9.binds (ps := ["self"]) (fun _ _ _ _ _ _ us hl => match us, hl with | [_], _ => rfl), ⟨a9, i9, k9⟩,
    f10, _, F10, F10.binds (ps := ["self", "name", "entry"]) (fun _ _ _ _ _ _ us hl => match us, hl with | [_, _, _], _ => rfl), ⟨a10, i10, k10⟩,
    f11, _, F11, F11.binds (ps := ["self", "name"]) (fun _ _ _ _ _ _ us hl => match us, hl with | [_, _], _ => rfl), ⟨a11, i11, k11⟩,
    f12, _, F12, F12.binds (ps := ["self", "name"]) (fun _ _ _ _ _ _ us hl => match us, hl with | [_, _], _ => rfl), ⟨a12, i12, k12⟩,
    f13, _, F13, kbinds_mk (ps := ["self", "name", "members", "tag", "mark", "closed"]) (ks := ["tag", "mark", "closed"]) F13 rfl (fun _ _ _ _ _ _ us ws h1 h2 => match us, ws, h1, h2 with | [_, _, _], [_, _, _], _, _ => rfl), ⟨a13, i13, k13⟩,
    f14, _, F14, F14.binds (ps := ["self", "name", "target"]) (fun _ _ _ _ _ _ us hl => match us, hl with | [_, _, _], _ => rfl), ⟨a14, i14, k14⟩,
    f15, _, F15, F15.binds (ps := ["self", "name"]) (fun _ _ _ _ _ _ us hl => match us, hl with | [_, _], _ => rfl), ⟨a15, i15, k15⟩,
    f16, _, F16, F16.binds (ps := ["what", "message"]) (fun _ _ _ _ _ _ us hl => match us, hl with | [_, _], _ => rfl), PySem.W.mg_of X G a16,
    f17, _, F17, F17.binds (ps := ["house", "message"]) (fun _ _ _ _ _ _ us hl => match us, hl with | [_, _], _ => rfl), PySem.W.mg_of X G a17,
    f18, _, F18, F18.binds (ps := ["house", "message"]) (fun _ _ _ _ _ _ us hl => match us, hl with | [_, _], _ => rfl), PySem.W.mg_of X G a18,
    f19, _, F19, F19.binds (ps := ["house", "message"]) (fun _ _ _ _ _ _ us hl => match us, hl with | [_, _], _ => rfl), PySem.W.mg_of X G a19,
    f20, _, F20, F20.binds (ps := ["script", "start"]) (fun _ _ _ _ _ _ us hl => match us, hl with | [_, _], _ => rfl), PySem.W.mg_of X G a20,
    f21, _, F21, F21.binds (ps := ["stream", "size"]) (fun _ _ _ _ _ _ us hl => match us, hl with | [_, _], _ => rfl), PySem.W.mg_of X G a21,
    f22, _, F22, F22.binds (ps := ["stream", "things"]) (fun _ _ _ _ _ _ us hl => match us, hl with | [_, _], _ => rfl), PySem.W.mg_of X G a22,
    f23, _, F23, F23.binds (ps := ["stream", "things"]) (fun _ _ _ _ _ _ us hl => match us, hl with | [_, _], _ => rfl), PySem.W.mg_of X G a23,
    f24, _, F24, F24.binds (ps := ["stream", "pages"]) (fun _ _ _ _ _ _ us hl => match us, hl with | [_, _], _ => rfl), PySem.W.mg_of X G a24,
    f25, _, F25, F25.binds (ps := ["marks", "token"]) (fun _ _ _ _ _ _ us hl => match us, hl with | [_, _], _ => rfl), PySem.W.mg_of X G a25,
    f26, _, F26, F26.binds (ps := ["stream", "front"]) (fun _ _ _ _ _ _ us hl => match us, hl with | [_, _], _ => rfl), PySem.W.mg_of X G a26,
    ⟨mk, a9, i9, kc⟩,
    PySem.W.mg_none_of X G z0,
    PySem.W.mg_none_of X G z1,
    PySem.W.mg_none_of X G z2,
    PySem.W.mg_none_of X G z3,
    PySem.W.mg_none_of X G z4,
    PySem.W.mg_none_of X G z5,
    PySem.W.mg_none_of X G z6,
    PySem.W.mg_none_of X G z7,
    PySem.W.mg_none_of X G z8,
    PySem.W.mg_none_of X G z9,
    PySem.W.mg_none_of X G z10,
    PySem.W.mg_none_of X G z11,
    PySem.W.mg_none_of X G z12,
    PySem.W.mg_none_of X G z13,
    PySem.W.mg_none_of X G z14,
    _, PySem.W.mg_of X G y0,
    _, PySem.W.mg_of X G y1,
    _, PySem.W.mg_of X G y2,
    _, PySem.W.mg_of X G y3,
    _, PySem.W.mg_of X G y4,
    _, PySem.W.mg_of X G y5,
    _, PySem.W.mg_of X G y6⟩
  exact ⟨off, PySem.W.fnOf "law" "law" (defArgs s_law) (defBody s_law) (defScope s_law) .none kV27 dc27 pm27 an27 cd27 ct27, fun s v => .of_eq rfl, fun base _ _ => ok_law T F27⟩
end MR
open PySem PySem.W PyProof.Rows
set_option maxHeartbeats 0 in
theorem PySem.Challenge.cw_mailrings_k25_lists_and_aliases_holds : PySem.Challenge.rw_mailrings_k25_lists_and_aliases.Holds := by
  w_on; o_law; k_head; (case hw => w_witness2)
  k_fill
  refine MR.walk_G (l := PySem.Challenge.rw_mailrings_k25_lists_and_aliases) (k := 7) rfl rfl (by decide +kernel) ⟨rfl, by decide, by decide⟩ (fun w h Y => PySem.W.kIn_of Y) ?F
  case F =>
    intro w mg fa h KX G hmg
    refine' MR.all_mk KX G hmg ?a0 ?l0 ?c0 ?k0 ?a1 ?l1 ?c1 ?k1 ?a2 ?l2 ?c2 ?k2 ?a3 ?l3 ?c3 ?k3 ?a4 ?l4 ?c4 ?k4 ?a5 ?l5 ?c5 ?k5 ?a6 ?l6 ?c6 ?k6 ?a7 ?l7 ?c7 ?k7 ?a8 ?l8 ?c8 ?k8 ?a9 ?i9 ?l9 ?c9 ?k9 ?a10 ?i10 ?l10 ?c10 ?k10 ?a11 ?i11 ?l11 ?c11 ?k11 ?a12 ?i12 ?l12 ?c12 ?k12 ?a13 ?i13 ?l13 ?c13 ?k13 ?a14 ?i14 ?l14 ?c14 ?k14 ?a15 ?i15 ?l15 ?c15 ?k15 ?a16 ?l16 ?c16 ?k16 ?a17 ?l17 ?c17 ?k17 ?a18 ?l18 ?c18 ?k18 ?a19 ?l19 ?c19 ?k19 ?a20 ?l20 ?c20 ?k20 ?a21 ?l21 ?c21 ?k21 ?a22 ?l22 ?c22 ?k22 ?a23 ?l23 ?c23 ?k23 ?a24 ?l24 ?c24 ?k24 ?a25 ?l25 ?c25 ?k25 ?a26 ?l26 ?c26 ?k26 ?a27 ?l27 ?c27 ?k27 ?aC ?pg ?hd ?po ?sa ?mk ?kc ?nE ?nM ?z0 ?z1 ?z2 ?z3 ?z4 ?z5 ?z6 ?z7 ?z8 ?z9 ?z10 ?z11 ?z12 ?z13 ?z14 ?y0 ?y1 ?y2 ?y3 ?y4 ?y5 ?y6 ?off
    (case aC => k_is); (case a0 => k_is); (case l0 => k_is); (case c0 => k_is); (case k0 => k_is); (case a1 => k_is); (case l1 => k_is); (case c1 => k_is); (case k1 => k_is); (case a2 => k_is); (case l2 => k_is); (case c2 => k_is); (case k2 => k_is); (case a3 => k_is); (case l3 => k_is); (case c3 => k_is); (case k3 => k_is); (case a4 => k_is); (case l4 => k_is); (case c4 => k_is); (case k4 => k_is); (case a5 => k_is); (case l5 => k_is); (case c5 => k_is); (case k5 => k_is); (case a6 => k_is); (case l6 => k_is); (case c6 => k_is); (case k6 => k_is); (case a7 => k_is); (case l7 => k_is); (case c7 => k_is); (case k7 => k_is); (case a8 => k_is); (case l8 => k_is); (case c8 => k_is); (case k8 => k_is); (case a9 => k_is); (case i9 => k_is); (case l9 => k_is); (case c9 => k_is); (case k9 => k_is); (case a10 => k_is); (case i10 => k_is); (case l10 => k_is); (case c10 => k_is); (case k10 => k_is); (case a11 => k_is); (case i11 => k_is); (case l11 => k_is); (case c11 => k_is); (case k11 => k_is); (case a12 => k_is); (case i12 => k_is); (case l12 => k_is); (case c12 => k_is); (case k12 => k_is); (case a13 => k_is); (case i13 => k_is); (case l13 => k_is); (case c13 => k_is); (case k13 => k_is); (case a14 => k_is); (case i14 => k_is); (case l14 => k_is); (case c14 => k_is); (case k14 => k_is); (case a15 => k_is); (case i15 => k_is); (case l15 => k_is); (case c15 => k_is); (case k15 => k_is); (case a16 => k_is); (case l16 => k_is); (case c16 => k_is); (case k16 => k_is); (case a17 => k_is); (case l17 => k_is); (case c17 => k_is); (case k17 => k_is); (case a18 => k_is); (case l18 => k_is); (case c18 => k_is); (case k18 => k_is); (case a19 => k_is); (case l19 => k_is); (case c19 => k_is); (case k19 => k_is); (case a20 => k_is); (case l20 => k_is); (case c20 => k_is); (case k20 => k_is); (case a21 => k_is); (case l21 => k_is); (case c21 => k_is); (case k21 => k_is); (case a22 => k_is); (case l22 => k_is); (case c22 => k_is); (case k22 => k_is); (case a23 => k_is); (case l23 => k_is); (case c23 => k_is); (case k23 => k_is); (case a24 => k_is); (case l24 => k_is); (case c24 => k_is); (case k24 => k_is); (case a25 => k_is); (case l25 => k_is); (case c25 => k_is); (case k25 => k_is); (case a26 => k_is); (case l26 => k_is); (case c26 => k_is); (case k26 => k_is); (case a27 => k_is); (case l27 => k_is); (case c27 => k_is); (case k27 => k_is); (case pg => k_is); (case hd => k_is); (case po => k_is); (case sa => k_is); (case mk => k_is); (case kc => k_is); (case nE => k_is); (case nM => k_is); (case z0 => k_is); (case z1 => k_is); (case z2 => k_is); (case z3 => k_is); (case z4 => k_is); (case z5 => k_is); (case z6 => k_is); (case z7 => k_is); (case z8 => k_is); (case z9 => k_is); (case z10 => k_is); (case z11 => k_is); (case z12 => k_is); (case z13 => k_is); (case z14 => k_is); (case y0 => k_is); (case y1 => k_is); (case y2 => k_is); (case y3 => k_is); (case y4 => k_is); (case y5 => k_is); (case y6 => k_is)
    (case off => rfl)

