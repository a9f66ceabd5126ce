import PyProof.Rows.All
import Wide.All
import OpenK.AllK
import Wide.FinOn
import HandS.SetFor
import HandS.SetKeys
import KE.SortData
import PyProof.StrWalks
import PyProof.EnumMake
import HandS.ForMost
import HandS.TupAny
import HandS.IsInst
import HandS.Zip
import HandS.TupMul
import PyProof.ReprRoads
import PyProof.CallFns
import KE.KxIndex
import HandS.EndBits
import KE.DataEq
import PyProof.ReprLen
import KE.DataCmp
import HandS.StrMore
import HandS.Replace
import HandS.Star
import HandS.Style
import HandS.ForDict
import KE.KDictSum
import PyProof.TupleIter
import KE.GoesMore
import HandS.TryOnly
import HandS.Defaults
import PySem.Challenge.RW_mailrings_k29_whole_rules_parted
set_option Elab.async false
set_option linter.all false
set_option maxRecDepth 100000
set_option autoImplicit false
/-! Sets of numbers and texts: made from lists, tuples, texts; sorted. -/
namespace MR
open PySem PySem.Spec PyProof.Rows L2
def kOf (v : Value) : Option Key := match v with
  | .int k _ => some (.inl k)
  | .str x _ => some (.inr x)
  | _ => none
def hasK (ks : List Key) (j : Key) : Bool := ks.any fun i => decide (i = j)
theorem hasK_iff {ks : List Key} {j : Key} : hasK ks j = true ↔ j ∈ ks := by
  unfold hasK
  rw [List.any_eq_true]
  exact ⟨fun ⟨x, hx, e⟩ => of_decide_eq_true e ▸ hx, fun h => ⟨j, h, decide_eq_true rfl⟩⟩
def GoodK (w : World) (e : Int × Value) : Prop := ∃ k, kOf e.2 = some k ∧ e.1 = keyH w k
theorem kOf_is {k : Key} {v : Value} : keyIs k v = true ↔ kOf v = some k := by
  constructor
  · intro h
    rcases keyIs_shape h with ⟨i, t, rfl, rfl⟩ | ⟨x, t, rfl, rfl⟩ <;> rfl
  · intro h
    cases v with
    | int i t =>
      cases h
      exact keyIs_int i t
    | str x t =>
      cases h
      exact keyIs_str x t
    | _ => cases h
theorem kOf_scan {k : Key} {v : Value} (h : kOf v = some k) : v.scannable = true := by
  cases v with
  | int i t => rfl
  | str x t => rfl
  | _ => cases h
/-- the set of keys at a: S its members, n their number; its table rises and can be walked -/
def SetG (w : World) (h : Heap) (a : Addr) (S : Key → Bool) (n : Nat) : Prop :=
  ∃ ob el ep tb, h.get? a = some ob ∧ ob.ExactSet ∧ ob.data = .set el ep tb ∧ (∀ x ∈ el.toList, GoodK w x) ∧ (el.toList.map fun x => kOf x.2).Nodup ∧
    (∀ k, S k = true ↔ some k ∈ el.toList.map fun x => kOf x.2) ∧ el.size < scanBound ∧ tb.fits el.size = true ∧ el.size = n ∧ Ris tb.place.toList ∧ (w.params.followText "set-order" = true ∨ tb.led = true)
section
variable {P : Program} {w : World} {h h' : Heap} {a : Addr} {S : Key → Bool} {n : Nat}
theorem SetG.keeps (R : SetG w h a S n) (k : ∀ ob, h.get? a = some ob → h'.get? a = some ob) : SetG w h' a S n := let ⟨ob, el, ep, tb, e, r⟩ := R; ⟨ob, el, ep, tb, k ob e, r⟩
theorem SetG.same {T : Key → Bool} (R : SetG w h a S n) (e : ∀ k, T k = S k) : SetG w h a T n := by
  rw [show T = S from funext e]
  exact R
theorem goodK_elems {l : List (Int × Value)} (g : ∀ e ∈ l, GoodK w e) : ElemsOf (mixKind P w) l := fun e he => by
  obtain ⟨k, h1, h2⟩ := g e he
  exact ⟨⟨k, kOf_is.mpr h1, h2⟩, kOf_scan h1⟩
theorem goodK_mem {l : List (Int × Value)} (k : Key) : some k ∈ (l.map fun e => kOf e.2) ↔ ∃ e ∈ l, (mixKind P w).is k e.2 = true := by
  rw [List.mem_map]
  exact ⟨fun ⟨e, he, q⟩ => ⟨e, he, kOf_is.mpr q⟩, fun ⟨e, he, q⟩ => ⟨e, he, kOf_is.mp q⟩⟩
theorem SetG.toOf (R : SetG w h a S n) : h.SetOf (mixKind P w) a S n := by
  obtain ⟨ob, el, ep, tb, ho, hx, hd, g, _, hm, hb, hf, hn, _⟩ := R
  exact ⟨ob, el, ep, tb, ho, hx, hd, goodK_elems g, fun k => (hm k).trans (goodK_mem k), hb, hf, hn⟩
end
section
variable {P : Program} {w : World} {A : Around} {E : Value → Shared → Prop} {s : Shared} {a : Addr} {S : Key → Bool} {n : Nat}
/-- what storing an added key ends with -/
theorem setG_tail {gv : Bool → Sem Unit} (hgv : ∀ (b : Bool) (s₁ : Shared) (Q' : Unit → Shared → Prop), Q' () s₁ → wpAny (model P w) A (gv b) Q' E s₁)
    {ob : Obj} {el : Array (Int × Value)} {ep : Nat} {tb : SetTable} (ho : s.heap.get? a = some ob) (hx : ob.ExactSet) (hd : ob.data = .set el ep tb) {el1 : Array (Int × Value)} {t2 : SetTable} {T : Key → Bool}
    (g1 : ∀ x ∈ el1.toList, GoodK w x) (nd1 : (el1.toList.map fun x => kOf x.2).Nodup) (m1 : ∀ k, T k = true ↔ some k ∈ el1.toList.map fun x => kOf x.2) (hb1 : el1.size < scanBound) (hf2 : t2.fits el1.size = true) (hr : Ris t2.place.toList)
    (hl : w.params.followText "set-order" = true ∨ t2.led = true) {was : Bool} {R : Option Bool → Shared → Prop} (hR : ∀ h', Heap.SameBut a s.heap h' → SetG w h' a T el1.size → R (some true) { s with heap := h' }) :
    wpAny (model P w) A (do
        storeSet a el1 t2
        if (!was && t2.tooFull) = true then do
            gv (relayAll t2 el1 (SetTable.grown el1.size)).2.2
            storeSet a (relayAll t2 el1 (SetTable.grown el1.size)).1 (relayAll t2 el1 (SetTable.grown el1.size)).2.1
            pure (some true)
          else pure (some true)) R E s := by
  refine wpAny_bind (wpAny_storeSet_of ho hd ?_ (fits_of_scanBound hb1))
  have at1 := store_at (es' := el1) (t' := t2) ho hd
  have same1 := Heap.SameBut.update s.heap a (Obj.putSet el1 t2)
  split
  · have perm := relayAll_perm t2 el1 (SetTable.grown el1.size)
    have fit3 := relayAll_fits t2 el1 (SetTable.grown el1.size)
    have ris3 := relayAll_ris t2 el1 (SetTable.grown el1.size)
    have led3 := relayAll_led t2 el1 (SetTable.grown el1.size)
    generalize relayAll t2 el1 (SetTable.grown el1.size) = Z at perm fit3 ris3 led3 ⊢
    obtain ⟨el2, t3, gave⟩ := Z
    dsimp only at perm fit3 ris3 led3 ⊢
    have size2 : el2.size = el1.size := by rw [← Array.length_toList, perm.length_eq, Array.length_toList]
    have bound2 : el2.size < scanBound := size2 ▸ hb1
    refine wpAny_bind (hgv _ _ _ (wpAny_bind (wpAny_storeSet_of at1 rfl ?_ (fits_of_scanBound bound2))))
    have at2 := store_at (es' := el2) (t' := t3) at1 rfl
    refine wpAny_pure (hR _ (same1.trans (Heap.SameBut.update _ a _)) ?_)
    exact ⟨_, el2, _, t3, at2, hx, rfl, fun x q => g1 x (perm.mem_iff.mp q), (perm.map _).nodup_iff.mpr nd1, fun k => (m1 k).trans (perm.map _).mem_iff.symm, bound2, fit3, size2, ris3, hl.imp id fun z => by rw [led3]; exact z⟩
  · exact wpAny_pure (hR _ same1 ⟨_, el1, _, t2, at1, hx, rfl, g1, nd1, m1, hb1, hf2, rfl, hr, hl⟩)
theorem setG_add {k : Key} {v : Value} {Q : Bool → Shared → Prop} (hv : kOf v = some k) (R : SetG w s.heap a S n) (room : n + 1 < scanBound)
    (hQ : ∀ h', Heap.SameBut a s.heap h' → SetG w h' a (fun j => S j || decide (j = k)) (if S k = true then n else n + 1) → Q (!S k) { s with heap := h' }) :
    wpAny (model P w) A (setAddHashed a v ((mixKind P w).hash k)) Q E s := by
  obtain ⟨ob, el, ep, tb, ho, hx, hd, g, nd, hm, hb, hf, hn, hr, hl⟩ := R
  have isk : (mixKind P w).is k v = true := kOf_is.mpr hv
  have scn : v.scannable = true := kOf_scan hv
  have elems : ElemsOf (mixKind P w) el.toList := goodK_elems g
  unfold setAddHashed setAddHashedIn
  refine wpAny_holding (wpAny_bind (wpAny_setState_of ho hd hf ?_))
  dsimp only
  rw [byScan_of scn hb elems]
  simp only [↓reduceIte]
  unfold setAddByScan
  refine wpAny_bind (wpAny_bind (wpAny_rule (wpAny_bind (wpAny_setScan_of isk ho hd hf elems ?_))))
  cases found : List.findIdx? (fun e => (mixKind P w).is k e.2) el.toList with
  | some j =>
    dsimp only
    obtain ⟨hj, pj, _⟩ := List.findIdx?_eq_some_iff_getElem.mp found
    have inS : S k = true := (hm k).2 ((goodK_mem (P := P) (w := w) k).2 ⟨el.toList[j], List.getElem_mem hj, pj⟩)
    refine wpAny_pure (wpAny_pure ?_)
    have q := hQ s.heap (Heap.SameBut.refl a s.heap) ⟨ob, el, ep, tb, ho, hx, hd, g, nd, fun i => by
      rw [Bool.or_eq_true, decide_eq_true_eq, ← hm i]
      exact ⟨fun z => z.elim id fun e => e ▸ inS, .inl⟩, hb, hf, by rw [if_pos inS]; exact hn, hr, hl⟩
    rw [inS] at q
    exact q
  | none =>
    dsimp only
    have notin : some k ∉ el.toList.map fun e => kOf e.2 := fun z => by
      obtain ⟨e, he, q⟩ := (goodK_mem (P := P) (w := w) k).1 z
      have c := List.findIdx?_eq_none_iff.mp found e he
      rw [q] at c
      cases c
    have offS : S k = false := Bool.eq_false_iff.mpr fun q => notin ((hm k).1 q)
    have give : ∀ (b : Bool) {s₁ : Shared} {Q' : Unit → Shared → Prop}, Q' () s₁ → wpAny (model P w) A (match b with | true => rule "set.scan.the-table-gave-way" | false => pure ()) Q' E s₁ := fun b s₁ Q' q => by
      cases b
      · exact wpAny_pure q
      · exact wpAny_rule q
    have perm := layNew_perm tb el ((mixKind P w).hash k) v
    have fit1 := layNew_fits tb el ((mixKind P w).hash k) v
    have ris1 := layNew_ris tb el ((mixKind P w).hash k) v hr
    have led1 := layNew_led tb el ((mixKind P w).hash k) v
    generalize layNew tb el ((mixKind P w).hash k) v = Z at perm fit1 ris1 led1 ⊢
    obtain ⟨el1, t1, was, gave⟩ := Z
    dsimp only at perm fit1 ris1 led1 ⊢
    rw [Array.toList_push] at perm
    have front : el1.toList.Perm (((mixKind P w).hash k, v) :: el.toList) := perm.trans (List.perm_append_singleton _ _)
    have keys : (el1.toList.map fun e => kOf e.2).Perm (some k :: el.toList.map fun e => kOf e.2) := by
      have q := front.map fun (e : Int × Value) => kOf e.2
      rw [List.map_cons] at q
      rw [← hv]
      exact q
    have good1 : ∀ e ∈ el1.toList, GoodK w e := fun e he => by
      rcases List.mem_cons.mp (front.mem_iff.mp he) with z | z
      · rw [z]
        exact ⟨k, hv, rfl⟩
      · exact g e z
    have nd1 : (el1.toList.map fun e => kOf e.2).Nodup := keys.nodup_iff.mpr (List.nodup_cons.mpr ⟨notin, nd⟩)
    have mem1 : ∀ i, (S i || decide (i = k)) = true ↔ some i ∈ el1.toList.map fun e => kOf e.2 := fun i => by
      rw [Bool.or_eq_true, decide_eq_true_eq, hm i, keys.mem_iff, List.mem_cons]
      exact ⟨fun z => z.elim .inr fun e => .inl (by rw [e]), fun z => z.elim (fun e => .inr (Option.some.inj e)) .inl⟩
    have size1 : el1.size = n + 1 := by rw [← Array.length_toList, front.length_eq, List.length_cons, Array.length_toList, hn]
    have bound1 : el1.size < scanBound := size1 ▸ room
    have ledd : w.params.followText "set-order" = true ∨ t1.led = true := hl.imp id fun z => by rw [led1]; exact z
    have last : ∀ h', Heap.SameBut a s.heap h' → SetG w h' a (fun j => S j || decide (j = k)) el1.size → Q true { s with heap := h' } := fun h' sb r => by
      have q := hQ h' sb
      rw [offS] at q
      rw [size1] at r
      exact q r
    refine wpAny_bind (give _ ?_)
    split
    · refine wpAny_bind ?_
      rw [hashByValue_scannable 8 scn]
      refine wpAny_pure (setG_tail (fun b s₁ Q' q => ?_) ho hx hd good1 nd1 mem1 bound1 ?_ ?_ ?_ fun h' sb r => ?_)
      · cases b
        · exact wpAny_pure q
        · exact wpAny_rule q
      · first | (split <;> first | exact fit1 | exact SetTable.fits_plain_off fit1) | exact fit1
      · first | (split <;> exact ris1) | exact ris1
      · first | (split <;> exact ledd) | exact ledd
      · dsimp only
        exact wpAny_pure (last h' sb r)
    · refine wpAny_bind (wpAny_pure ?_)
      simp only [↓reduceIte]
      refine setG_tail (fun b s₁ Q' q => ?_) ho hx hd good1 nd1 mem1 bound1 fit1 ris1 ledd fun h' sb r => ?_
      · cases b
        · exact wpAny_pure q
        · exact wpAny_rule q
      · dsimp only
        exact wpAny_pure (last h' sb r)
def newSetObj (w : World) : Obj := { cls := .type "set", dict := none, data := .set #[] 0 (.fresh 0 0 (!w.params.followText "set-order")) }
theorem setG_empty {h : Heap} {a : Addr} {T : Key → Bool} (ho : h.get? a = some (newSetObj w)) (e : ∀ k, T k = false) : SetG w h a T 0 := by
  refine ⟨_, #[], 0, _, ho, ⟨rfl, rfl, rfl⟩, rfl, (fun e he => by simp at he), (by simp), (fun k => by rw [e k]; simp), (by decide), (by rfl), rfl, List.Pairwise.nil, ?_⟩
  show _ ∨ (!w.params.followText "set-order") = true
  cases w.params.followText "set-order"
  · exact .inr rfl
  · exact .inl rfl
/-- the loop by which an iterator's items come in -/
theorem setG_loop {I : Addr} {fp wr : List Addr} {G : Array GenState → Array GenState → Prop} {n : Nat} {Pv : Nat → Value → Prop} {St : Nat → Shared → Prop} {R : Result → Shared → Prop} (W : WalksS P w A.in1 I fp wr G n Pv St) (D : Addr) (hD : D ∉ fp)
    (ks : List Key) (hn : n = ks.length) (hb : ks.length + 1 < scanBound) (hval : ∀ i v, Pv i v → ∃ k, ks[i]? = some k ∧ kOf v = some k) :
    ∀ (m i : Nat) (s : Shared), n - i = m → i ≤ n → St i s → (∃ c, c ≤ i ∧ SetG w s.heap D (fun j => hasK (ks.take i) j) c) →
      (∀ s' c, Moved (D :: wr) G s s' → c ≤ n → SetG w s'.heap D (fun j => hasK ks j) c → R (.ok (.ret .none)) s') → codeAny (model P w) A (.builtin "set.update.loop" ⟨[.ref D, .ref I], []⟩) R s := by
  have hDw : D ∉ wr := fun z => hD (W.sub _ z)
  have sub : ∀ b ∈ wr, b ∈ D :: wr := fun _ z => List.mem_cons_of_mem _ z
  intro m
  induction m with
  | zero =>
    intro i s hm hi st ⟨c, hc, hS⟩ hR
    obtain rfl : i = n := by omega
    refine codeAny_builtin F.entry_set_update_loop ?_
    rw [Around.under_plainId F.plain_set_update_loop _]
    show wpAny _ A.in1 (pyNext (.ref I) >>= _) _ _ s
    refine wpAny_bind (W.done s _ _ st fun s2 mv => ?_)
    show wpAny _ A.in1 (ret Value.none) _ _ s2
    rw [List.take_of_length_le (show ks.length ≤ i by omega)] at hS
    exact wpAny_pure (hR s2 c (mv.mono sub) hc (hS.keeps fun ob e => mv.heap D ob hDw e))
  | succ m ih =>
    intro i s hm hi st ⟨c, hc, hS⟩ hR
    have lt : i < n := by omega
    refine codeAny_builtin F.entry_set_update_loop ?_
    rw [Around.under_plainId F.plain_set_update_loop _]
    show wpAny _ A.in1 (pyNext (.ref I) >>= _) _ _ s
    refine wpAny_bind (W.item i s _ _ lt st fun v s2 pv st2 mv => ?_)
    obtain ⟨k, hk, kv⟩ := hval i v pv
    have hS2 : SetG w s2.heap D (fun j => hasK (ks.take i) j) c := hS.keeps fun ob e => mv.heap D ob hDw e
    show wpAny _ A.in1 (holding [v] (setAdd D v) >>= _) _ _ s2
    refine wpAny_bind (wpAny_holding ?_)
    unfold setAdd
    refine wpAny_holding (wpAny_bind ((mixKind P w).pyHash (k := k) (kOf_is.mpr kv) ?_))
    refine setG_add (s := { s2 with toks := s2.toks + 1 }) kv hS2 (by omega) fun h' sb hS3 => ?_
    have hS4 : SetG w h' D (fun j => hasK (ks.take (i + 1)) j) (if hasK (ks.take i) k = true then c else c + 1) := hS3.same fun j => by
      rw [List.take_add_one, hk]
      unfold hasK
      rw [List.any_append]
      congr 1
      show (decide (k = j) || false) = decide (j = k)
      rw [Bool.or_false]
      exact decide_eq_decide.mpr ⟨Eq.symm, Eq.symm⟩
    have hc4 : (if hasK (ks.take i) k = true then c else c + 1) ≤ i + 1 := by split <;> omega
    have other : ∀ b ob, b ≠ D → s2.heap.get? b = some ob → h'.get? b = some ob := fun b ob nb e => (sb.2 b nb).trans e
    refine wpAny_pure ⟨plainId_quiet F.plain_set_update_loop _, ih (i + 1) _ (by omega) lt (W.frame _ s2 _ _ st2 (Nat.le_succ _) fun b hbf ob e => other b ob (fun z => hD (z ▸ hbf)) e) ⟨_, hc4, hS4⟩ fun s3 c3 mv3 hc3 hS5 => ?_⟩
    exact hR s3 c3 (Moved.trans W.gtrans ((mv.mono sub).then_heap (Nat.le_succ _) fun b ob hbn e => other b ob (fun z => hbn (z ▸ List.mem_cons_self)) e) mv3) hc3 hS5
theorem code_new1 (v : Value) {Q₁ : Value → Shared → Prop} (h : Q₁ (.ref s.heap.objs.size) { s with heap := s.heap.push (newSetObj w) }) : codeAny (model P w) A (.call (.builtin "set.__new__") ⟨[.type "set", v], []⟩) (wants Q₁ E) s := code_set_led1 v h
end
end MR

namespace MR
open PySem PySem.Spec PyProof.Rows L2
section
variable {P : Program} {w : World} {A : Around} {E : Value → Shared → Prop} {s : Shared} {a : Addr} {S : Key → Bool} {n : Nat}

set_option maxHeartbeats 3200000 in
theorem call_set_list {l : Addr} {items : Array Value} (ks : List Key) {Q : Value → Shared → Prop} (hh : A.handled = none) (hl : s.heap.IsList l items) (hsz : items.size = ks.length) (hit : ∀ (i : Nat) (v : Value), items[i]? = some v → ∃ k, ks[i]? = some k ∧ kOf v = some k) (hb : ks.length + 1 < scanBound)
    (h : ∀ (h' : Heap) (tk c : Nat), SetG w h' s.heap.objs.size (fun j => hasK ks j) c → c ≤ ks.length → (∀ b o, s.heap.get? b = some o → h'.get? b = some o) → Q (.ref s.heap.objs.size) { s with heap := h', toks := tk }) :
    wpAny (model P w) A (call (.type "set") [.ref l]) Q E s := by
  obtain ⟨c0, tl, hmro⟩ := F.called_set.mro
  have is_made := F.called_set.made
  have is_sub := F.called_set.sub
  refine wpAny_call (codeAny_of_tree (?_ : wpAny _ _ (callAny (.type "set") _) _ _ _))
  refine wpAny_pure ⟨Code.quiet_builtin _ (by decide +kernel), codeAny_builtin F.entry_type_call ?_⟩
  rw [Around.under_plain (weight_type_call_type "set" [.ref l] []) rfl]
  have f1 := F.called_set.notType
  have f2 := F.called_set.canCreate
  have f3 := F.typeCall_set_1 (.ref l)
  repeat (any_goals (first | assumption | wp_step))
  refine codeAny_mono (code_new1 (.ref l) (E := E) (Q₁ := fun ob s₁ => ob = .ref s.heap.objs.size ∧ s₁ = { s with heap := s.heap.push (newSetObj w) }) ⟨rfl, rfl⟩) fun res s₁ hr => ?_
  cases res with
  | error e => exact hr
  | ok fl =>
    cases fl with
    | ret obj =>
      obtain ⟨rfl, rfl⟩ := hr
      have at0 : (s.heap.push (newSetObj w)).get? s.heap.objs.size = some (newSetObj w) := Heap.get?_push_size _ rfl
      have ty0 : Shared.TypeIs { s with heap := s.heap.push (newSetObj w) } (.ref s.heap.objs.size) "set" := ⟨_, at0, rfl⟩
      have li := F.called_set.init.lookup
      have bi := F.called_set.init.bind (.ref s.heap.objs.size)
      repeat (any_goals (first | assumption | wp_step))
      refine codeAny_mono (codeAny_call_builtin (R := wants (fun r s₂ => r = .none ∧ ∃ h' tk c, s₂ = { s with heap := h', toks := tk } ∧ SetG w h' s.heap.objs.size (fun j => hasK ks j) c ∧ c ≤ ks.length ∧
          ∀ b o, s.heap.get? b = some o → h'.get? b = some o) E) F.called_set.init.plain F.entry_set_init (check_set_init_1 ty0 ?_)) fun res₂ s₂ hr₂ => ?_
      · obtain ⟨ol, hol, hcl, nl, hdl⟩ := hl
        obtain ⟨ocls, odict, odata, oslots⟩ := ol
        simp only at hcl hdl
        subst hcl; subst hdl
        have at1 : (s.heap.push (newSetObj w)).get? l = some { cls := .type "list", dict := odict, data := .seq items nl, slots := oslots } := Heap.get?_push_of_some _ hol
        have seq1 : (s.heap.push (newSetObj w)).IsList l items := ⟨_, at1, rfl, nl, rfl⟩
        have n1 := F.sub_list_set
        have n2 := F.sub_list_frozenset
        have n3 : (Value.type "list" == Value.type "dict") = false := by decide
        unfold Builtin.«set.__init__» noKeywords Builtin.Frozenset.updateFrom
        generalize hPI : pyIter = PI
        wp_walk
        subst hPI
        refine wpAny_pyIter_list seq1 ?_
        refine wpAny_bind (wpAny_runValue ?_)
        have hh3 : A.in1.in1.in1.handled = none := by simp [hh]
        have sz1 : (s.heap.push (newSetObj w)).objs.size = s.heap.objs.size + 1 := Heap.size_push ..
        have lS : l < s.heap.objs.size := Heap.lt_size hol
        have apart : l ≠ (s.heap.push (newSetObj w)).objs.size := Nat.ne_of_lt (by rw [sz1]; exact Nat.lt_succ_of_lt lS)
        refine setG_loop ((Walks.list hh3 _ l apart items).toS) s.heap.objs.size (by rw [sz1]; simp only [List.mem_cons, List.not_mem_nil, or_false, not_or]; exact ⟨Nat.ne_of_lt (Nat.lt_succ_self _), Nat.ne_of_gt lS⟩) ks hsz hb hit (items.size - 0) 0 _ (by omega) (Nat.zero_le _) ⟨⟨_, Heap.get?_push_size _ rfl, rfl, rfl⟩, (seq1.push _)⟩ ?hS0 ?hR
        case hS0 => exact ⟨0, Nat.le_refl 0, setG_empty (Heap.get?_push_of_some _ at0) fun k => by unfold hasK; rw [List.take_zero]; rfl⟩
        case hR =>
          intro s3 c3 mv hc3 hS3
          obtain ⟨h3, g3, d3, tk3, os3⟩ := s3
          obtain rfl : g3 = s.gens := mv.gens
          obtain rfl : d3 = s.drawn := mv.drawn
          obtain rfl : os3 = s.os := mv.os
          refine wpAny_pure (?_ : wpAny _ _ (ret Value.none) _ _ _)
          refine wpAny_pure ⟨rfl, h3, tk3, c3, rfl, hS3, (by rw [← hsz]; exact hc3), fun b o e => ?_⟩
          have lt0 : b < s.heap.objs.size := Heap.lt_size e
          refine mv.heap b o (fun z => ?_) (Heap.get?_push_of_some _ (Heap.get?_push_of_some _ e))
          simp only [List.mem_cons, List.not_mem_nil, or_false] at z
          rcases z with z | z
          · exact absurd lt0 (by rw [z]; exact Nat.lt_irrefl _)
          · exact absurd lt0 (by rw [z, sz1]; exact Nat.not_lt_of_le (Nat.le_succ _))
      · cases res₂ with
        | error e => exact hr₂
        | ok fl₂ =>
          cases fl₂ with
          | ret r =>
            obtain ⟨rfl, h3, tk3, c3, rfl, hS3, hc3, hk3⟩ := hr₂
            repeat (any_goals (first | assumption | wp_step))
            exact h _ _ _ hS3 hc3 hk3
          | _ => exact hr₂.elim
    | _ => exact hr.elim
end
end MR

namespace MR
open PySem PySem.Spec PyProof.Rows L2
section
variable {P : Program} {w : World} {A : Around} {E : Value → Shared → Prop} {s : Shared} {a : Addr} {S : Key → Bool} {n : Nat}

set_option maxHeartbeats 3200000 in
theorem call_set_tuple {l : Addr} {items : Array Value} (ks : List Key) {Q : Value → Shared → Prop} (hh : A.handled = none) (hl : s.heap.IsTuple l items) (hsz : items.size = ks.length) (hit : ∀ (i : Nat) (v : Value), items[i]? = some v → ∃ k, ks[i]? = some k ∧ kOf v = some k) (hb : ks.length + 1 < scanBound)
    (h : ∀ (h' : Heap) (tk c : Nat), SetG w h' s.heap.objs.size (fun j => hasK ks j) c → c ≤ ks.length → (∀ b o, s.heap.get? b = some o → h'.get? b = some o) → Q (.ref s.heap.objs.size) { s with heap := h', toks := tk }) :
    wpAny (model P w) A (call (.type "set") [.ref l]) Q E s := by
  obtain ⟨c0, tl, hmro⟩ := F.called_set.mro
  have is_made := F.called_set.made
  have is_sub := F.called_set.sub
  refine wpAny_call (codeAny_of_tree (?_ : wpAny _ _ (callAny (.type "set") _) _ _ _))
  refine wpAny_pure ⟨Code.quiet_builtin _ (by decide +kernel), codeAny_builtin F.entry_type_call ?_⟩
  rw [Around.under_plain (weight_type_call_type "set" [.ref l] []) rfl]
  have f1 := F.called_set.notType
  have f2 := F.called_set.canCreate
  have f3 := F.typeCall_set_1 (.ref l)
  repeat (any_goals (first | assumption | wp_step))
  refine codeAny_mono (code_new1 (.ref l) (E := E) (Q₁ := fun ob s₁ => ob = .ref s.heap.objs.size ∧ s₁ = { s with heap := s.heap.push (newSetObj w) }) ⟨rfl, rfl⟩) fun res s₁ hr => ?_
  cases res with
  | error e => exact hr
  | ok fl =>
    cases fl with
    | ret obj =>
      obtain ⟨rfl, rfl⟩ := hr
      have at0 : (s.heap.push (newSetObj w)).get? s.heap.objs.size = some (newSetObj w) := Heap.get?_push_size _ rfl
      have ty0 : Shared.TypeIs { s with heap := s.heap.push (newSetObj w) } (.ref s.heap.objs.size) "set" := ⟨_, at0, rfl⟩
      have li := F.called_set.init.lookup
      have bi := F.called_set.init.bind (.ref s.heap.objs.size)
      repeat (any_goals (first | assumption | wp_step))
      refine codeAny_mono (codeAny_call_builtin (R := wants (fun r s₂ => r = .none ∧ ∃ h' tk c, s₂ = { s with heap := h', toks := tk } ∧ SetG w h' s.heap.objs.size (fun j => hasK ks j) c ∧ c ≤ ks.length ∧
          ∀ b o, s.heap.get? b = some o → h'.get? b = some o) E) F.called_set.init.plain F.entry_set_init (check_set_init_1 ty0 ?_)) fun res₂ s₂ hr₂ => ?_
      · obtain ⟨ol, hol, hcl, nl, hdl⟩ := hl
        obtain ⟨ocls, odict, odata, oslots⟩ := ol
        simp only at hcl hdl
        subst hcl; subst hdl
        have at1 : (s.heap.push (newSetObj w)).get? l = some { cls := .type "tuple", dict := odict, data := .seq items nl, slots := oslots } := Heap.get?_push_of_some _ hol
        have seq1 : (s.heap.push (newSetObj w)).IsTuple l items := ⟨_, at1, rfl, nl, rfl⟩
        have n1 := F.sub_tuple_set
        have n2 := F.sub_tuple_frozenset
        have n3 : (Value.type "tuple" == Value.type "dict") = false := by decide
        unfold Builtin.«set.__init__» noKeywords Builtin.Frozenset.updateFrom
        generalize hPI : pyIter = PI
        wp_walk
        subst hPI
        refine wpAny_pyIter_tuple seq1 ?_
        refine wpAny_bind (wpAny_runValue ?_)
        have hh3 : A.in1.in1.in1.handled = none := by simp [hh]
        have sz1 : (s.heap.push (newSetObj w)).objs.size = s.heap.objs.size + 1 := Heap.size_push ..
        have lS : l < s.heap.objs.size := Heap.lt_size hol
        have apart : l ≠ (s.heap.push (newSetObj w)).objs.size := Nat.ne_of_lt (by rw [sz1]; exact Nat.lt_succ_of_lt lS)
        refine setG_loop ((Walks.tuple hh3 _ l apart items).toS) s.heap.objs.size (by rw [sz1]; simp only [List.mem_cons, List.not_mem_nil, or_false, not_or]; exact ⟨Nat.ne_of_lt (Nat.lt_succ_self _), Nat.ne_of_gt lS⟩) ks hsz hb hit (items.size - 0) 0 _ (by omega) (Nat.zero_le _) ⟨⟨_, Heap.get?_push_size _ rfl, rfl, rfl⟩, (seq1.push _)⟩ ?hS0 ?hR
        case hS0 => exact ⟨0, Nat.le_refl 0, setG_empty (Heap.get?_push_of_some _ at0) fun k => by unfold hasK; rw [List.take_zero]; rfl⟩
        case hR =>
          intro s3 c3 mv hc3 hS3
          obtain ⟨h3, g3, d3, tk3, os3⟩ := s3
          obtain rfl : g3 = s.gens := mv.gens
          obtain rfl : d3 = s.drawn := mv.drawn
          obtain rfl : os3 = s.os := mv.os
          refine wpAny_pure (?_ : wpAny _ _ (ret Value.none) _ _ _)
          refine wpAny_pure ⟨rfl, h3, tk3, c3, rfl, hS3, (by rw [← hsz]; exact hc3), fun b o e => ?_⟩
          have lt0 : b < s.heap.objs.size := Heap.lt_size e
          refine mv.heap b o (fun z => ?_) (Heap.get?_push_of_some _ (Heap.get?_push_of_some _ e))
          simp only [List.mem_cons, List.not_mem_nil, or_false] at z
          rcases z with z | z
          · exact absurd lt0 (by rw [z]; exact Nat.lt_irrefl _)
          · exact absurd lt0 (by rw [z, sz1]; exact Nat.not_lt_of_le (Nat.le_succ _))
      · cases res₂ with
        | error e => exact hr₂
        | ok fl₂ =>
          cases fl₂ with
          | ret r =>
            obtain ⟨rfl, h3, tk3, c3, rfl, hS3, hc3, hk3⟩ := hr₂
            repeat (any_goals (first | assumption | wp_step))
            exact h _ _ _ hS3 hc3 hk3
          | _ => exact hr₂.elim
    | _ => exact hr.elim
end
end MR

namespace MR
open PySem PySem.Spec PyProof.Rows L2
section
variable {P : Program} {w : World} {A : Around} {E : Value → Shared → Prop} {s : Shared} {a : Addr} {S : Key → Bool} {n : Nat}

set_option maxHeartbeats 3200000 in
theorem call_set_ascii {x : Str} {t : Tok} (ks : List Key) {Q : Value → Shared → Prop} (hh : A.handled = none) (ha : x.cps.all (· < 128) = true) (hks : ks = x.cps.toList.map fun c => Sum.inr ⟨#[c]⟩) (hb : ks.length + 1 < scanBound)
    (h : ∀ (h' : Heap) (tk c : Nat), SetG w h' s.heap.objs.size (fun j => hasK ks j) c → c ≤ ks.length → (∀ b o, s.heap.get? b = some o → h'.get? b = some o) → Q (.ref s.heap.objs.size) { s with heap := h', toks := tk }) :
    wpAny (model P w) A (call (.type "set") [.str x t]) Q E s := by
  obtain ⟨c0, tl, hmro⟩ := F.called_set.mro
  have is_made := F.called_set.made
  have is_sub := F.called_set.sub
  refine wpAny_call (codeAny_of_tree (?_ : wpAny _ _ (callAny (.type "set") _) _ _ _))
  refine wpAny_pure ⟨Code.quiet_builtin _ (by decide +kernel), codeAny_builtin F.entry_type_call ?_⟩
  rw [Around.under_plain (weight_type_call_type "set" [.str x t] []) rfl]
  have f1 := F.called_set.notType
  have f2 := F.called_set.canCreate
  have f3 := F.typeCall_set_1 (.str x t)
  repeat (any_goals (first | assumption | wp_step))
  refine codeAny_mono (code_new1 (.str x t) (E := E) (Q₁ := fun ob s₁ => ob = .ref s.heap.objs.size ∧ s₁ = { s with heap := s.heap.push (newSetObj w) }) ⟨rfl, rfl⟩) fun res s₁ hr => ?_
  cases res with
  | error e => exact hr
  | ok fl =>
    cases fl with
    | ret obj =>
      obtain ⟨rfl, rfl⟩ := hr
      have at0 : (s.heap.push (newSetObj w)).get? s.heap.objs.size = some (newSetObj w) := Heap.get?_push_size _ rfl
      have ty0 : Shared.TypeIs { s with heap := s.heap.push (newSetObj w) } (.ref s.heap.objs.size) "set" := ⟨_, at0, rfl⟩
      have li := F.called_set.init.lookup
      have bi := F.called_set.init.bind (.ref s.heap.objs.size)
      repeat (any_goals (first | assumption | wp_step))
      refine codeAny_mono (codeAny_call_builtin (R := wants (fun r s₂ => r = .none ∧ ∃ h' tk c, s₂ = { s with heap := h', toks := tk } ∧ SetG w h' s.heap.objs.size (fun j => hasK ks j) c ∧ c ≤ ks.length ∧
          ∀ b o, s.heap.get? b = some o → h'.get? b = some o) E) F.called_set.init.plain F.entry_set_init (check_set_init_1 ty0 ?_)) fun res₂ s₂ hr₂ => ?_
      · skip
        have n1 := F.sub_str_set
        have n2 := F.sub_str_frozenset
        have n3 : (Value.type "str" == Value.type "dict") = false := by decide
        unfold Builtin.«set.__init__» noKeywords Builtin.Frozenset.updateFrom
        generalize hPI : pyIter = PI
        wp_walk
        subst hPI
        refine wpAny_pyIter_ascii ha ?_
        refine wpAny_bind (wpAny_runValue ?_)
        have hh3 : A.in1.in1.in1.handled = none := by simp [hh]
        have sz1 : (s.heap.push (newSetObj w)).objs.size = s.heap.objs.size + 1 := Heap.size_push ..

        refine setG_loop ((Walks.strAscii hh3 _ x t).toS) s.heap.objs.size (by rw [sz1]; simp only [List.mem_cons, List.not_mem_nil, or_false]; exact Nat.ne_of_lt (Nat.lt_succ_self _)) ks (by rw [hks, List.length_map, Array.length_toList]) hb (fun i v ⟨c, t2, e1, e2⟩ => ⟨.inr ⟨#[c]⟩, by rw [hks, List.getElem?_map, Array.getElem?_toList, e1]; rfl, by rw [e2]; rfl⟩) (x.cps.size - 0) 0 _ (by omega) (Nat.zero_le _) ⟨_, Heap.get?_push_size _ rfl, rfl, rfl⟩ ?hS0 ?hR
        case hS0 => exact ⟨0, Nat.le_refl 0, setG_empty (Heap.get?_push_of_some _ at0) fun k => by unfold hasK; rw [List.take_zero]; rfl⟩
        case hR =>
          intro s3 c3 mv hc3 hS3
          obtain ⟨h3, g3, d3, tk3, os3⟩ := s3
          obtain rfl : g3 = s.gens := mv.gens
          obtain rfl : d3 = s.drawn := mv.drawn
          obtain rfl : os3 = s.os := mv.os
          refine wpAny_pure (?_ : wpAny _ _ (ret Value.none) _ _ _)
          refine wpAny_pure ⟨rfl, h3, tk3, c3, rfl, hS3, (by rw [hks, List.length_map, Array.length_toList]; exact hc3), fun b o e => ?_⟩
          have lt0 : b < s.heap.objs.size := Heap.lt_size e
          refine mv.heap b o (fun z => ?_) (Heap.get?_push_of_some _ (Heap.get?_push_of_some _ e))
          simp only [List.mem_cons, List.not_mem_nil, or_false] at z
          rcases z with z | z
          · exact absurd lt0 (by rw [z]; exact Nat.lt_irrefl _)
          · exact absurd lt0 (by rw [z, sz1]; exact Nat.not_lt_of_le (Nat.le_succ _))
      · cases res₂ with
        | error e => exact hr₂
        | ok fl₂ =>
          cases fl₂ with
          | ret r =>
            obtain ⟨rfl, h3, tk3, c3, rfl, hS3, hc3, hk3⟩ := hr₂
            repeat (any_goals (first | assumption | wp_step))
            exact h _ _ _ hS3 hc3 hk3
          | _ => exact hr₂.elim
    | _ => exact hr.elim
end
end MR

namespace MR
open PySem PySem.Spec PyProof.Rows L2
section
variable {P : Program} {w : World} {A : Around} {E : Value → Shared → Prop} {s : Shared} {a : Addr} {S : Key → Bool} {n : Nat}

set_option maxHeartbeats 3200000 in
theorem call_set_wide {x : Str} {t : Tok} (ks : List Key) {Q : Value → Shared → Prop} (hh : A.handled = none) (ha : x.cps.all (· < 128) = false) (hks : ks = x.cps.toList.map fun c => Sum.inr ⟨#[c]⟩) (hb : ks.length + 1 < scanBound)
    (h : ∀ (h' : Heap) (tk c : Nat), SetG w h' s.heap.objs.size (fun j => hasK ks j) c → c ≤ ks.length → (∀ b o, s.heap.get? b = some o → h'.get? b = some o) → Q (.ref s.heap.objs.size) { s with heap := h', toks := tk }) :
    wpAny (model P w) A (call (.type "set") [.str x t]) Q E s := by
  obtain ⟨c0, tl, hmro⟩ := F.called_set.mro
  have is_made := F.called_set.made
  have is_sub := F.called_set.sub
  refine wpAny_call (codeAny_of_tree (?_ : wpAny _ _ (callAny (.type "set") _) _ _ _))
  refine wpAny_pure ⟨Code.quiet_builtin _ (by decide +kernel), codeAny_builtin F.entry_type_call ?_⟩
  rw [Around.under_plain (weight_type_call_type "set" [.str x t] []) rfl]
  have f1 := F.called_set.notType
  have f2 := F.called_set.canCreate
  have f3 := F.typeCall_set_1 (.str x t)
  repeat (any_goals (first | assumption | wp_step))
  refine codeAny_mono (code_new1 (.str x t) (E := E) (Q₁ := fun ob s₁ => ob = .ref s.heap.objs.size ∧ s₁ = { s with heap := s.heap.push (newSetObj w) }) ⟨rfl, rfl⟩) fun res s₁ hr => ?_
  cases res with
  | error e => exact hr
  | ok fl =>
    cases fl with
    | ret obj =>
      obtain ⟨rfl, rfl⟩ := hr
      have at0 : (s.heap.push (newSetObj w)).get? s.heap.objs.size = some (newSetObj w) := Heap.get?_push_size _ rfl
      have ty0 : Shared.TypeIs { s with heap := s.heap.push (newSetObj w) } (.ref s.heap.objs.size) "set" := ⟨_, at0, rfl⟩
      have li := F.called_set.init.lookup
      have bi := F.called_set.init.bind (.ref s.heap.objs.size)
      repeat (any_goals (first | assumption | wp_step))
      refine codeAny_mono (codeAny_call_builtin (R := wants (fun r s₂ => r = .none ∧ ∃ h' tk c, s₂ = { s with heap := h', toks := tk } ∧ SetG w h' s.heap.objs.size (fun j => hasK ks j) c ∧ c ≤ ks.length ∧
          ∀ b o, s.heap.get? b = some o → h'.get? b = some o) E) F.called_set.init.plain F.entry_set_init (check_set_init_1 ty0 ?_)) fun res₂ s₂ hr₂ => ?_
      · skip
        have n1 := F.sub_str_set
        have n2 := F.sub_str_frozenset
        have n3 : (Value.type "str" == Value.type "dict") = false := by decide
        unfold Builtin.«set.__init__» noKeywords Builtin.Frozenset.updateFrom
        generalize hPI : pyIter = PI
        wp_walk
        subst hPI
        refine wpAny_pyIter_wide ha ?_
        refine wpAny_bind (wpAny_runValue ?_)
        have hh3 : A.in1.in1.in1.handled = none := by simp [hh]
        have sz1 : (s.heap.push (newSetObj w)).objs.size = s.heap.objs.size + 1 := Heap.size_push ..

        refine setG_loop ((Walks.strWide hh3 _ x t).toS) s.heap.objs.size (by rw [sz1]; simp only [List.mem_cons, List.not_mem_nil, or_false]; exact Nat.ne_of_lt (Nat.lt_succ_self _)) ks (by rw [hks, List.length_map, Array.length_toList]) hb (fun i v ⟨c, t2, e1, e2⟩ => ⟨.inr ⟨#[c]⟩, by rw [hks, List.getElem?_map, Array.getElem?_toList, e1]; rfl, by rw [e2]; rfl⟩) (x.cps.size - 0) 0 _ (by omega) (Nat.zero_le _) ⟨_, Heap.get?_push_size _ rfl, rfl, rfl⟩ ?hS0 ?hR
        case hS0 => exact ⟨0, Nat.le_refl 0, setG_empty (Heap.get?_push_of_some _ at0) fun k => by unfold hasK; rw [List.take_zero]; rfl⟩
        case hR =>
          intro s3 c3 mv hc3 hS3
          obtain ⟨h3, g3, d3, tk3, os3⟩ := s3
          obtain rfl : g3 = s.gens := mv.gens
          obtain rfl : d3 = s.drawn := mv.drawn
          obtain rfl : os3 = s.os := mv.os
          refine wpAny_pure (?_ : wpAny _ _ (ret Value.none) _ _ _)
          refine wpAny_pure ⟨rfl, h3, tk3, c3, rfl, hS3, (by rw [hks, List.length_map, Array.length_toList]; exact hc3), fun b o e => ?_⟩
          have lt0 : b < s.heap.objs.size := Heap.lt_size e
          refine mv.heap b o (fun z => ?_) (Heap.get?_push_of_some _ (Heap.get?_push_of_some _ e))
          simp only [List.mem_cons, List.not_mem_nil, or_false] at z
          rcases z with z | z
          · exact absurd lt0 (by rw [z]; exact Nat.lt_irrefl _)
          · exact absurd lt0 (by rw [z, sz1]; exact Nat.not_lt_of_le (Nat.le_succ _))
      · cases res₂ with
        | error e => exact hr₂
        | ok fl₂ =>
          cases fl₂ with
          | ret r =>
            obtain ⟨rfl, h3, tk3, c3, rfl, hS3, hc3, hk3⟩ := hr₂
            repeat (any_goals (first | assumption | wp_step))
            exact h _ _ _ hS3 hc3 hk3
          | _ => exact hr₂.elim
    | _ => exact hr.elim
end
end MR

namespace MR
open PySem PySem.Spec PyProof.Rows L2
section
variable {P : Program} {w : World} {A : Around} {E : Value → Shared → Prop} {s : Shared} {a : Addr} {S : Key → Bool} {n : Nat}

def txtOf (v : Value) : Str := match v with
  | .str x _ => x
  | _ => Str.empty
/-- the texts of a set, sorted -/
theorem sorted_setG {n : Nat} {Q : Value → Shared → Prop} (R : SetG w s.heap a S n) (hh : A.handled = none) (hu : A.units + 64 < cLine) (hs : ∀ k, S k = true → ∃ x, k = Sum.inr x)
    (hQ : ∀ s' p (out : Array Value) (c : Nat) (xs : List Str), (∀ b o, s.heap.get? b = some o → s'.heap.get? b = some o) → s'.gens = s.gens → s'.os = s.os → s.heap.objs.size ≤ p →
      s'.heap.get? p = some (seqObj "list" out c) → PySem.W.EachIs (fun v x => ∃ t, v = Value.str x t) out.toList xs → (∃ ys : List Str, xs = ys.mergeSort (PySem.W.dataLe false PyData.str) ∧ ys.length ≤ sizeLine ∧ ys.Nodup ∧ (∀ x, x ∈ ys ↔ S (Sum.inr x) = true)) → Q (.ref p) s') :
    wpAny (model P w) A (call (.builtin "sorted") [.ref a]) Q E s := by
  obtain ⟨ob, el, ep, tb, ho, hx, hd, g, nd, hm, hb, hf, hn, hr, hl⟩ := R
  refine Calls.call_function_entry kind_sorted plain_sorted entry_sorted (args_sorted1 _) ?_
  unfold Builtin.«sorted»
  refine wpAny_bind (m := checkCount "sorted" 1 1 _) (wpAny_pure (wpAny_bind (collect_set (A := A.in1) hh ⟨ob, ho, hx.1, hd⟩ hf hb hr hl fun s1 vs k1 hz g1 o1 pm => ?_)))
  have texts : ∀ v ∈ vs, ∃ x t, v = Value.str x t := fun v hv => by
    obtain ⟨e, he, q⟩ := List.mem_map.mp (pm.mem_iff.mp hv)
    obtain ⟨k, hk, _⟩ := g e he
    obtain ⟨x, rfl⟩ := hs k ((hm k).2 (List.mem_map.mpr ⟨e, he, hk⟩))
    rw [q] at hk
    cases v with
    | str y t =>
      cases hk
      exact ⟨_, t, rfl⟩
    | int i t => cases hk
    | _ => cases hk
  have vl : vs.length ≤ sizeLine := by
    rw [pm.length_eq, List.length_map, Array.length_toList]
    exact fits_of_scanBound hb
  have each : PySem.W.EachIs (fun v x => ∃ t, v = Value.str x t) vs (vs.map txtOf) := by
    clear pm hz g1 o1 vl k1
    induction vs with
    | nil => exact .nil
    | cons v l ih =>
      obtain ⟨x, t, rfl⟩ := texts v List.mem_cons_self
      exact .cons ⟨t, rfl⟩ (ih fun u hu => texts u (List.mem_cons_of_mem _ hu))
  refine wpAny_bind (wpAny_newList ?_ vl)
  have at1 : (s1.heap.push (seqObj "list" vs.toArray 0)).get? s1.heap.objs.size = some (seqObj "list" vs.toArray 0) := Heap.get?_push_size _ rfl
  have er : PySem.W.EachIs (fun v x => ∃ as, Reads (s1.heap.push (seqObj "list" vs.toArray 0)) v (PyData.str x) as ∧ s1.heap.objs.size ∉ as) vs (vs.map txtOf) := each.mono fun v x ⟨t, e⟩ => by
    rw [e]
    exact ⟨[], .str x t, List.not_mem_nil⟩
  refine wpAny_bind (wpAny_holding (PySem.W.list_sort_data (A := A.in1) (s := { s1 with heap := s1.heap.push (seqObj "list" vs.toArray 0) }) at1 each er (PySem.W.AllAlike.of fun _ _ => rfl) (PySem.W.Sortable.others fun _ => ⟨fun z => (nomatch z), fun _ z => (nomatch z)⟩)
    (by rw [List.length_map]; exact vl) (fun x _ => by show A.units + 1 + 1 + 0 < cLine; omega) fun out hlen eo => ?_))
  obtain ⟨c, hc⟩ := sortedHeap_at (vs := vs) (out := out.toArray) at1
  refine wpAny_pure ⟨_, rfl, hQ _ s1.heap.objs.size out.toArray c _ (fun b u e => ?_) g1 o1 hz hc (by rw [List.toList_toArray]; exact eo) ⟨_, rfl, by rw [List.length_map]; exact vl, ?_, fun x => ?_⟩⟩
  · have q := k1 b u e
    have lt := Heap.lt_size q
    show (sortedHeap (s1.heap.push (seqObj "list" vs.toArray 0)) s1.heap.objs.size vs out.toArray).get? b = some u
    rw [sortedHeap_old (Nat.ne_of_lt lt) (by rw [size_push']; exact Nat.lt_succ_of_lt lt)]
    exact Heap.get?_push_of_some _ q
  · have nk : (vs.map kOf).Nodup := by
      have q := (pm.map kOf).nodup_iff
      rw [List.map_map] at q
      exact q.mpr nd
    have e : vs.map kOf = (vs.map txtOf).map fun x => some (Sum.inr x : Key) := by
      rw [List.map_map]
      refine List.map_congr_left fun v hv => ?_
      obtain ⟨x, t, rfl⟩ := texts v hv
      rfl
    rw [e] at nk
    exact List.Pairwise.of_map _ (fun a b h z => h (by rw [z])) nk
  · rw [hm, List.mem_map, List.mem_map]
    constructor
    · rintro ⟨v, hv, rfl⟩
      obtain ⟨e, he, q⟩ := List.mem_map.mp (pm.mem_iff.mp hv)
      obtain ⟨y, t, rfl⟩ := texts v hv
      exact ⟨e, he, by rw [q]; rfl⟩
    · rintro ⟨e, he, q⟩
      have hv : e.2 ∈ vs := pm.mem_iff.mpr (List.mem_map.mpr ⟨e, he, rfl⟩)
      obtain ⟨y, t, ey⟩ := texts _ hv
      refine ⟨e.2, hv, ?_⟩
      rw [ey] at q ⊢
      cases q
      rfl
end
end MR

/-! The data layer: what a program does with values that read as data, without addresses. -/
namespace MR
open PySem PySem.Spec PyProof.Rows L2

/-- a key as data -/
def keyD : Key → PyData
  | .inl i => .int i
  | .inr x => .str x
/-- of at most n bits -/
def Bd (n : Nat) (i : Int) : Prop := ∃ b : Nat, 0 < b ∧ b ≤ n ∧ i.natAbs < 2 ^ b
abbrev WI (i : Int) : Prop := 0 ≤ i ∧ Bd 2000000 i
abbrev WJ (j : Int) : Prop := 0 ≤ j ∧ j < 4294967296
/-- the well of drawn numbers, as an object: nothing is told of it than that two numbers in bounds stand in it -/
def WellGO (a : Addr) : HO := .ext fun h => ∃ (i j : Int) (its : List Value) (n : Nat), WI i ∧ WJ j ∧ Vals [.int i, .int j] its ∧ h.get? a = some { cls := .type "list", data := .seq its.toArray n }
/-- what may change behind a promise: nothing that is told of (kept as a word, the layer's texts speak of it) -/
def Well (o : HO) : Prop := ∃ i j : Int, o = .lst [.int i, .int j] ∧ 0 ≤ i ∧ Bd 2000000 i ∧ 0 ≤ j ∧ j < 4294967296 ∧ False
/-- no list of two whole numbers: no well -/
def noP (xs : List V) : Prop := True
def nP (ds : List PyData) : Bool := true
structure LstAt (H : Hp) (a : Addr) (xs : List V) : Prop where
  at_ : H a = some (.lst xs)
  np : noP xs

mutual
/-- the value v reads as the data d -/
def Rp (K : PySem.W.Frag) (H : Hp) : PyData → V → Prop
  | .none, v => v = .non
  | .bool b, v => v = .bl b
  | .int i, v => v = .int i
  | .str x, v => v = .str x
  | .list ds, v => ∃ a xs, v = .ref a ∧ LstAt H a xs ∧ RpA K H ds xs
  | .tuple ds, v => ∃ a xs, v = .ref a ∧ SqT K H a xs ∧ RpA K H ds xs
  | .dict kvs, v => ∃ a es, v = .ref a ∧ H a = some (.dK es) ∧ ¬ Well (.dK es) ∧ RpK K H kvs es
def RpA (K : PySem.W.Frag) (H : Hp) : List PyData → List V → Prop
  | [], vs => vs = []
  | d :: ds, vs => ∃ v r, vs = v :: r ∧ Rp K H d v ∧ RpA K H ds r
def RpK (K : PySem.W.Frag) (H : Hp) : List (PyData × PyData) → List (Key × V) → Prop
  | [], es => es = []
  | (k, d) :: r, es => ∃ k' v q, es = (k', v) :: q ∧ k = keyD k' ∧ Rp K H d v ∧ RpK K H r q
end

/-! ### what may change: the wells alone -/
def Ext (H H' : Hp) : Prop := ∀ a o, H a = some o → H' a = some o ∨ (Well o ∧ ∃ o', H' a = some o' ∧ Well o')
def hide (P : Addr → Bool) (H : Hp) : Hp := fun a => if P a = true then none else H a
theorem Ext.refl (H : Hp) : Ext H H := fun _ _ h => .inl h
theorem Ext.trans {H H1 H2 : Hp} (x : Ext H H1) (y : Ext H1 H2) : Ext H H2 := fun a o h => by
  rcases x a o h with h1 | ⟨w, o1, h1, w1⟩
  · exact y a o h1
  · rcases y a o1 h1 with h2 | ⟨_, o2, h2, w2⟩
    · exact .inr ⟨w, o1, h2, w1⟩
    · exact .inr ⟨w, o2, h2, w2⟩
theorem Ext.same {H H' : Hp} (x : Same H H') : Ext H H' := fun a o h => .inl (x a o h)
theorem Ext.new {H : Hp} {p : Addr} {o : HO} (h : H p = none) : Ext H (upd H p o) := fun a u e => .inl (by
  rw [upd_ne (ne_of_none e h)]
  exact e)
theorem Ext.none {H H' : Hp} {p : Addr} (x : Ext H H') (h : H' p = Option.none) : H p = Option.none := by
  cases q : H p with
  | none => rfl
  | some o =>
    rcases x p o q with z | ⟨_, _, z, _⟩ <;> (rw [z] at h; cases h)
theorem Ext.some {H H' : Hp} {p : Addr} (x : Ext H H') (h : H p ≠ Option.none) : H' p ≠ Option.none := fun z => h (x.none z)
theorem Ext.hide {H H' : Hp} (P : Addr → Bool) (x : Ext H H') : Ext (hide P H) (hide P H') := fun a o h => by
  unfold MR.hide at h ⊢
  split at h
  · cases h
  · rename_i n
    rw [if_neg n]
    exact x a o h
theorem hide_ext (P : Addr → Bool) (H : Hp) : Ext (hide P H) H := fun a o h => by
  unfold hide at h
  split at h
  · cases h
  · exact .inl h
theorem hide_less {P P' : Addr → Bool} (H : Hp) (h : ∀ a, P a = true → P' a = true) : Ext (hide P' H) (hide P H) := fun a o e => by
  unfold hide at e ⊢
  split at e
  · cases e
  · rename_i n
    rw [if_neg (fun z => n (h a z))]
    exact .inl e
theorem hide_at {P : Addr → Bool} {H : Hp} {a : Addr} (h : P a = false) : hide P H a = H a := by
  unfold hide
  rw [h, if_neg Bool.false_ne_true]
/-- what is private stands there; the table of modules is private to all -/
def Dom (P : Addr → Bool) (H : Hp) : Prop := P sysModules = true ∧ ∀ a, P a = true → H a ≠ none
theorem hide_off (H : Hp) : hide (fun _ => false) H = H := funext fun a => hide_at rfl
theorem Ext.lst {H H' : Hp} {a : Addr} {xs : List V} (x : Ext H H') (h : LstAt H a xs) : LstAt H' a xs := by
  refine ⟨?_, h.np⟩
  rcases x a _ h.at_ with z | ⟨⟨i, j, z, _, _, _, _, f⟩, _⟩
  · exact z
  · cases z
    exact f.elim
theorem hide_some {P : Addr → Bool} {H : Hp} {a : Addr} {o : HO} (h : hide P H a = some o) : H a = some o := by
  unfold hide at h
  split at h
  · cases h
  · exact h
/-- the script's list: frozen or written -/
def SqF (K : PySem.W.Frag) (H : Hp) (a : Addr) (xs : List V) : Prop := SqL K H a xs ∧ ((∃ o, H a = some (.frz o (.lst xs))) ∨ ∀ H' : Hp, SqL K H' a xs)
theorem Ext.seqL {K : PySem.W.Frag} {H H' : Hp} {a : Addr} {xs : List V} (x : Ext H H') (h : SqF K H a xs) : SqF K H' a xs := by
  rcases h with ⟨_, ⟨o, h⟩ | h⟩
  · rcases x a _ h with z | ⟨⟨_, _, z, _⟩, _⟩
    · exact ⟨.inl (.inr ⟨o, z⟩), .inl ⟨o, z⟩⟩
    · cases z
  · exact ⟨h H', .inr h⟩
theorem Ext.seqT {K : PySem.W.Frag} {H H' : Hp} {a : Addr} {xs : List V} (x : Ext H H') (h : SqT K H a xs) : SqT K H' a xs := by
  rcases h with (h | ⟨o, h⟩) | h
  · rcases x a _ h with z | ⟨⟨_, _, z, _⟩, _⟩
    · exact .inl (.inl z)
    · cases z
  · rcases x a _ h with z | ⟨⟨_, _, z, _⟩, _⟩
    · exact .inl (.inr ⟨o, z⟩)
    · cases z
  · exact .inr h
mutual
theorem Rp.ext {K : PySem.W.Frag} {H H' : Hp} (x : Ext H H') : ∀ {d : PyData} {v : V}, Rp K H d v → Rp K H' d v
  | .none, _, h => h
  | .bool _, _, h => h
  | .int _, _, h => h
  | .str _, _, h => h
  | .list _, _, ⟨a, xs, e, q, r⟩ => ⟨a, xs, e, x.lst q, RpA.ext x r⟩
  | .tuple _, _, ⟨a, xs, e, q, r⟩ => ⟨a, xs, e, x.seqT q, RpA.ext x r⟩
  | .dict _, _, ⟨a, es, e, q, n, r⟩ => ⟨a, es, e, (x a _ q).resolve_right fun z => n z.1, n, RpK.ext x r⟩
theorem RpA.ext {K : PySem.W.Frag} {H H' : Hp} (x : Ext H H') : ∀ {ds : List PyData} {vs : List V}, RpA K H ds vs → RpA K H' ds vs
  | [], _, h => h
  | _ :: _, _, ⟨v, r, e, h, t⟩ => ⟨v, r, e, Rp.ext x h, RpA.ext x t⟩
theorem RpK.ext {K : PySem.W.Frag} {H H' : Hp} (x : Ext H H') : ∀ {ds : List (PyData × PyData)} {vs : List (Key × V)}, RpK K H ds vs → RpK K H' ds vs
  | [], _, h => h
  | (_, _) :: _, _, ⟨k, v, q, e, ek, h, t⟩ => ⟨k, v, q, e, ek, Rp.ext x h, RpK.ext x t⟩
end
theorem RpA.len {K : PySem.W.Frag} {H : Hp} : ∀ {ds : List PyData} {vs : List V}, RpA K H ds vs → ds.length = vs.length
  | [], vs, h => by rw [show vs = [] from h]; rfl
  | _ :: _, _, ⟨v, r, e, _, t⟩ => by rw [e, List.length_cons, List.length_cons, RpA.len t]
theorem RpA.app {K : PySem.W.Frag} {H : Hp} : ∀ {ds es : List PyData} {vs us : List V}, RpA K H ds vs → RpA K H es us → RpA K H (ds ++ es) (vs ++ us)
  | [], _, vs, _, h, q => by rw [show vs = [] from h]; exact q
  | _ :: _, _, _, _, ⟨v, r, e, h, t⟩, q => ⟨v, _, by rw [e]; rfl, h, RpA.app t q⟩
theorem RpA.get {K : PySem.W.Frag} {H : Hp} : ∀ {ds : List PyData} {vs : List V} {i : Nat} {d : PyData}, RpA K H ds vs → ds[i]? = some d → ∃ v, vs[i]? = some v ∧ Rp K H d v
  | [], _, _, _, _, e => by cases e
  | _ :: _, _, 0, _, ⟨v, r, q, h, t⟩, e => by
    cases e
    exact ⟨v, by rw [q]; rfl, h⟩
  | _ :: _, _, i + 1, _, ⟨v, r, q, h, t⟩, e => by
    obtain ⟨u, e1, e2⟩ := RpA.get (i := i) t e
    exact ⟨u, by rw [q]; exact e1, e2⟩
theorem RpA.back {K : PySem.W.Frag} {H : Hp} {ds : List PyData} {vs : List V} {i : Nat} {v : V} (h : RpA K H ds vs) (e : vs[i]? = some v) : ∃ d, ds[i]? = some d ∧ Rp K H d v := by
  have hi : i < ds.length := by
    rw [h.len]
    exact (List.getElem?_eq_some_iff.mp e).1
  obtain ⟨u, e1, e2⟩ := h.get (List.getElem?_eq_getElem hi)
  rw [e] at e1
  cases e1
  exact ⟨_, List.getElem?_eq_getElem hi, e2⟩
theorem RpA.take {K : PySem.W.Frag} {H : Hp} : ∀ {ds : List PyData} {vs : List V} (n : Nat), RpA K H ds vs → RpA K H (ds.take n) (vs.take n)
  | _, _, 0, _ => rfl
  | [], vs, n + 1, h => by rw [show vs = [] from h]; rfl
  | _ :: _, _, n + 1, ⟨v, r, e, h, t⟩ => ⟨v, r.take n, by rw [e]; rfl, h, RpA.take n t⟩
theorem RpA.drop {K : PySem.W.Frag} {H : Hp} : ∀ {ds : List PyData} {vs : List V} (n : Nat), RpA K H ds vs → RpA K H (ds.drop n) (vs.drop n)
  | _, _, 0, h => h
  | [], vs, n + 1, h => by rw [show vs = [] from h]; rfl
  | _ :: _, _, n + 1, ⟨v, r, e, h, t⟩ => by rw [e]; exact RpA.drop n t

theorem noP_of {K : PySem.W.Frag} {H : Hp} {ds : List PyData} {xs : List V} (r : RpA K H ds xs) (h : nP ds = true) : noP xs := trivial
/-! ### slots -/
/-- what a slot alone holds but lists: a house (its class, its object, its dict), a dict with text keys -/
inductive OD where
  | hs (C a d : Addr) (es : List (Str × PyData)) | dc (d : Addr) (es : List (Str × PyData))
def OD.as : OD → List Addr
  | .hs _ a d _ => [a, d]
  | .dc d _ => [d]
def OD.at_ : OD → Addr
  | .hs _ a _ _ => a
  | .dc d _ => d
/-- data, or what is no data: the well, a set of keys (by its members), a value by itself -/
inductive DV where
  | p (d : PyData) | well | set (ks : List Key) | scr (ns : List Int) | raw (v : V) | hs (C : Addr) (es : List (Str × PyData)) | hd (es : List (Str × PyData)) | rt (o : OD) (z : Option PyData)
/-- entries: text keys with data -/
abbrev Ents := List (Str × PyData)
def RpE (K : PySem.W.Frag) (H : Hp) : Ents → List (Key × V) → Prop
  | [], kvs => kvs = []
  | (n, d) :: es, kvs => ∃ v q, kvs = (.inr n, v) :: q ∧ Rp K H d v ∧ RpE K H es q
theorem RpE.ext {K : PySem.W.Frag} {H H' : Hp} (x : Ext H H') : ∀ {es : Ents} {kvs : List (Key × V)}, RpE K H es kvs → RpE K H' es kvs
  | [], _, h => h
  | (_, _) :: _, _, ⟨v, q, e, h, t⟩ => ⟨v, q, e, Rp.ext x h, RpE.ext x t⟩
/-- the written part, the program, the world -/
structure Ky where
  K : PySem.W.Frag
  P : Program
  w : World
def Cx.ky (X : Cx) : Ky := ⟨X.K, X.prog, X.w⟩
/-- a set of keys, as an object -/
def SetGO (w : World) (a : Addr) (S : Key → Bool) (n : Nat) : HO := .ext fun h => SetG w h a S n
def OdRd (κ : Ky) (Hh H : Hp) : OD → Prop
  | .hs C a d es => ∃ dx vm kvs, H a = some (.ins C dx [("_entries", .ref d), ("memory", vm)]) ∧ H d = some (.dK kvs) ∧ RpE κ.K Hh es kvs
  | .dc d es => ∃ kvs, H d = some (.dK kvs) ∧ RpE κ.K Hh es kvs
def mem (as : List Addr) : Addr → Bool := fun b => decide (b ∈ as)
def Rv (κ : Ky) (H : Hp) : DV → V → Prop
  | .p d, v => Rp κ.K H d v
  | .well, v => ∃ a, v = .ref a ∧ H a = some (WellGO a)
  | .set ks, v => ∃ a n, v = .ref a ∧ H a = some (SetGO κ.w a (hasK ks) n)
  | .scr ns, v => ∃ a, v = .ref a ∧ SqF κ.K H a (ns.map V.int)
  | .raw u, v => v = u
  | .hs C es, v => ∃ a d dx vm od kvs, v = .ref a ∧ H a = some (.ins C dx [("_entries", .ref d), ("memory", vm)]) ∧ H d = some (.frz od (.dK kvs)) ∧ RpE κ.K H es kvs
  | .hd es, v => ∃ d od kvs, v = .ref d ∧ H d = some (.frz od (.dK kvs)) ∧ RpE κ.K H es kvs
  | .rt o z, v => OdRd κ (hide (mem o.as) H) H o ∧ (match z with | some z => Rp κ.K (hide (mem o.as) H) z v | none => v = .ref o.at_)
def odK : HO → Prop
  | .ins _ _ _ => True
  | .dK _ => True
  | _ => False
theorem OdRd.mono {κ : Ky} {Hh Hh' H H' : Hp} {o : OD} (r : OdRd κ Hh H o) (hk : ∀ b u, b ∈ o.as → H b = some u → odK u → H' b = some u) (x : Ext Hh Hh') : OdRd κ Hh' H' o := by
  cases o with
  | hs C a d es =>
    obtain ⟨dx, vm, kvs, h1, h2, r⟩ := r
    exact ⟨dx, vm, kvs, hk a _ List.mem_cons_self h1 trivial, hk d _ (List.mem_cons_of_mem _ List.mem_cons_self) h2 trivial, r.ext x⟩
  | dc d es =>
    obtain ⟨kvs, h2, r⟩ := r
    exact ⟨kvs, hk d _ List.mem_cons_self h2 trivial, r.ext x⟩
theorem OdRd.kinds {κ : Ky} {Hh H : Hp} {o : OD} (r : OdRd κ Hh H o) {b : Addr} (m : b ∈ o.as) : ∃ u, H b = some u ∧ odK u := by
  cases o with
  | hs C a d es =>
    obtain ⟨dx, vm, kvs, h1, h2, r⟩ := r
    rcases List.mem_cons.mp m with z | z
    · rw [z]; exact ⟨_, h1, trivial⟩
    · rw [List.mem_singleton.mp z]; exact ⟨_, h2, trivial⟩
  | dc d es =>
    obtain ⟨kvs, h2, r⟩ := r
    rw [List.mem_singleton.mp m]
    exact ⟨_, h2, trivial⟩
theorem Ext.keep {H H' : Hp} {a : Addr} {o : HO} (x : Ext H H') (h : H a = Option.some o) (n : ¬ Well o) : H' a = Option.some o := (x a o h).resolve_right fun z => n z.1
theorem Rv.ext {κ : Ky} {H H' : Hp} (x : Ext H H') : ∀ {d : DV} {v : V}, Rv κ H d v → Rv κ H' d v
  | .p _, _, h => Rp.ext x h
  | .well, _, ⟨a, e, h⟩ => ⟨a, e, (x a _ h).resolve_right fun ⟨⟨_, _, z, _⟩, _⟩ => by cases z⟩
  | .set _, _, ⟨a, n, e, h⟩ => ⟨a, n, e, (x a _ h).resolve_right fun ⟨⟨_, _, z, _⟩, _⟩ => by cases z⟩
  | .scr _, _, ⟨a, e, h⟩ => ⟨a, e, x.seqL h⟩
  | .raw _, _, h => h
  | .hs _ _, _, ⟨a, d, dx, vm, od, kvs, e, h1, h2, r⟩ => ⟨a, d, dx, vm, od, kvs, e, x.keep h1 (fun ⟨_, _, z, _⟩ => by cases z), x.keep h2 (fun ⟨_, _, z, _⟩ => by cases z), r.ext x⟩
  | .hd _, _, ⟨d, od, kvs, e, h2, r⟩ => ⟨d, od, kvs, e, x.keep h2 (fun ⟨_, _, z, _⟩ => by cases z), r.ext x⟩
  | .rt o z, _, ⟨r, q⟩ => ⟨r.mono (fun b u _ h k => x.keep h fun ⟨_, _, z, _⟩ => by rw [z] at k; exact k) (x.hide _), by
    cases z with
    | none => exact q
    | some z => exact Rp.ext (x.hide _) q⟩
/-- a slot: nothing, data, a list that this slot alone holds -/
inductive Sl where
  | un | v (d : DV) | own (ds : List PyData) | od (o : OD)
abbrev Dn := List Sl
abbrev Sg := L2.St
def oor (P L : Addr → Bool) : Addr → Bool := fun a => P a || L a
/-- what stays as it is through a def: its heap at the entry, what is private to the callers, what else is to be kept (as what, where) -/
structure Sc where
  H0 : Hp
  P : Addr → Bool
  bs : List DV
  us : List V
  M : Addr → Bool := fun _ => false
/-- what may change where M says so: anything but to nothing -/
def ExtM (M : Addr → Bool) (H H' : Hp) : Prop := ∀ a o, H a = some o → (M a = false ∧ (H' a = some o ∨ (Well o ∧ ∃ o', H' a = some o' ∧ Well o'))) ∨ (M a = true ∧ H' a ≠ none)
theorem ExtM.none {M : Addr → Bool} {H H' : Hp} {p : Addr} (x : ExtM M H H') (h : H' p = Option.none) : H p = Option.none := by
  cases q : H p with
  | none => rfl
  | some o =>
    rcases x p o q with ⟨_, z | ⟨_, _, z, _⟩⟩ | ⟨_, z⟩
    · rw [z] at h; cases h
    · rw [z] at h; cases h
    · exact absurd h z
theorem ExtM.some {M : Addr → Bool} {H H' : Hp} {p : Addr} (x : ExtM M H H') (h : H p ≠ Option.none) : H' p ≠ Option.none := fun z => h (x.none z)
theorem ExtM.trans {M : Addr → Bool} {H H1 H2 : Hp} (x : ExtM M H H1) (y : Ext H1 H2) : ExtM M H H2 := fun a o h => by
  rcases x a o h with ⟨m, z⟩ | ⟨m, z⟩
  · refine .inl ⟨m, ?_⟩
    rcases z with z | ⟨w, o', z, w'⟩
    · exact y a o z
    · rcases y a o' z with k | ⟨_, o2, k, w2⟩
      · exact .inr ⟨w, o', k, w'⟩
      · exact .inr ⟨w, o2, k, w2⟩
  · exact .inr ⟨m, y.some z⟩
theorem ExtM.refl (M : Addr → Bool) (H : Hp) : ExtM M H H := fun a o h => by
  cases m : M a with
  | false => exact .inl ⟨rfl, .inl h⟩
  | true => exact .inr ⟨rfl, by rw [h]; exact Option.some_ne_none _⟩
theorem ExtM.ext {M : Addr → Bool} {H H' : Hp} (x : ExtM M H H') (h : ∀ a, M a = false) : Ext H H' := fun a o e => by
  rcases x a o e with ⟨_, z⟩ | ⟨m, _⟩
  · exact z
  · rw [h a] at m; cases m
def RvA (κ : Ky) (H : Hp) : List DV → List V → Prop
  | [], vs => vs = []
  | d :: ds, vs => ∃ v r, vs = v :: r ∧ Rv κ H d v ∧ RvA κ H ds r
theorem RvA.ext {κ : Ky} {H H' : Hp} (x : Ext H H') : ∀ {ds : List DV} {vs : List V}, RvA κ H ds vs → RvA κ H' ds vs
  | [], _, h => h
  | _ :: _, _, ⟨v, r, e, h, t⟩ => ⟨v, r, e, h.ext x, RvA.ext x t⟩
theorem RvA.len {κ : Ky} {H : Hp} : ∀ {ds : List DV} {vs : List V}, RvA κ H ds vs → ds.length = vs.length
  | [], vs, h => by rw [show vs = [] from h]; rfl
  | _ :: _, _, ⟨v, r, e, _, t⟩ => by rw [e, List.length_cons, List.length_cons, RvA.len t]
theorem RvA.app {κ : Ky} {H : Hp} : ∀ {ds es : List DV} {vs us : List V}, RvA κ H ds vs → RvA κ H es us → RvA κ H (ds ++ es) (vs ++ us)
  | [], _, vs, _, h, q => by rw [show vs = [] from h]; exact q
  | _ :: _, _, _, _, ⟨v, r, e, h, t⟩, q => ⟨v, _, by rw [e]; rfl, h, RvA.app t q⟩
theorem RvA.split {κ : Ky} {H : Hp} : ∀ {ds es : List DV} {vs us : List V}, ds.length = vs.length → RvA κ H (ds ++ es) (vs ++ us) → RvA κ H ds vs ∧ RvA κ H es us
  | [], _, [], _, _, q => ⟨rfl, q⟩
  | [], _, _ :: _, _, h, _ => by cases h
  | _ :: _, _, [], _, h, _ => by cases h
  | d :: ds, es, v :: vs, us, h, ⟨v', r, e, q, t⟩ => by
    have e' : v :: (vs ++ us) = v' :: r := e
    cases e'
    obtain ⟨h1, h2⟩ := RvA.split (Nat.succ.inj h) t
    exact ⟨⟨v, vs, rfl, q, h1⟩, h2⟩
/-- the owned houses and dicts of the slots -/
structure OdAt (κ : Ky) (Hh H : Hp) (L : Addr → Bool) (δ : Dn) (σ : Sg) : Prop where
  rd : ∀ (i : Nat) o, δ[i]? = some (Sl.od o) → σ[i]? = some (some (V.ref o.at_)) ∧ OdRd κ Hh H o ∧ ∀ b ∈ o.as, L b = true
  dj : ∀ (i j : Nat) o o', i ≠ j → δ[i]? = some (Sl.od o) → δ[j]? = some (Sl.od o') → ∀ b ∈ o.as, b ∉ o'.as
theorem OdAt.mono {κ : Ky} {Hh Hh' H H' : Hp} {L L' : Addr → Bool} {δ δ' : Dn} {σ σ' : Sg} (h : OdAt κ Hh H L δ σ) (hd : ∀ (i : Nat) o, δ'[i]? = some (Sl.od o) → δ[i]? = some (Sl.od o) ∧ σ'[i]? = σ[i]?)
    (hk : ∀ b u, L b = true → H b = some u → odK u → L' b = true ∧ H' b = some u) (x : Ext Hh Hh') : OdAt κ Hh' H' L' δ' σ' := by
  refine ⟨fun i o e => ?_, fun i j o o' n e1 e2 => h.dj i j o o' n (hd i o e1).1 (hd j o' e2).1⟩
  obtain ⟨e1, e2⟩ := hd i o e
  obtain ⟨q1, q2, q3⟩ := h.rd i o e1
  refine ⟨by rw [e2]; exact q1, q2.mono (fun b u m hb k => (hk b u (q3 b m) hb k).2) x, fun b m => ?_⟩
  obtain ⟨u, hu, k⟩ := q2.kinds m
  exact (hk b u (q3 b m) hu k).1
/-- the slots σ read as δ; L: the lists that single slots hold -/
structure ES (κ : Ky) (c : Sc) (H : Hp) (L : Addr → Bool) (δ : Dn) (σ : Sg) : Prop where
  len : δ.length = σ.length
  val : ∀ (i : Nat) (d : DV), δ[i]? = some (Sl.v d) → ∃ v, σ[i]? = some (some v) ∧ Rv κ (hide (oor c.P L) H) d v
  own : ∀ (i : Nat) (ds : List PyData), δ[i]? = some (Sl.own ds) → ∃ a xs, σ[i]? = some (some (V.ref a)) ∧ L a = true ∧ LstAt H a xs ∧ RpA κ.K (hide (oor c.P L) H) ds xs
  sep : ∀ (i j : Nat) (ds es : List PyData) (a : Addr), i ≠ j → δ[i]? = some (Sl.own ds) → δ[j]? = some (Sl.own es) → σ[i]? = some (some (V.ref a)) → σ[j]? ≠ some (some (V.ref a))
  psys : c.P sysModules = true
  pdom : ∀ a, c.P a = true → c.H0 a ≠ none
  ldom : ∀ a, L a = true → H a ≠ none ∧ (c.H0 a = none ∨ c.M a = true)
  ext : ExtM c.M c.H0 H
  kept : RvA κ (hide (oor c.P L) H) c.bs c.us
  ods : OdAt κ (hide (oor c.P L) H) H L δ σ
  mp : ∀ a, c.M a = true → c.P a = false
section
variable {κ : Ky} {c : Sc} {H H' : Hp} {L : Addr → Bool} {δ : Dn} {σ : Sg}
theorem ES.on (s : ES κ c H L δ σ) (x : Ext H H') : ES κ c H' L δ σ where
  len := s.len
  val := fun i d e => by
    obtain ⟨v, h1, h2⟩ := s.val i d e
    exact ⟨v, h1, h2.ext (x.hide _)⟩
  own := fun i ds e => by
    obtain ⟨a, xs, h1, h2, h3, h4⟩ := s.own i ds e
    exact ⟨a, xs, h1, h2, x.lst h3, h4.ext (x.hide _)⟩
  sep := s.sep
  psys := s.psys
  pdom := s.pdom
  ldom := fun a h => ⟨x.some (s.ldom a h).1, (s.ldom a h).2⟩
  ext := s.ext.trans x
  kept := s.kept.ext (x.hide _)
  ods := s.ods.mono (fun _ _ e => ⟨e, rfl⟩) (fun b u l h k => ⟨l, x.keep h fun ⟨_, _, z, _⟩ => by rw [z] at k; exact k⟩) (x.hide _)
  mp := s.mp
theorem ES.dom (s : ES κ c H L δ σ) : Dom (oor c.P L) H := by
  refine ⟨by unfold oor; rw [s.psys]; rfl, fun a h => ?_⟩
  unfold oor at h
  rcases (Bool.or_eq_true _ _).mp h with z | z
  · exact s.ext.some (s.pdom a z)
  · exact (s.ldom a z).1
end
theorem hide_new {P : Addr → Bool} {H : Hp} {p : Addr} {o : HO} (d : Dom P H) (h : H p = none) : hide P (upd H p o) p = some o := by
  have z : P p = false := by
    cases q : P p with
    | false => rfl
    | true => exact absurd h (d.2 p q)
  rw [hide_at z, upd_same]

/-! ### judgements -/
abbrev TD := Dn → (DV → Prop) → Prop
abbrev TB := Dn → (Bool → Prop) → Prop
abbrev TL := Dn → (List DV → Prop) → Prop
def up (κ : Ky) (t : TD) : TE := fun σ H Q => ∃ δ R c L, ES κ c H L δ σ ∧ t δ R ∧ ∀ v H' d, Ext H H' → Rv κ (hide (oor c.P L) H') d v → R d → Q v H'
def upT (κ : Ky) (t : TB) : TT := fun σ H Q => ∃ δ R c L, ES κ c H L δ σ ∧ t δ R ∧ ∀ b H', Ext H H' → R b → Q b H'
def upA (κ : Ky) (t : TL) : TA := fun σ H Q => ∃ δ R c L, ES κ c H L δ σ ∧ t δ R ∧ ∀ vs H' ds, Ext H H' → RvA κ (hide (oor c.P L) H') ds vs → R ds → Q vs H'
abbrev F2 := DV → DV → (DV → Prop) → Prop
abbrev F1 := DV → (DV → Prop) → Prop
abbrev FL := List DV → (DV → Prop) → Prop
/-- what an operation on values asks, by data -/
def upO (κ : Ky) (f : F2) : R2 := fun x y H Q => ∃ d e R P, Dom P H ∧ Rv κ (hide P H) d x ∧ Rv κ (hide P H) e y ∧ f d e R ∧ ∀ v H' r, Ext H H' → Rv κ (hide P H') r v → R r → Q v H'
def upU (κ : Ky) (f : F1) : V → Hp → VK → Prop := fun x H Q => ∃ d R P, Dom P H ∧ Rv κ (hide P H) d x ∧ f d R ∧ ∀ v H' r, Ext H H' → Rv κ (hide P H') r v → R r → Q v H'
def upC (κ : Ky) (f : FL) : List V → Hp → VK → Prop := fun xs H Q => ∃ ds R P, Dom P H ∧ RvA κ (hide P H) ds xs ∧ f ds R ∧ ∀ v H' r, Ext H H' → Rv κ (hide P H') r v → R r → Q v H'
def upM (κ : Ky) (f : DV → FL) : V → List V → Hp → VK → Prop := fun x xs H Q => ∃ d ds R P, Dom P H ∧ Rv κ (hide P H) d x ∧ RvA κ (hide P H) ds xs ∧ f d ds R ∧ ∀ v H' r, Ext H H' → Rv κ (hide P H') r v → R r → Q v H'
section
variable {X : Cx} {e : Expr} {t t' : TE}
theorem PE.imp (h : PE X e t') (q : ∀ σ H Q, t σ H Q → t' σ H Q) : PE X e t := ⟨fun pins s σ H Q I z => h.run pins s σ H Q I (q σ H Q z)⟩
theorem PT.imp {t t' : TT} (h : PT X e t') (q : ∀ σ H Q, t σ H Q → t' σ H Q) : PT X e t := ⟨fun pins s σ H Q I z => h.run pins s σ H Q I (q σ H Q z)⟩
theorem PW.imp {t t' : TT} (h : PW X e t') (q : ∀ σ H Q, t σ H Q → t' σ H Q) : PW X e t := ⟨fun wh pins s σ H Q I z => h.run wh pins s σ H Q I (q σ H Q z)⟩
theorem PA.imp {es : List Expr} {t t' : TA} (h : PA X es t') (q : ∀ σ H Q, t σ H Q → t' σ H Q) : PA X es t := ⟨fun pos pins s σ H Q I z => h.run pos pins s σ H Q I (q σ H Q z)⟩
theorem PSs.imp {st : List Stmt} {t t' : TS} (h : PSs X st t') (q : ∀ D σ H, t D σ H → t' D σ H) : PSs X st t := ⟨fun pins s σ H D I z => h.run pins s σ H D I (q D σ H z)⟩
theorem PS.imp {st : Stmt} {t t' : TS} (h : PS X st t') (q : ∀ D σ H, t D σ H → t' D σ H) : PS X st t := ⟨fun pins s σ H D I z => h.run pins s σ H D I (q D σ H z)⟩
theorem PI.imp {tg : Expr} {t t' : TI} (h : PI X tg e t') (q : ∀ σ H R, t σ H R → t' σ H R) : PI X tg e t := ⟨fun pins s σ H R I z => h.run pins s σ H R I (q σ H R z)⟩
end

/-! ### expressions -/
def dVar (i : Nat) : TD := fun δ R => match δ.getD i .un with
  | .v d => R d
  | _ => False
def dC (d : DV) : TD := fun _ R => R d
def dOp (f : F2) (ta tb : TD) : TD := fun δ R => ta δ fun d => tb δ fun e => f d e R
def dUn (f : F1) (ta : TD) : TD := fun δ R => ta δ fun d => f d R
def dNil : TL := fun _ R => R []
def dCons (ta : TD) (t : TL) : TL := fun δ R => ta δ fun d => t δ fun ds => R (d :: ds)
section
variable {X : Cx} {a b : Expr} {es : List Expr} {ta tb : TD} {t : TL} {pos : Pos}
theorem up_var {κ : Ky} {i : Nat} {σ : Sg} {H : Hp} {Q : VK} (h : up κ (dVar i) σ H Q) : tVar i σ H Q := by
  obtain ⟨δ, R, c, L, es, h, k⟩ := h
  unfold dVar at h
  rw [List.getD_eq_getElem?_getD] at h
  cases e : δ[i]? with
  | none => rw [e] at h; exact h.elim
  | some s =>
    rw [e] at h
    cases s with
    | un => exact h.elim
    | own ds => exact h.elim
    | od o => exact h.elim
    | v d =>
      obtain ⟨v, h1, h2⟩ := es.val i d e
      exact ⟨v, h1, k v H d (Ext.refl H) h2 h⟩
theorem dv (i : Nat) {x : Str} (hN : X.N[i]? = some x := by rfl) (hv : Vis X.env.scope x := by first | exact Or.inl rfl | exact Or.inr (Or.inl rfl) | exact Or.inr (Or.inr rfl)) (hd : (x == ("__debug__" : Str)) = false := by decide)
    (hcd : (x == ("__classdict__" : Str)) = false := by decide) : PE X (.Name x pos) (up (Cx.ky X) (dVar i)) := PE.imp (pv i hN hv hd hcd) fun _ _ _ h => up_var h
theorem up_c {κ : Ky} {d : DV} {v : V} (r : ∀ H, Rv κ H d v) {σ : Sg} {H : Hp} {Q : VK} (h : up κ (dC d) σ H Q) : tC v σ H Q := by
  obtain ⟨δ, R, c, L, es, h, k⟩ := h
  exact k v H d (Ext.refl H) (r _) h
theorem de_int {i j pos} : PE X (.Constant (.int i) j pos) (up (Cx.ky X) (dC (.p (.int i)))) := PE.imp pe_int fun _ _ _ h => up_c (d := (.p (.int i))) (v := .int i) (fun _ => rfl) h
theorem de_bl {b j pos} : PE X (.Constant (.bool b) j pos) (up (Cx.ky X) (dC (.p (.bool b)))) := PE.imp pe_bl fun _ _ _ h => up_c (d := (.p (.bool b))) (v := .bl b) (fun _ => rfl) h
theorem de_non {j pos} : PE X (.Constant .none j pos) (up (Cx.ky X) (dC (.p .none))) := PE.imp pe_non fun _ _ _ h => up_c (d := (.p .none)) (v := .non) (fun _ => rfl) h
theorem de_str {x j pos} : PE X (.Constant (.str x) j pos) (up (Cx.ky X) (dC (.p (.str x)))) := PE.imp pe_str fun _ _ _ h => up_c (d := (.p (.str x))) (v := .str x) (fun _ => rfl) h
/-- a constant of the module -/
theorem de_glob {x : Str} {d : DV} {v : V} {u : Value} {pos : Pos} (hg : Gl X x) (hm : X.mg x = some u) (r : RelV v u) (q : ∀ H, Rv (Cx.ky X) H d v) (hd : (x == ("__debug__" : Str)) = false := by decide) : PE X (.Name x pos) (up (Cx.ky X) (dC d)) :=
  PE.imp (pe_glob hg hm r hd) fun _ _ _ h => up_c q h
/-- a built-in as a value -/
theorem de_bltn {x : Str} {v : V} {u : Value} {pos : Pos} (hg : Gl X x) (hm : X.mg x = none) (hv : bootBuiltins x = some u) (r : RelV v u) (hn : x ≠ "__name__" := by decide) (hd : (x == ("__debug__" : Str)) = false := by decide) : PE X (.Name x pos) (up (Cx.ky X) (dC (.raw v))) :=
  PE.imp (pe_bltn hg hm hv r hn hd) fun _ _ _ h => up_c (d := (.raw v)) (v := v) (fun _ => rfl) h
theorem up_op {κ : Ky} {f : F2} {σ : Sg} {H : Hp} {Q : VK} (h : up κ (dOp f ta tb) σ H Q) : tOp (upO κ f) (up κ ta) (up κ tb) σ H Q := by
  obtain ⟨δ, R, c, L, es, h, k⟩ := h
  refine ⟨δ, _, c, L, es, h, fun v H1 d x1 r1 h1 => ⟨δ, _, c, L, es.on x1, h1, fun u H2 e x2 r2 h2 => ?_⟩⟩
  exact ⟨d, e, R, _, (es.on (x1.trans x2)).dom, r1.ext (x2.hide _), r2, h2, fun z H3 r x3 q1 q2 => k z H3 r (x1.trans (x2.trans x3)) q1 q2⟩
theorem de_op {op : Operator} {f : F2} (ho : OpR X (binaryOp op) (upO (Cx.ky X) f)) (ha : PE X a (up (Cx.ky X) ta)) (hb : PE X b (up (Cx.ky X) tb)) : PE X (.BinOp a op b pos) (up (Cx.ky X) (dOp f ta tb)) :=
  PE.imp (pe_op ho ha hb) fun _ _ _ h => up_op h
theorem de_cmp {op : CmpOp} {f : F2} (ho : OpR X (compareOp op) (upO (Cx.ky X) f)) (ha : PE X a (up (Cx.ky X) ta)) (hb : PE X b (up (Cx.ky X) tb)) (hm : behindInMarks op b = false := by first | exact nomark _ | rfl) : PE X (.Compare a [op] [b] pos) (up (Cx.ky X) (dOp f ta tb)) :=
  PE.imp (pe_cmpR ho ha hb hm) fun _ _ _ h => up_op h
theorem up_un {κ : Ky} {f : F1} {σ : Sg} {H : Hp} {Q : VK} (h : up κ (dUn f ta) σ H Q) : tUn (upU κ f) (up κ ta) σ H Q := by
  obtain ⟨δ, R, c, L, es, h, k⟩ := h
  refine ⟨δ, _, c, L, es, h, fun v H1 d x1 r1 h1 => ?_⟩
  exact ⟨d, R, _, (es.on x1).dom, r1, h1, fun z H3 r x3 q1 q2 => k z H3 r (x1.trans x3) q1 q2⟩
theorem de_un {op : UnaryOp} {f : F1} (ho : UnR X (unaryOp op) (upU (Cx.ky X) f)) (ha : PE X a (up (Cx.ky X) ta)) : PE X (.UnaryOp op a pos) (up (Cx.ky X) (dUn f ta)) := PE.imp (pe_un ho ha) fun _ _ _ h => up_un h
theorem da_nil : PA X [] (upA (Cx.ky X) dNil) := PA.imp pa_nil fun _ H _ ⟨δ, R, c, L, es, h, k⟩ => k [] H [] (Ext.refl _) rfl h
theorem da_cons (ha : PE X a (up (Cx.ky X) ta)) (h : PA X es (upA (Cx.ky X) t)) (hs : starEach (a :: es) X.env = (false, eval a X.env) :: starEach es X.env := by rfl) : PA X (a :: es) (upA (Cx.ky X) (dCons ta t)) := by
  refine PA.imp (pa_cons ha h hs) fun σ H Q ⟨δ, R, c, L, es, h, k⟩ => ?_
  refine ⟨δ, _, c, L, es, h, fun v H1 d x1 r1 h1 => ⟨δ, _, c, L, es.on x1, h1, fun us H2 ds x2 r2 h2 => ?_⟩⟩
  exact k _ H2 (d :: ds) (x1.trans x2) ⟨v, us, rfl, r1.ext (x2.hide _), r2⟩ h2
end
end MR

/-! Tests, calls, statements, loops, comprehensions by data. -/
namespace MR
open PySem PySem.Spec PyProof.Rows L2

/-! ### data by its kind -/
def asB (d : DV) (K : Bool → Prop) : Prop := match d with
  | .p (.bool b) => K b
  | _ => False
def asI (d : DV) (K : Int → Prop) : Prop := match d with
  | .p (.int i) => K i
  | _ => False
def asS (d : DV) (K : Str → Prop) : Prop := match d with
  | .p (.str x) => K x
  | _ => False
def asL (d : DV) (K : List PyData → Prop) : Prop := match d with
  | .p (.list x) => K x
  | _ => False
def asU (d : DV) (K : List PyData → Prop) : Prop := match d with
  | .p (.tuple x) => K x
  | _ => False
def asP (d : DV) (K : PyData → Prop) : Prop := match d with
  | .p x => K x
  | _ => False
theorem asB_of {d : DV} {K : Bool → Prop} (h : asB d K) : ∃ b, d = .p (.bool b) ∧ K b := by
  cases d with
  | p x => cases x with
    | bool b => exact ⟨b, rfl, h⟩
    | _ => exact h.elim
  | _ => exact h.elim
theorem asI_of {d : DV} {K : Int → Prop} (h : asI d K) : ∃ b, d = .p (.int b) ∧ K b := by
  cases d with
  | p x => cases x with
    | int b => exact ⟨b, rfl, h⟩
    | _ => exact h.elim
  | _ => exact h.elim
theorem asS_of {d : DV} {K : Str → Prop} (h : asS d K) : ∃ b, d = .p (.str b) ∧ K b := by
  cases d with
  | p x => cases x with
    | str b => exact ⟨b, rfl, h⟩
    | _ => exact h.elim
  | _ => exact h.elim
theorem asL_of {d : DV} {K : List PyData → Prop} (h : asL d K) : ∃ b, d = .p (.list b) ∧ K b := by
  cases d with
  | p x => cases x with
    | list b => exact ⟨b, rfl, h⟩
    | _ => exact h.elim
  | _ => exact h.elim
theorem asU_of {d : DV} {K : List PyData → Prop} (h : asU d K) : ∃ b, d = .p (.tuple b) ∧ K b := by
  cases d with
  | p x => cases x with
    | tuple b => exact ⟨b, rfl, h⟩
    | _ => exact h.elim
  | _ => exact h.elim
theorem asP_of {d : DV} {K : PyData → Prop} (h : asP d K) : ∃ b, d = .p b ∧ K b := by
  cases d with
  | p x => exact ⟨x, rfl, h⟩
  | _ => exact h.elim

/-! ### tests -/
def dB (t : TD) : TB := fun δ R => t δ fun d => asB d R
def dNotT (t : TB) : TB := fun δ R => t δ fun b => R (!b)
def dAndT (t u : TB) : TB := fun δ R => t δ fun b => if b = true then u δ R else R false
def dOrT (t u : TB) : TB := fun δ R => t δ fun b => if b = true then R true else u δ R
def dNot (t : TD) : TD := fun δ R => t δ fun d => asB d fun b => R (.p (.bool (!b)))
def dAnd (t u : TD) : TD := fun δ R => t δ fun d => asB d fun b => if b = true then u δ R else R (.p (.bool false))
def dOr (t u : TD) : TD := fun δ R => t δ fun d => asB d fun b => if b = true then R (.p (.bool true)) else u δ R
def dIf (c : TB) (t u : TD) : TD := fun δ R => c δ fun b => if b = true then t δ R else u δ R
def dChain (f f' : F2) (ta tb tc : TD) : TD := fun δ R => ta δ fun d => tb δ fun e => f d e fun z => asB z fun b => if b = true then tc δ fun g => f' e g R else R (.p (.bool false))
section
variable {X : Cx} {a b c : Expr} {rest : List Expr} {ta tb tc : TD} {u w : TB} {pos : Pos}
theorem dt_val {e : Expr} {t : TD} (h : PE X e (up (Cx.ky X) t)) (he : ∀ whole, isTrue e X.env whole = (do let v ← whole; standAt e.pos; holding [v] (truthy v)) := by intro _; rfl) : PT X e (upT (Cx.ky X) (dB t)) := by
  refine PT.imp (pt_val h he) fun σ H Q ⟨δ, R, c, L, es, h, k⟩ => ⟨δ, _, c, L, es, h, fun v H1 d x1 r1 h1 => ?_⟩
  obtain ⟨b, rfl, h2⟩ := asB_of h1
  exact ⟨b, r1, k b H1 x1 h2⟩
theorem dt_cmp {op : CmpOp} {f : F2} (ho : OpR X (compareOp op) (upO (Cx.ky X) f)) (ha : PE X a (up (Cx.ky X) ta)) (hb : PE X b (up (Cx.ky X) tb)) (hm : behindInMarks op b = false := by first | exact nomark _ | rfl) : PT X (.Compare a [op] [b] pos) (upT (Cx.ky X) (dB (dOp f ta tb))) := by
  refine PT.imp (pt_cmpR ho ha hb hm) fun σ H Q ⟨δ, R, c, L, es, h, k⟩ => ?_
  refine ⟨δ, _, c, L, es, h, fun v H1 d x1 r1 h1 => ⟨δ, _, c, L, es.on x1, h1, fun u H2 e x2 r2 h2 => ?_⟩⟩
  refine ⟨d, e, _, _, (es.on (x1.trans x2)).dom, r1.ext (x2.hide _), r2, h2, fun z H3 r x3 q1 q2 => ?_⟩
  obtain ⟨b, rfl, h3⟩ := asB_of q2
  exact ⟨b, q1, k b H3 (x1.trans (x2.trans x3)) h3⟩
theorem dt_not (ha : PT X a (upT (Cx.ky X) u)) : PT X (.UnaryOp .Not a pos) (upT (Cx.ky X) (dNotT u)) :=
  PT.imp (pt_not ha) fun σ H Q ⟨δ, R, c, L, es, h, k⟩ => ⟨δ, _, c, L, es, h, fun b H1 x1 h1 => k (!b) H1 x1 h1⟩
theorem dw_and1 (ha : PT X a (upT (Cx.ky X) u)) : PW X (.BoolOp .And [a] pos) (upT (Cx.ky X) u) := pw_and1 ha
theorem dw_or1 (ha : PT X a (upT (Cx.ky X) u)) : PW X (.BoolOp .Or [a] pos) (upT (Cx.ky X) u) := pw_or1 ha
theorem dw_and (ha : PT X a (upT (Cx.ky X) u)) (hb : PW X (.BoolOp .And (b :: rest) pos) (upT (Cx.ky X) w)) : PW X (.BoolOp .And (a :: b :: rest) pos) (upT (Cx.ky X) (dAndT u w)) := by
  refine PW.imp (pw_and ha hb) fun σ H Q ⟨δ, R, c, L, es, h, k⟩ => ⟨δ, _, c, L, es, h, fun b H1 x1 h1 => ?_⟩
  cases b with
  | true => exact ⟨δ, R, c, L, es.on x1, h1, fun b H2 x2 h2 => k b H2 (x1.trans x2) h2⟩
  | false => exact k false H1 x1 h1
theorem dw_or (ha : PT X a (upT (Cx.ky X) u)) (hb : PW X (.BoolOp .Or (b :: rest) pos) (upT (Cx.ky X) w)) : PW X (.BoolOp .Or (a :: b :: rest) pos) (upT (Cx.ky X) (dOrT u w)) := by
  refine PW.imp (pw_or ha hb) fun σ H Q ⟨δ, R, c, L, es, h, k⟩ => ⟨δ, _, c, L, es, h, fun b H1 x1 h1 => ?_⟩
  cases b with
  | false => exact ⟨δ, R, c, L, es.on x1, h1, fun b H2 x2 h2 => k b H2 (x1.trans x2) h2⟩
  | true => exact k true H1 x1 h1
theorem de_one {op} {t : TD} (h : PE X a (up (Cx.ky X) t)) : PE X (.BoolOp op [a] pos) (up (Cx.ky X) t) := pe_one h
theorem de_and (ha : PE X a (up (Cx.ky X) ta)) (hb : PE X (.BoolOp .And (b :: rest) pos) (up (Cx.ky X) tb)) : PE X (.BoolOp .And (a :: b :: rest) pos) (up (Cx.ky X) (dAnd ta tb)) := by
  refine PE.imp (pe_and ha hb) fun σ H Q ⟨δ, R, c, L, es, h, k⟩ => ⟨δ, _, c, L, es, h, fun v H1 d x1 r1 h1 => ?_⟩
  obtain ⟨b, rfl, h2⟩ := asB_of h1
  cases b with
  | true => exact ⟨true, r1, ⟨δ, R, c, L, es.on x1, h2, fun u H2 e x2 r2 h2 => k u H2 e (x1.trans x2) r2 h2⟩⟩
  | false => exact ⟨false, r1, k (.bl false) H1 (.p (.bool false)) x1 rfl h2⟩
theorem de_or (ha : PE X a (up (Cx.ky X) ta)) (hb : PE X (.BoolOp .Or (b :: rest) pos) (up (Cx.ky X) tb)) : PE X (.BoolOp .Or (a :: b :: rest) pos) (up (Cx.ky X) (dOr ta tb)) := by
  refine PE.imp (pe_or ha hb) fun σ H Q ⟨δ, R, c, L, es, h, k⟩ => ⟨δ, _, c, L, es, h, fun v H1 d x1 r1 h1 => ?_⟩
  obtain ⟨b, rfl, h2⟩ := asB_of h1
  cases b with
  | false => exact ⟨false, r1, ⟨δ, R, c, L, es.on x1, h2, fun u H2 e x2 r2 h2 => k u H2 e (x1.trans x2) r2 h2⟩⟩
  | true => exact ⟨true, r1, k (.bl true) H1 (.p (.bool true)) x1 rfl h2⟩
theorem de_not (ha : PE X a (up (Cx.ky X) ta)) : PE X (.UnaryOp .Not a pos) (up (Cx.ky X) (dNot ta)) := by
  refine PE.imp (pe_not ha) fun σ H Q ⟨δ, R, c, L, es, h, k⟩ => ⟨δ, _, c, L, es, h, fun v H1 d x1 r1 h1 => ?_⟩
  obtain ⟨b, rfl, h2⟩ := asB_of h1
  exact ⟨b, r1, k (.bl (!b)) H1 (.p (.bool (!b))) x1 rfl h2⟩
theorem de_if (hc : PT X c (upT (Cx.ky X) u)) (ha : PE X a (up (Cx.ky X) ta)) (hb : PE X b (up (Cx.ky X) tb)) : PE X (.IfExp c a b pos) (up (Cx.ky X) (dIf u ta tb)) := by
  refine PE.imp (pe_ifExp hc ha hb) fun σ H Q ⟨δ, R, c, L, es, h, k⟩ => ⟨δ, _, c, L, es, h, fun b H1 x1 h1 => ?_⟩
  cases b with
  | true => exact ⟨δ, R, c, L, es.on x1, h1, fun u H2 e x2 r2 h2 => k u H2 e (x1.trans x2) r2 h2⟩
  | false => exact ⟨δ, R, c, L, es.on x1, h1, fun u H2 e x2 r2 h2 => k u H2 e (x1.trans x2) r2 h2⟩
theorem de_chain {op op' : CmpOp} {f f' : F2} (ho : OpR X (compareOp op) (upO (Cx.ky X) f)) (ho' : OpR X (compareOp op') (upO (Cx.ky X) f')) (ha : PE X a (up (Cx.ky X) ta)) (hb : PE X b (up (Cx.ky X) tb)) (hc : PE X c (up (Cx.ky X) tc)) (hm : lastMarks [op, op'] [b, c] = false := by with_unfolding_all rfl) :
    PE X (.Compare a [op, op'] [b, c] pos) (up (Cx.ky X) (dChain f f' ta tb tc)) := by
  refine PE.imp (pe_chain ho ho' ha hb hc hm) fun σ H Q ⟨δ, R, c, L, es, h, k⟩ => ?_
  refine ⟨δ, _, c, L, es, h, fun v H1 d x1 r1 h1 => ⟨δ, _, c, L, es.on x1, h1, fun u H2 e x2 r2 h2 => ?_⟩⟩
  refine ⟨d, e, _, _, (es.on (x1.trans x2)).dom, r1.ext (x2.hide _), r2, h2, fun z H3 r x3 q1 q2 => ?_⟩
  obtain ⟨b, rfl, q3⟩ := asB_of q2
  cases b with
  | true =>
    refine ⟨true, q1, ⟨δ, _, c, L, es.on (x1.trans (x2.trans x3)), q3, fun y H4 g x4 r4 h4 => ?_⟩⟩
    exact ⟨e, g, R, _, (es.on (x1.trans (x2.trans (x3.trans x4)))).dom, r2.ext ((x3.trans x4).hide _), r4, h4, fun z' H5 r' x5 q5 q6 => k z' H5 r' (x1.trans (x2.trans (x3.trans (x4.trans x5)))) q5 q6⟩
  | false => exact ⟨false, q1, k (.bl false) H3 (.p (.bool false)) (x1.trans (x2.trans x3)) rfl q3⟩
end

/-! ### promises that hold where no text of an object is being written (repr asks that) -/
structure FnG (P : Program) (w : World) (K : PySem.W.Frag) (mg : Str → Option Value) (base : Heap) (CX : CXT) (k : Nat) (f : Addr) (fd : FuncData) (ps : List Str) (sp : Sp) : Prop where
  len : ∀ vs H Q E, sp vs H Q E → vs.length = ps.length
  go : ∀ (A : Around), A.guards = some [] → ∀ (outer : List PySem.Env) (s : Shared) (H : Hp) (args : Args) (us : List Value) (vs : List V) (Q : VK) (E : XK),
    Room k A → Env0 P w K mg base A outer s H → BindsTo s fd args (ps.zip us) → Vals vs us → sp vs H Q E → codeAny (model P w) A (.call (.ref f) args) (CR CX outer P w H s Q E) s
section
variable {P : Program} {w : World} {K : PySem.W.Frag} {mg : Str → Option Value} {base : Heap} {CX : CXT} {j k : Nat} {f : Addr} {fd : FuncData} {ps : List Str} {sp sp' : Sp}
theorem FnG.of (F : FnOk P w K mg base CX k f fd ps sp) : FnG P w K mg base CX k f fd ps sp := ⟨F.len, fun A _ => F.run A⟩
theorem FnG.mono (F : FnG P w K mg base CX j f fd ps sp) (h : j ≤ k) : FnG P w K mg base CX k f fd ps sp := ⟨F.len, fun A g o s H a us vs Q E r => F.go A g o s H a us vs Q E (r.mono h)⟩
theorem FnG.imp (F : FnG P w K mg base CX k f fd ps sp) (h : ∀ vs H Q E, sp' vs H Q E → sp vs H Q E) : FnG P w K mg base CX k f fd ps sp' :=
  ⟨fun vs H Q E q => F.len vs H Q E (h vs H Q E q), fun A g o s H a us vs Q E r e b v q => F.go A g o s H a us vs Q E r e b v (h vs H Q E q)⟩
end
section
variable {X : Cx} {CX : CXT} {k : Nat} {f : Addr} {fd : FuncData} {ps : List Str} {sp : Sp} {dvs : List V} {ds : List Value} {E : XK} {x : Str} {p pos : Pos} {e : Expr} {es : List Expr} {t : TA}
/-- such a def is called -/
theorem goes {pins : List (Addr × Obj)} {σ : Sg} {H : Hp} {s : Shared} {Q : VK} {us : List Value} {vs : List V} (F : FnG X.prog X.w X.K X.mg X.base CX k f fd ps sp) (gd : X.A.guards = some []) (room : Room k X.A) (hb : L2.Binds X.K fd ps ds) (hd : Vals dvs ds) (hx : Passes CX X E)
    (I : Inv X pins σ H s) (rel : Vals vs us) (h : sp (vs ++ dvs) H Q E) : wpAny (model X.prog X.w) X.A (call (.ref f) us) (EP X pins σ Q) X.xe s := by
  have rel' : Vals (vs ++ dvs) (us ++ ds) := rel.append hd
  have many : (us ++ ds).length = ps.length := rel'.length.symm.trans (F.len _ _ _ _ h)
  refine wpAny_call (codeAny_mono (F.go X.A gd X.stack s H ⟨us, []⟩ (us ++ ds) (vs ++ dvs) Q E room I.env0 (hb s us I.kIn many) rel' h) fun res s2 q => ?_)
  cases res with
  | error err => exact hx pins σ H s err s2 I q
  | ok fl => cases fl with
    | ret u => exact I.after q
    | next => exact q.elim
    | brk => exact q.elim
    | cont => exact q.elim
theorem pe_callG (F : FnG X.prog X.w X.K X.mg X.base CX k f fd ps sp) (gd : X.A.guards = some []) (room : Room k X.A) (hg : Gl X x) (hm : X.mg x = some (.ref f)) (hk : PySem.W.keepIn X.K (.ref f) = true) (hb : L2.Binds X.K fd ps ds) (hd : Vals dvs ds) (hx : Passes CX X E)
    (ha : PA X (e :: es) t) (hdb : (x == ("__debug__" : Str)) = false := by decide) (he : starEach (e :: es) X.env = (false, eval e X.env) :: starEach es X.env := by rfl) (hpl : (backTo pos (starEach es X.env)).any (·.1) = false := by rfl) :
    PE X (.Call (.Name x p) (e :: es) [] pos) (tCall sp dvs E t) := by
  refine ⟨fun pins s σ H Q I h => wpAny_Call_Name_kw (ld_glob I hg hm ?_ hdb)⟩
  refine PySem.W.callWith_K (h₀ := X.base) I.ok.mod.kin hk (thn (ha.run pos pins s σ H _ I h) fun us s1 ⟨vs, H1, I1, r, q⟩ => ⟨I1.kIn, ?_⟩) he hpl
  exact goes F gd room hb hd hx I1 r q
theorem pe_callG0 (F : FnG X.prog X.w X.K X.mg X.base CX k f fd ps sp) (gd : X.A.guards = some []) (room : Room k X.A) (hg : Gl X x) (hm : X.mg x = some (.ref f)) (hk : PySem.W.keepIn X.K (.ref f) = true) (hb : L2.Binds X.K fd ps ds) (hd : Vals dvs ds) (hx : Passes CX X E)
    (hdb : (x == ("__debug__" : Str)) = false := by decide) : PE X (.Call (.Name x p) [] [] pos) (tCall sp dvs E tNil) :=
  ⟨fun pins s σ H Q I h => wpAny_Call_Name_kw (ld_glob I hg hm (PySem.W.callWith_K0 I.kIn hk (goes (us := []) F gd room hb hd hx I .nil h)) hdb)⟩
end
/-- the rule for a def by its body, such a promise -/
theorem fnG_of {CX : CXT} {P : Program} {w : World} {K : PySem.W.Frag} {mg : Str → Option Value} {base : Heap} {k : Nat} {f : Addr} {fd : FuncData} {x qual : Str} {st : Stmt} {N ps : List Str} {sp : Sp} (F : Fun K x qual st f fd) (S : FnScope N ps (defScope st))
    (len : ∀ vs H Q E, sp vs H Q E → vs.length = ps.length)
    (hbody : ∀ (cdv : Value) (A : Around), A.guards = some [] → ∀ (outer : List PySem.Env) (s : Shared) (H : Hp) (vs : List V) (Q : VK) (E : XK), Room k (A.deeper (envOfC qual (defScope st) s.heap.objs.size f cdv)) → sp vs H Q E →
      ∃ t, PSs (cxOf CX P w K mg base N qual (defScope st) f cdv A outer s H E) (defBody st) t ∧ t { nx := fun _ H' => Q .non H', rt := Q } (L2.start N vs) H) : FnG P w K mg base CX (k + 1) f fd ps sp := by
  obtain ⟨oc, od, kV, doc, pm, an, cdv, ct, osl, rfl, lk, hcd⟩ := F.ex
  refine ⟨len, fun A gd outer s H args us vs Q E room e0 bnd rel hsp => ?_⟩
  have many := len _ _ _ _ hsp
  have inK : K.In s.heap := e0.mod.kin.keeps fun b o q => (e0.bs b o q).1
  have limit : s.heap.NoLimit := e0.mod.nolimit.keeps fun b o q => (e0.bs b o q).1
  have kinds : ∀ y ∈ ps.zip us, (defScope st).names.lookup y.1 = some .local ∨ ((defScope st).names.lookup y.1 = some .cell ∧ ((cellsFrom (s.heap.objs.size + 1) (defScope st).names []).lookup y.1).isSome = true) := fun ⟨n, v⟩ hy =>
    (S.par n (List.of_mem_zip hy).1).imp id fun q => ⟨q, PySem.W.cellsFrom_some _ _ _ (.inl q)⟩
  refine codeAny_call_function room.depth (inK _ _ lk) rfl S.co S.gen rfl (PySem.W.codeRec_of inK hcd) (bnd _ _ _ _ ?_)
  refine wpAny_newFunctionEnv_cells S.kind kinds fun env henv s1 made => ?_
  subst henv
  refine ⟨limit.keeps made.toInCall.keep, codeAny_func ?_⟩
  obtain ⟨t, ht, hq⟩ := hbody cdv A gd outer s H vs Q E (room.deeper _) hsp
  have inv0 : Inv (cxOf CX P w K mg base N qual (defScope st) f cdv A outer s H E) [] (L2.start N vs) H s1 := inv_start S room.hd e0 many rel made
  refine wpAny_mono (ht.run [] s1 (L2.start N vs) H _ inv0 hq) (fun fl s2 hs => ?_) fun _ _ hs => hs
  have ends : ∀ {σ2 : Sg} {H2 : Hp} {v : V} {u : Value}, Inv (cxOf CX P w K mg base N qual (defScope st) f cdv A outer s H E) [] σ2 H2 s2 → RelV v u → Q v H2 → CE outer P w H s Q u s2 :=
    fun {σ2 H2 v u} J rv q => ⟨v, H2, J.os, J.bare, J.base, J.hok, rv, q⟩
  cases fl with
  | ret u =>
    obtain ⟨v, σ2, H2, J, rv, q⟩ := hs
    exact ends J rv q
  | next =>
    obtain ⟨σ2, H2, J, q⟩ := hs
    exact ends (v := V.non) (u := Value.none) J rfl q
  | brk => exact (show False from let ⟨_, _, _, q⟩ := hs; q).elim
  | cont => exact (show False from let ⟨_, _, _, q⟩ := hs; q).elim

/-! ### calls -/
def dCall (f : FL) (t : TL) : TD := fun δ R => t δ fun ds => f ds R
def spD (κ : Ky) (f : FL) : Sp := fun vs H Q _ => upC κ f vs H Q
section
variable {X : Cx} {e : Expr} {es : List Expr} {t : TL} {pos p : Pos} {x : Str}
theorem up_call {κ : Ky} {f : FL} {σ : Sg} {H : Hp} {Q : VK} (h : up κ (dCall f t) σ H Q) : upA κ t σ H fun vs H1 => upC κ f vs H1 Q := by
  obtain ⟨δ, R, c, L, es, h, k⟩ := h
  exact ⟨δ, _, c, L, es, h, fun vs H1 ds x1 r1 h1 => ⟨ds, R, _, (es.on x1).dom, r1, h1, fun v H2 r x2 q1 q2 => k v H2 r (x1.trans x2) q1 q2⟩⟩
theorem de_call {k : Nat} {f : Addr} {fd : FuncData} {ps : List Str} {g : FL} {CX : CXT} {E : XK} (F : FnG X.prog X.w X.K X.mg X.base CX k f fd ps (spD (Cx.ky X) g)) (gd : X.A.guards = some []) (hr : Room k X.A) (hg : Gl X x) (hm : X.mg x = some (.ref f)) (hk : PySem.W.keepIn X.K (.ref f) = true)
    (hb : Binds X.K fd ps []) (hx : Passes CX X E) (ha : PA X (e :: es) (upA (Cx.ky X) t)) (hdb : (x == ("__debug__" : Str)) = false := by decide) (he : starEach (e :: es) X.env = (false, eval e X.env) :: starEach es X.env := by rfl)
    (hpl : (backTo pos (starEach es X.env)).any (·.1) = false := by rfl) : PE X (.Call (.Name x p) (e :: es) [] pos) (up (Cx.ky X) (dCall g t)) := by
  refine PE.imp (pe_callG F gd hr hg hm hk hb .nil hx ha hdb he hpl) fun σ H Q h => ?_
  have q := up_call h
  obtain ⟨δ, R, c, L, es, h1, k1⟩ := q
  refine ⟨δ, R, c, L, es, h1, fun vs H1 ds x1 r1 q1 => ?_⟩
  have q2 := k1 vs H1 ds x1 r1 q1
  show spD (Cx.ky X) g (vs ++ []) H1 Q E
  rw [List.append_nil]
  exact q2
theorem de_callB {id : String} {g : FL} (hc : CallR X (.builtin id) (upC (Cx.ky X) g)) (hg : Gl X x) (hm : X.mg x = none) (hv : bootBuiltins x = some (.builtin id)) (ha : PA X (e :: es) (upA (Cx.ky X) t)) (hn : x ≠ "__name__" := by decide) (hdb : (x == ("__debug__" : Str)) = false := by decide)
    (he : starEach (e :: es) X.env = (false, eval e X.env) :: starEach es X.env := by rfl) (hpl : (backTo pos (starEach es X.env)).any (·.1) = false := by rfl) : PE X (.Call (.Name x p) (e :: es) [] pos) (up (Cx.ky X) (dCall g t)) :=
  PE.imp (pe_callB hc hg hm hv ha hn hdb he hpl) fun _ _ _ h => up_call h
theorem de_callTy {id : String} {g : FL} (hc : CallR X (.type id) (upC (Cx.ky X) g)) (hg : Gl X x) (hm : X.mg x = none) (hv : bootBuiltins x = some (.type id)) (ha : PA X (e :: es) (upA (Cx.ky X) t)) (hn : x ≠ "__name__" := by decide) (hdb : (x == ("__debug__" : Str)) = false := by decide)
    (he : starEach (e :: es) X.env = (false, eval e X.env) :: starEach es X.env := by rfl) (hpl : (backTo pos (starEach es X.env)).any (·.1) = false := by rfl) : PE X (.Call (.Name x p) (e :: es) [] pos) (up (Cx.ky X) (dCall g t)) :=
  PE.imp (pe_callTy hc hg hm hv ha hn hdb he hpl) fun _ _ _ h => up_call h
end

/-! ### statements -/
structure DE where
  nx : Dn → Prop
  rt : DV → Prop
  bk : Dn → Prop := fun _ => False
  ct : Dn → Prop := fun _ => False
  ro : OD → Prop := fun _ => False
abbrev TDS := DE → Dn → Prop
/-- what reaches the ends of the data's reading reaches the program's -/
structure Fin (κ : Ky) (c : Sc) (E : DE) (D : Ends) : Prop where
  nx : ∀ δ σ H L, ES κ c H L δ σ → E.nx δ → D.nx σ H
  rt : ∀ v H d, ExtM c.M c.H0 H → Rv κ (hide c.P H) d v → E.rt d → D.rt v H
  bk : ∀ δ σ H L, ES κ c H L δ σ → E.bk δ → D.bk σ H
  ct : ∀ δ σ H L, ES κ c H L δ σ → E.ct δ → D.ct σ H
  ro : ∀ o δ σ H L, ES κ c H L δ σ → (∃ i : Nat, δ[i]? = some (Sl.od o)) → E.ro o → D.rt (.ref o.at_) H
def upS (κ : Ky) (t : TDS) : TS := fun D σ H => ∃ δ E c L, ES κ c H L δ σ ∧ t E δ ∧ Fin κ c E D
def dSeq (t u : TDS) : TDS := fun E δ => t { E with nx := u E } δ
def dNext : TDS := fun E δ => E.nx δ
def dBreak : TDS := fun E δ => E.bk δ
def dCont : TDS := fun E δ => E.ct δ
def dDrop (t : TD) : TDS := fun E δ => t δ fun _ => E.nx δ
def dRet (t : TD) : TDS := fun E δ => t δ E.rt
def dRetN : TDS := fun E _ => E.rt (.p .none)
def dIfS (c : TB) (t u : TDS) : TDS := fun E δ => c δ fun b => if b = true then t E δ else u E δ
def dSet (i : Nat) (t : TD) : TDS := fun E δ => t δ fun d => E.nx (δ.set i (.v d))
theorem oor_off (P : Addr → Bool) : oor P (fun _ => false) = P := funext fun a => by unfold oor; rw [Bool.or_false]
theorem out_of {P L : Addr → Bool} {H : Hp} {κ : Ky} {d : DV} {v : V} (h : Rv κ (hide (oor P L) H) d v) : Rv κ (hide P H) d v := h.ext (hide_less H fun a z => by unfold oor; rw [z]; rfl)
section
variable {κ : Ky} {c : Sc} {H : Hp} {L : Addr → Bool} {δ : Dn} {σ : Sg}
theorem od_set {δ : Dn} {i j : Nat} {s : Sl} {o : OD} (ns : ∀ o, s ≠ .od o) (h : (δ.set i s)[j]? = some (Sl.od o)) : j ≠ i ∧ δ[j]? = some (Sl.od o) := by
  by_cases hj : j = i
  · subst hj
    have hl : j < δ.length := by
      have := (List.getElem?_eq_some_iff.mp h).1
      rw [List.length_set] at this
      exact this
    rw [List.getElem?_set_self hl] at h
    exact absurd (Option.some.inj h) (ns o)
  · rw [List.getElem?_set_ne (Ne.symm hj)] at h
    exact ⟨hj, h⟩
theorem OdAt.set {Hh : Hp} {s : Sl} (h : OdAt κ Hh H L δ σ) (i : Nat) (x : Option V) (ns : ∀ o, s ≠ .od o) : OdAt κ Hh H L (δ.set i s) (σ.set i x) :=
  h.mono (fun j o e => ⟨(od_set ns e).2, List.getElem?_set_ne (Ne.symm (od_set ns e).1)⟩) (fun _ _ l h _ => ⟨l, h⟩) (Ext.refl _)
theorem ES.set (s : ES κ c H L δ σ) {i : Nat} {d : DV} {v : V} (r : Rv κ (hide (oor c.P L) H) d v) : ES κ c H L (δ.set i (.v d)) (σ.set i (some v)) where
  len := by rw [List.length_set, List.length_set]; exact s.len
  val := fun j e h => by
    by_cases hj : j = i
    · subst hj
      have hl : j < δ.length := by
        have := (List.getElem?_eq_some_iff.mp h).1
        rw [List.length_set] at this
        exact this
      rw [List.getElem?_set_self hl] at h
      cases h
      exact ⟨v, List.getElem?_set_self (by rw [← s.len]; exact hl), r⟩
    · rw [List.getElem?_set_ne (Ne.symm hj)] at h
      rw [List.getElem?_set_ne (Ne.symm hj)]
      exact s.val j e h
  own := fun j e h => by
    by_cases hj : j = i
    · subst hj
      have hl : j < δ.length := by
        have := (List.getElem?_eq_some_iff.mp h).1
        rw [List.length_set] at this
        exact this
      rw [List.getElem?_set_self hl] at h
      cases h
    · rw [List.getElem?_set_ne (Ne.symm hj)] at h
      rw [List.getElem?_set_ne (Ne.symm hj)]
      exact s.own j e h
  sep := fun j k ds es a n h1 h2 => by
    have nj : ∀ {j : Nat} {ds : List PyData}, (δ.set i (.v d))[j]? = some (Sl.own ds) → j ≠ i := fun {j ds} h hj => by
      subst hj
      have hl : j < δ.length := by
        have := (List.getElem?_eq_some_iff.mp h).1
        rw [List.length_set] at this
        exact this
      rw [List.getElem?_set_self hl] at h
      cases h
    have n1 := nj h1
    have n2 := nj h2
    rw [List.getElem?_set_ne (Ne.symm n1)] at h1
    rw [List.getElem?_set_ne (Ne.symm n2)] at h2
    rw [List.getElem?_set_ne (Ne.symm n1), List.getElem?_set_ne (Ne.symm n2)]
    exact s.sep j k ds es a n h1 h2
  psys := s.psys
  pdom := s.pdom
  ldom := s.ldom
  ext := s.ext
  kept := s.kept
  ods := s.ods.set i _ (fun _ z => by cases z)
  mp := s.mp
theorem ES.wipe1 (s : ES κ c H L δ σ) (i : Nat) (o : Option V) : ES κ c H L (δ.set i .un) (σ.set i o) where
  len := by rw [List.length_set, List.length_set]; exact s.len
  val := fun j e h => by
    by_cases hj : j = i
    · subst hj
      have hl : j < δ.length := by
        have := (List.getElem?_eq_some_iff.mp h).1
        rw [List.length_set] at this
        exact this
      rw [List.getElem?_set_self hl] at h
      cases h
    · rw [List.getElem?_set_ne (Ne.symm hj)] at h
      rw [List.getElem?_set_ne (Ne.symm hj)]
      exact s.val j e h
  own := fun j e h => by
    by_cases hj : j = i
    · subst hj
      have hl : j < δ.length := by
        have := (List.getElem?_eq_some_iff.mp h).1
        rw [List.length_set] at this
        exact this
      rw [List.getElem?_set_self hl] at h
      cases h
    · rw [List.getElem?_set_ne (Ne.symm hj)] at h
      rw [List.getElem?_set_ne (Ne.symm hj)]
      exact s.own j e h
  sep := fun j k ds es a n h1 h2 => by
    have nj : ∀ {j : Nat} {ds : List PyData}, (δ.set i Sl.un)[j]? = some (Sl.own ds) → j ≠ i := fun {j ds} h hj => by
      subst hj
      have hl : j < δ.length := by
        have := (List.getElem?_eq_some_iff.mp h).1
        rw [List.length_set] at this
        exact this
      rw [List.getElem?_set_self hl] at h
      cases h
    have n1 := nj h1
    have n2 := nj h2
    rw [List.getElem?_set_ne (Ne.symm n1)] at h1
    rw [List.getElem?_set_ne (Ne.symm n2)] at h2
    rw [List.getElem?_set_ne (Ne.symm n1), List.getElem?_set_ne (Ne.symm n2)]
    exact s.sep j k ds es a n h1 h2
  psys := s.psys
  pdom := s.pdom
  ldom := s.ldom
  ext := s.ext
  kept := s.kept
  ods := s.ods.set i _ (fun _ z => by cases z)
  mp := s.mp
end
section
variable {X : Cx} {st : Stmt} {rest : List Stmt} {t u : TDS} {e : Expr} {te : TD} {pos : Pos}
theorem dss_nil : PSs X [] (upS (Cx.ky X) dNext) := PSs.imp pss_nil fun D σ H ⟨δ, E, c, L, es, h, f⟩ => f.nx δ σ H L es h
theorem dss_cons (h1 : PS X st (upS (Cx.ky X) t)) (h2 : PSs X rest (upS (Cx.ky X) u)) : PSs X (st :: rest) (upS (Cx.ky X) (dSeq t u)) :=
  PSs.imp (pss_cons h1 h2) fun D σ H ⟨δ, E, c, L, es, h, f⟩ => ⟨δ, _, c, L, es, h, ⟨fun δ' σ' H' L' es' h' => ⟨δ', E, c, L', es', h', f⟩, f.rt, f.bk, f.ct, f.ro⟩⟩
theorem dss_one (h1 : PS X st (upS (Cx.ky X) t)) : PSs X [st] (upS (Cx.ky X) t) := pss_one h1
theorem ds_pass : PS X (.Pass pos) (upS (Cx.ky X) dNext) := PS.imp ps_pass fun D σ H ⟨δ, E, c, L, es, h, f⟩ => f.nx δ σ H L es h
theorem ds_break : PS X (.Break pos) (upS (Cx.ky X) dBreak) := PS.imp ps_break fun D σ H ⟨δ, E, c, L, es, h, f⟩ => f.bk δ σ H L es h
theorem ds_continue : PS X (.Continue pos) (upS (Cx.ky X) dCont) := PS.imp ps_continue fun D σ H ⟨δ, E, c, L, es, h, f⟩ => f.ct δ σ H L es h
theorem ds_expr (he : PE X e (up (Cx.ky X) te)) (hs : swapsWith e none pos.line X.env = pure false := by rfl) : PS X (.Expr e pos) (upS (Cx.ky X) (dDrop te)) :=
  PS.imp (ps_expr he hs) fun D σ H ⟨δ, E, c, L, es, h, f⟩ => ⟨δ, _, c, L, es, h, fun v H1 d x1 r1 h1 => f.nx δ σ H1 L (es.on x1) h1⟩
theorem ds_ret (he : PE X e (up (Cx.ky X) te)) : PS X (.Return (some e) pos) (upS (Cx.ky X) (dRet te)) :=
  PS.imp (ps_ret he) fun D σ H ⟨δ, E, c, L, es, h, f⟩ => ⟨δ, _, c, L, es, h, fun v H1 d x1 r1 h1 => f.rt v H1 d (es.ext.trans x1) (out_of r1) h1⟩
theorem ds_retN : PS X (.Return none pos) (upS (Cx.ky X) dRetN) :=
  PS.imp ps_retN fun D σ H ⟨δ, E, c, L, es, h, f⟩ => f.rt .non H (.p .none) es.ext rfl h
theorem ds_if {c : Expr} {a b : List Stmt} {tc : TB} (hc : PT X c (upT (Cx.ky X) tc)) (ha : PSs X a (upS (Cx.ky X) t)) (hb : PSs X b (upS (Cx.ky X) u)) : PS X (.If c a b pos) (upS (Cx.ky X) (dIfS tc t u)) := by
  refine PS.imp (ps_if hc ha hb) fun D σ H ⟨δ, E, c, L, es, h, f⟩ => ⟨δ, _, c, L, es, h, fun b H1 x1 h1 => ?_⟩
  cases b with
  | true => exact ⟨δ, E, c, L, es.on x1, h1, f⟩
  | false => exact ⟨δ, E, c, L, es.on x1, h1, f⟩
theorem ds_set {i : Nat} {x : Str} {pos' : Pos} (hN : X.N.Nodup) (hi : X.N[i]? = some x) (hx : Loc X.env.scope x) (he : PE X e (up (Cx.ky X) te)) (hs : swapsWith e (some (.Name x pos')) pos.line X.env = pure false := by rfl) (hf : X.fn x = true ∨ X.env.scope.names.lookup x = some .local := by first | exact .inl rfl | exact .inr rfl | assumption) :
    PS X (.Assign [.Name x pos'] e pos) (upS (Cx.ky X) (dSet i te)) :=
  PS.imp (ps_set hN hi hx he hs hf) fun D σ H ⟨δ, E, c, L, es, h, f⟩ => ⟨δ, _, c, L, es, h, fun v H1 d x1 r1 h1 => f.nx _ _ H1 L ((es.on x1).set r1) h1⟩
end

/-! ### a def -/
def startD (N : List Str) (ds : List DV) : Dn := ds.map .v ++ List.replicate (N.length - ds.length) .un
theorem RvA.get {κ : Ky} {H : Hp} : ∀ {ds : List DV} {vs : List V} {i : Nat} {d : DV}, RvA κ H ds vs → ds[i]? = some d → ∃ v, vs[i]? = some v ∧ Rv κ H d v
  | [], _, _, _, _, e => by cases e
  | _ :: _, _, 0, _, ⟨v, r, q, h, t⟩, e => by
    cases e
    exact ⟨v, by rw [q]; rfl, h⟩
  | _ :: _, _, i + 1, _, ⟨v, r, q, h, t⟩, e => by
    obtain ⟨u, e1, e2⟩ := RvA.get (i := i) t e
    exact ⟨u, by rw [q]; exact e1, e2⟩
theorem es_start {κ : Ky} {N : List Str} {H : Hp} {P : Addr → Bool} {ds : List DV} {vs : List V} (d : Dom P H) (r : RvA κ (hide P H) ds vs) : ES κ ⟨H, P, [], [], fun _ => false⟩ H (fun _ => false) (startD N ds) (L2.start N vs) := by
  have hl := r.len
  have noOwn : ∀ (i : Nat) (es : List PyData), (startD N ds)[i]? ≠ some (Sl.own es) := fun i es h => by
    unfold startD at h
    by_cases hi : i < ds.length
    · rw [List.getElem?_append_left (by rw [List.length_map]; exact hi), List.getElem?_map, List.getElem?_eq_getElem hi] at h
      cases h
    · rw [List.getElem?_append_right (by rw [List.length_map]; omega), List.getElem?_replicate] at h
      split at h <;> cases h
  have noOd : ∀ (i : Nat) (o : OD), (startD N ds)[i]? ≠ some (Sl.od o) := fun i o h => by
    unfold startD at h
    by_cases hi : i < ds.length
    · rw [List.getElem?_append_left (by rw [List.length_map]; exact hi), List.getElem?_map, List.getElem?_eq_getElem hi] at h
      cases h
    · rw [List.getElem?_append_right (by rw [List.length_map]; omega), List.getElem?_replicate] at h
      split at h <;> cases h
  refine ⟨?_, fun i x h => ?_, fun i es h => absurd h (noOwn i es), fun i _ es _ _ _ h => absurd h (noOwn i es), d.1, d.2, fun _ h => Bool.noConfusion h, ExtM.refl _ H, rfl, ⟨fun i o h => absurd h (noOd i o), fun i _ o _ _ h => absurd h (noOd i o)⟩, fun _ h => Bool.noConfusion h⟩
  · unfold startD L2.start
    rw [List.length_append, List.length_append, List.length_map, List.length_map, List.length_replicate, List.length_replicate, hl]
  · unfold startD at h
    by_cases hi : i < ds.length
    · rw [List.getElem?_append_left (by rw [List.length_map]; exact hi), List.getElem?_map, List.getElem?_eq_getElem hi] at h
      cases h
      obtain ⟨v, e1, e2⟩ := r.get (List.getElem?_eq_getElem hi)
      refine ⟨v, ?_, ?_⟩
      · unfold L2.start
        rw [List.getElem?_append_left (by rw [List.length_map, ← hl]; exact hi), List.getElem?_map, e1]
        rfl
      · show Rv κ (hide (oor P fun _ => false) H) _ v
        rw [oor_off]
        exact e2
    · rw [List.getElem?_append_right (by rw [List.length_map]; omega), List.getElem?_replicate] at h
      split at h <;> cases h
section
variable {P : Program} {w : World} {K : PySem.W.Frag} {mg : Str → Option Value} {base : Heap}
/-- THE RULE for a def whose arguments and answer are data -/
theorem okD {x qual : Str} {st : Stmt} {f : Addr} {fd : FuncData} {N ps : List Str} {k : Nat} {g : FL} {t : TDS} (F : Fun K x qual st f fd) (S : FnScope N ps (defScope st)) (len : ∀ ds R, g ds R → ds.length = ps.length)
    (hb : ∀ (cdv : Value) (A : Around), A.guards = some [] → ∀ (outer : List PySem.Env) (s : Shared) (H : Hp) (E : XK), Room k (A.deeper (envOfC qual (defScope st) s.heap.objs.size f cdv)) → PSs (cxOf CX0 P w K mg base N qual (defScope st) f cdv A outer s H E).nox (defBody st) (upS ⟨K, P, w⟩ t))
    (hr : ∀ ds R, g ds R → t { nx := fun _ => R (.p .none), rt := R } (startD N ds)) : FnG P w K mg base CX0 (k + 1) f fd ps (spD ⟨K, P, w⟩ g) := by
  refine fnG_of F S (fun vs H Q E ⟨ds, R, P, d, r, h, q⟩ => by rw [← r.len]; exact len ds R h) fun cdv A gd outer s H vs Q E room ⟨ds, R, P', d, r, h, q⟩ => ?_
  refine ⟨_, (hb cdv A gd outer s H E room).nox, startD N ds, _, ⟨H, P', [], [], fun _ => false⟩, _, es_start d r, hr ds R h, ⟨fun δ σ H' L es h' => ?_, fun v H' d' x r' h' => ?_, fun _ _ _ _ _ z => z.elim, fun _ _ _ _ _ z => z.elim, fun _ _ _ _ _ _ _ z => z.elim⟩⟩
  · exact q .non H' (.p .none) (es.ext.ext fun _ => rfl) rfl h'
  · exact q v H' d' (x.ext fun _ => rfl) r' h'
end
end MR

/-! What is walked, targets, for, comprehensions by data. -/
namespace MR
open PySem PySem.Spec PyProof.Rows L2

/-! ### what is walked -/
abbrev TDI := Dn → (List PyData → Prop) → Prop
/-- J walks the data ds, as long as what us hold reads as bs -/
structure ItK (κ : Ky) (J : It) (ds : List PyData) (bs : List DV) (us : List V) : Prop where
  go : ∀ H P' i, Dom P' H → RvA κ (hide P' H) bs us → i < ds.length → J.go i H
  stop : ∀ H P' i, Dom P' H → RvA κ (hide P' H) bs us → ds.length ≤ i → J.stop i H
  yld : ∀ H P' i x H2, Dom P' H → RvA κ (hide P' H) bs us → i < ds.length → J.yld i H x H2 → ∃ y, ds[i]? = some y ∧ Ext H H2 ∧ Rp κ.K (hide P' H2) y x
def upI (κ : Ky) (t : TDI) : TI := fun σ H R => ∃ δ R' c L, ES κ c H L δ σ ∧ t δ R' ∧ ∀ J H' ds bs us, Ext H H' → RvA κ (hide (oor c.P L) H') bs us → ItK κ J ds bs us → R' ds → R J H'
theorem rp_up {K : PySem.W.Frag} {P : Addr → Bool} {H : Hp} {d : PyData} {v : V} (h : Rp K (hide P H) d v) : Rp K H d v := h.ext (hide_ext P H)
theorem itk_list {κ : Ky} {a : Addr} {ds : List PyData} : ItK κ (Itl κ.K a) ds [.p (.list ds)] [.ref a] where
  go := fun H P' i _ r hi => by
    obtain ⟨v, r', e, ⟨a', xs, ev, hq, ha⟩, _⟩ := r
    cases e
    cases ev
    obtain ⟨x, e1, _⟩ := ha.get (List.getElem?_eq_getElem hi)
    exact ⟨xs, x, SqL.of ((hide_ext P' H).lst hq).at_, e1⟩
  stop := fun H P' i _ r hi => by
    obtain ⟨v, r', e, ⟨a', xs, ev, hq, ha⟩, _⟩ := r
    cases e
    cases ev
    exact ⟨xs, SqL.of ((hide_ext P' H).lst hq).at_, by rw [← ha.len]; exact hi⟩
  yld := fun H P' i x H2 _ r hi hy => by
    obtain ⟨v, r', e, ⟨a', xs, ev, hq, ha⟩, _⟩ := r
    cases e
    cases ev
    obtain ⟨rfl, f⟩ := hy
    obtain ⟨y, e1, e2⟩ := ha.back (f xs (SqL.of ((hide_ext P' H2).lst hq).at_))
    exact ⟨y, e1, Ext.refl _, e2⟩
theorem itk_tup {κ : Ky} {a : Addr} {ds : List PyData} : ItK κ (Itt κ.K a) ds [.p (.tuple ds)] [.ref a] where
  go := fun H P' i _ r hi => by
    obtain ⟨v, r', e, ⟨a', xs, ev, hq, ha⟩, _⟩ := r
    cases e
    cases ev
    obtain ⟨x, e1, _⟩ := ha.get (List.getElem?_eq_getElem hi)
    exact ⟨xs, x, (hide_ext P' H).seqT hq, e1⟩
  stop := fun H P' i _ r hi => by
    obtain ⟨v, r', e, ⟨a', xs, ev, hq, ha⟩, _⟩ := r
    cases e
    cases ev
    exact ⟨xs, (hide_ext P' H).seqT hq, by rw [← ha.len]; exact hi⟩
  yld := fun H P' i x H2 _ r hi hy => by
    obtain ⟨v, r', e, ⟨a', xs, ev, hq, ha⟩, _⟩ := r
    cases e
    cases ev
    obtain ⟨rfl, f⟩ := hy
    obtain ⟨y, e1, e2⟩ := ha.back (f xs ((hide_ext P' H2).seqT hq))
    exact ⟨y, e1, Ext.refl _, e2⟩
/-- lo, lo + 1, .. -/
def rngD (lo : Int) (n : Nat) : List PyData := (List.range n).map fun (k : Nat) => .int (lo + (k : Int))
theorem itk_rng {κ : Ky} {lo : Int} {n : Nat} : ItK κ (Itr lo n) (rngD lo n) [] [] where
  go := fun H P' i _ r hi => by
    unfold rngD at hi
    rw [List.length_map, List.length_range] at hi
    exact hi
  stop := fun H P' i _ r hi => by
    unfold rngD at hi
    rw [List.length_map, List.length_range] at hi
    exact hi
  yld := fun H P' i x H2 _ r hi hy => by
    obtain ⟨rfl, rfl⟩ := hy
    unfold rngD at hi ⊢
    rw [List.length_map, List.length_range] at hi
    exact ⟨.int (lo + i), by rw [List.getElem?_map, List.getElem?_range hi]; rfl, Ext.refl _, rfl⟩
/-- a text's signs, each a text -/
def signsD (x : Str) : List PyData := x.cps.toList.map fun c => .str ⟨#[c]⟩
theorem itk_str {κ : Ky} {x : Str} : ItK κ (Its x) (signsD x) [] [] where
  go := fun H P' i _ r hi => by
    unfold signsD at hi
    rw [List.length_map, Array.length_toList] at hi
    exact hi
  stop := fun H P' i _ r hi => by
    unfold signsD at hi
    rw [List.length_map, Array.length_toList] at hi
    exact hi
  yld := fun H P' i y H2 _ r hi hy => by
    obtain ⟨rfl, c, hc, rfl⟩ := hy
    unfold signsD
    exact ⟨.str ⟨#[c]⟩, by rw [List.getElem?_map, Array.getElem?_toList, hc]; rfl, Ext.refl _, rfl⟩
def dItL (te : TD) : TDI := fun δ R => te δ fun d => asL d R
def dItU (te : TD) : TDI := fun δ R => te δ fun d => asU d R
def dItS (te : TD) : TDI := fun δ R => te δ fun d => asS d fun x => R (signsD x)
def dItR1 (ta : TL) : TDI := fun δ R => ta δ fun ds => ∃ j : Int, ds = [.p (.int j)] ∧ -(2 ^ 62) ≤ j ∧ j < 2 ^ 62 ∧ R (rngD 0 j.toNat)
def dItR2 (ta : TL) : TDI := fun δ R => ta δ fun ds => ∃ i j : Int, ds = [.p (.int i), .p (.int j)] ∧ (-(2 ^ 62) ≤ i ∧ i < 2 ^ 62 ∧ -(2 ^ 62) ≤ j ∧ j < 2 ^ 62) ∧ R (rngD i (j - i).toNat)
theorem rvA1 {κ : Ky} {H : Hp} {d : PyData} {vs : List V} (h : RvA κ H [.p d] vs) : ∃ v, vs = [v] ∧ Rp κ.K H d v := by
  obtain ⟨v, r, e, q, t⟩ := h
  have t' : r = [] := t
  subst t'
  exact ⟨v, e, q⟩
theorem rvA2 {κ : Ky} {H : Hp} {d e : PyData} {vs : List V} (h : RvA κ H [.p d, .p e] vs) : ∃ v u, vs = [v, u] ∧ Rp κ.K H d v ∧ Rp κ.K H e u := by
  obtain ⟨v, r, e1, q, t⟩ := h
  obtain ⟨u, e2, q2⟩ := rvA1 t
  subst e2
  exact ⟨v, u, e1, q, q2⟩
section
variable {X : Cx} {tg e : Expr} {te : TD}
theorem di_list (he : PE X e (up (Cx.ky X) te)) : PI X tg e (upI (Cx.ky X) (dItL te)) := by
  refine PI.imp (pi_list he) fun σ H R ⟨δ, R', c, L, es, h, k⟩ => ⟨δ, _, c, L, es, h, fun v H1 d x1 r1 h1 => ?_⟩
  obtain ⟨ds, rfl, h2⟩ := asL_of h1
  obtain ⟨a, xs, e, q, ra⟩ := id r1
  subst e
  exact ⟨a, rfl, ⟨xs, SqL.of ((hide_ext _ _).lst q).at_⟩, k _ H1 ds [.p (.list ds)] [.ref a] x1 ⟨_, [], rfl, r1, rfl⟩ itk_list h2⟩
theorem di_tup (he : PE X e (up (Cx.ky X) te)) : PI X tg e (upI (Cx.ky X) (dItU te)) := by
  refine PI.imp (pi_tup he) fun σ H R ⟨δ, R', c, L, es, h, k⟩ => ⟨δ, _, c, L, es, h, fun v H1 d x1 r1 h1 => ?_⟩
  obtain ⟨ds, rfl, h2⟩ := asU_of h1
  obtain ⟨a, xs, e, q, ra⟩ := id r1
  subst e
  exact ⟨a, rfl, ⟨xs, (hide_ext _ _).seqT q⟩, k _ H1 ds [.p (.tuple ds)] [.ref a] x1 ⟨_, [], rfl, r1, rfl⟩ itk_tup h2⟩
theorem di_str (he : PE X e (up (Cx.ky X) te)) : PI X tg e (upI (Cx.ky X) (dItS te)) := by
  refine PI.imp (pi_str he) fun σ H R ⟨δ, R', c, L, es, h, k⟩ => ⟨δ, _, c, L, es, h, fun v H1 d x1 r1 h1 => ?_⟩
  obtain ⟨x, rfl, h2⟩ := asS_of h1
  exact ⟨x, r1, k _ H1 (signsD x) [] [] x1 rfl itk_str h2⟩
theorem di_rng1 {a : Expr} {ta : TL} {p pos : Pos} (hg : Gl X "range") (hm : X.mg "range" = none) (ha : PA X [a] (upA (Cx.ky X) ta)) (hs : starEach [a] X.env = [(false, eval a X.env)] := by rfl) : PI X tg (.Call (.Name "range" p) [a] [] pos) (upI (Cx.ky X) (dItR1 ta)) := by
  refine PI.imp (pi_range1 hg hm ha hs) fun σ H R ⟨δ, R', c, L, es, h, k⟩ => ⟨δ, _, c, L, es, h, fun vs H1 ds x1 r1 h1 => ?_⟩
  obtain ⟨j, rfl, b1, b2, h2⟩ := h1
  obtain ⟨v, rfl, rv⟩ := rvA1 r1
  exact ⟨j, by rw [show v = .int j from rv], b1, b2, k _ H1 (rngD 0 j.toNat) [] [] x1 rfl itk_rng h2⟩
theorem di_rng2 {a b : Expr} {ta : TL} {p pos : Pos} (hg : Gl X "range") (hm : X.mg "range" = none) (ha : PA X [a, b] (upA (Cx.ky X) ta)) (hs : starEach [a, b] X.env = [(false, eval a X.env), (false, eval b X.env)] := by rfl) (hs2 : starEach [b] X.env = [(false, eval b X.env)] := by rfl) :
    PI X tg (.Call (.Name "range" p) [a, b] [] pos) (upI (Cx.ky X) (dItR2 ta)) := by
  refine PI.imp (pi_range2 hg hm ha hs hs2) fun σ H R ⟨δ, R', c, L, es, h, k⟩ => ⟨δ, _, c, L, es, h, fun vs H1 ds x1 r1 h1 => ?_⟩
  obtain ⟨i, j, rfl, b1, h2⟩ := h1
  obtain ⟨v, u, rfl, rv, ru⟩ := rvA2 r1
  exact ⟨i, j, by rw [show v = .int i from rv, show u = .int j from ru], b1, k _ H1 (rngD i (j - i).toNat) [] [] x1 rfl itk_rng h2⟩
end

/-! ### targets -/
abbrev TDG := DV → Dn → (Dn → Prop) → Prop
abbrev TDGs := List PyData → Dn → (Dn → Prop) → Prop
def upG (κ : Ky) (vs : List Nat) (g : TDG) : TG := fun v σ H Q => ∃ d δ N c L, ES κ c H L δ σ ∧ Rv κ (hide (oor c.P L) H) d v ∧ g d δ N ∧ ∀ δ' σ', ES κ c H L δ' σ' → wipe σ' vs = wipe σ vs → N δ' → Q σ' H
def upGs (κ : Ky) (vs : List Nat) (g : TDGs) : TGs := fun us σ H Q => ∃ ds δ N c L, ES κ c H L δ σ ∧ RpA κ.K (hide (oor c.P L) H) ds us ∧ g ds δ N ∧ ∀ δ' σ', ES κ c H L δ' σ' → wipe σ' vs = wipe σ vs → N δ' → Q σ' H
def gdName (i : Nat) : TDG := fun d δ N => N (δ.set i (.v d))
def gdNil : TDGs := fun ds δ N => ds = [] ∧ N δ
def gdCons (g : TDG) (u : TDGs) : TDGs := fun ds δ N => ∃ d r, ds = d :: r ∧ g (.p d) δ fun δ' => u r δ' N
def gdTup (n : Nat) (u : TDGs) : TDG := fun d δ N => asU d fun ds => ds.length = n ∧ u ds δ N
theorem wipe_in {σ : Sg} {o : Option V} {i : Nat} : ∀ {vs : List Nat}, i ∈ vs → wipe (σ.set i o) vs = wipe σ vs
  | [], h => by cases h
  | v :: vs, h => by
    unfold wipe
    by_cases hi : i ∈ vs
    · rw [wipe_in hi]
    · have e : i = v := (List.mem_cons.mp h).resolve_right hi
      subst e
      apply List.ext_getElem?
      intro j
      by_cases hj : j = i
      · subst hj
        by_cases hl : j < σ.length
        · rw [List.getElem?_set_self (by rw [wipe_length, List.length_set]; exact hl), List.getElem?_set_self (by rw [wipe_length]; exact hl)]
        · rw [List.getElem?_eq_none (by rw [List.length_set, wipe_length, List.length_set]; omega), List.getElem?_eq_none (by rw [List.length_set, wipe_length]; omega)]
      · rw [List.getElem?_set_ne (Ne.symm hj), List.getElem?_set_ne (Ne.symm hj)]
        by_cases hm : j ∈ vs
        · have none_at : ∀ (τ : Sg) (ws : List Nat), j ∈ ws → (wipe τ ws)[j]? = (τ[j]?).map fun _ => Option.none := by
            intro τ ws
            induction ws with
            | nil => intro z; cases z
            | cons w ws ih =>
              intro z
              unfold wipe
              by_cases hw : j = w
              · subst hw
                by_cases hl : j < τ.length
                · rw [List.getElem?_set_self (by rw [wipe_length]; exact hl), List.getElem?_eq_getElem hl]
                  rfl
                · rw [List.getElem?_eq_none (by rw [List.length_set, wipe_length]; omega), List.getElem?_eq_none (by omega)]
                  rfl
              · rw [List.getElem?_set_ne (Ne.symm hw)]
                exact ih ((List.mem_cons.mp z).resolve_left hw)
          rw [none_at _ _ hm, none_at _ _ hm, List.getElem?_set_ne (Ne.symm hj)]
        · rw [wipe_out hm, wipe_out hm, List.getElem?_set_ne (Ne.symm hj)]
section
variable {X : Cx} {pos : Pos} {vs : List Nat}
theorem dg_name {i : Nat} {x : Str} (hv : i ∈ vs) (hN : X.N.Nodup) (hi : X.N[i]? = some x) (hx : Loc X.env.scope x) (hf : X.fn x = true ∨ X.env.scope.names.lookup x = some .local := by first | exact .inl rfl | exact .inr rfl | assumption) : PG X (.Name x pos) (upG (Cx.ky X) vs (gdName i)) :=
  ⟨fun pins s σ H v u Q I r ⟨d, δ, N, c, L, es, rv, h, k⟩ => (pg_name hN hi hx hf).run pins s σ H v u Q I r (k _ _ (es.set rv) (wipe_in hv) h)⟩
theorem dgs_nil : PGs X [] (upGs (Cx.ky X) vs gdNil) :=
  ⟨fun pins s σ H us ws Q I r ⟨ds, δ, N, c, L, es, rv, ⟨e, h⟩, k⟩ => pgs_nil.run pins s σ H us ws Q I r ⟨by subst e; exact rv, k δ σ es rfl h⟩⟩
theorem dgs_cons {e : Expr} {es : List Expr} {g : TDG} {u : TDGs} (h1 : PG X e (upG (Cx.ky X) vs g)) (h2 : PGs X es (upGs (Cx.ky X) vs u))
    (hs : (assignEach (e :: es) X.env).map (·.2) = assign e X.env :: (assignEach es X.env).map (·.2) := by rfl) : PGs X (e :: es) (upGs (Cx.ky X) vs (gdCons g u)) := by
  refine ⟨fun pins s σ H us ws Q I r ⟨ds, δ, N, c, L, es, rv, ⟨d, q, e, h⟩, k⟩ => (pgs_cons h1 h2 hs).run pins s σ H us ws Q I r ?_⟩
  subst e
  obtain ⟨v, vr, e1, rd, rq⟩ := rv
  exact ⟨v, vr, e1, ⟨.p d, δ, _, c, L, es, rd, h, fun δ' σ' es' ew h' => ⟨q, δ', N, c, L, es', rq, h', fun δ2 σ2 es2 ew2 h2 => k δ2 σ2 es2 (ew2.trans ew) h2⟩⟩⟩
theorem dg_tup {es : List Expr} {k : Nat} {u : TDGs} {n : Nat} (hc : X.calm = true) (h : PGs X es (upGs (Cx.ky X) vs u))
    (hn : (assignEach es X.env).length = n := by rfl) (hst : (assignEach es X.env).findIdx? (·.1) = none := by rfl) : PG X (.Tuple es k pos) (upG (Cx.ky X) vs (gdTup n u)) := by
  refine ⟨fun pins s σ H v w Q I r ⟨d, δ, N, c, L, es, rv, h1, k1⟩ => (pg_tup hc h hn hst).run pins s σ H v w Q I r ?_⟩
  obtain ⟨ds, rfl, hl, h2⟩ := asU_of h1
  obtain ⟨a, xs, e, q, ra⟩ := rv
  exact ⟨a, xs, e, (hide_ext _ _).seqT q, by rw [← ra.len]; exact hl, ⟨ds, δ, N, c, L, es, ra, h2, k1⟩⟩
def dAsg (t : TD) (g : TDG) : TDS := fun E δ => t δ fun d => g d δ E.nx
theorem ds_asg {tg e : Expr} {te : TD} {g : TDG} (he : PE X e (up (Cx.ky X) te)) (hg : PG X tg (upG (Cx.ky X) vs g)) (hs : swapsWithSole [tg] e pos.line X.env = pure false := by rfl) (hw : swappedStores [tg] e X.env = pure none := by rfl)
    (h1 : (assignEach [tg] X.env).map (·.2) = [assign tg X.env] := by rfl) : PS X (.Assign [tg] e pos) (upS (Cx.ky X) (dAsg te g)) :=
  PS.imp (ps_asg he hg hs hw h1) fun D σ H ⟨δ, E, c, L, es, h, f⟩ => ⟨δ, _, c, L, es, h, fun v H1 d x1 r1 h1 => ⟨d, δ, _, c, L, es.on x1, r1, h1, fun δ' σ' es' _ h' => f.nx δ' σ' H1 L es' h'⟩⟩
end

/-! ### for -/
def forL (E : DE) (g : TDG) (tb : TDS) : List PyData → Dn → Prop
  | [], δ => E.nx δ
  | d :: r, δ => g (.p d) δ fun δ' => tb { E with nx := forL E g tb r, ct := forL E g tb r, bk := E.nx } δ'
def dFor (ti : TDI) (g : TDG) (tb : TDS) : TDS := fun E δ => ti δ fun ds => forL E g tb ds δ
theorem ES.more {κ : Ky} {c : Sc} {H : Hp} {L : Addr → Bool} {δ : Dn} {σ : Sg} {bs : List DV} {us : List V} (s : ES κ c H L δ σ) (r : RvA κ (hide (oor c.P L) H) bs us) : ES κ { c with bs := bs ++ c.bs, us := us ++ c.us } H L δ σ :=
  ⟨s.len, s.val, s.own, s.sep, s.psys, s.pdom, s.ldom, s.ext, RvA.app r s.kept, s.ods, s.mp⟩
theorem ES.less {κ : Ky} {c : Sc} {H : Hp} {L : Addr → Bool} {δ : Dn} {σ : Sg} {bs : List DV} {us : List V} (hl : bs.length = us.length) (s : ES κ { c with bs := bs ++ c.bs, us := us ++ c.us } H L δ σ) : ES κ c H L δ σ ∧ RvA κ (hide (oor c.P L) H) bs us :=
  have q := RvA.split hl s.kept
  ⟨⟨s.len, s.val, s.own, s.sep, s.psys, s.pdom, s.ldom, s.ext, q.2, s.ods, s.mp⟩, q.1⟩
section
variable {X : Cx} {pos : Pos} {vs : List Nat}
theorem ds_for {tg iter : Expr} {body : List Stmt} {ti : TDI} {g : TDG} {tb : TDS} (hp : PassesOwn (model X.prog X.w) X.A X.env X.xe) (hc : X.calm = true) (hi : PI X tg iter (upI (Cx.ky X) ti)) (hg : PG X tg (upG (Cx.ky X) vs g)) (hb : PSs X body (upS (Cx.ky X) tb))
    (hs : ∀ x, foldedSetIterable iter X.env x = pure x := by intro _; rfl) : PS X (.For tg iter body [] pos) (upS (Cx.ky X) (dFor ti g tb)) := by
  refine PS.imp (ps_for hp hc hi hg hb hs) fun D σ H ⟨δ, E, c, L, es, h, f⟩ => ⟨δ, _, c, L, es, h, fun J H1 ds bs us x1 kb itk h1 => ?_⟩
  have hl := kb.len
  refine ⟨fun i m σ' H' => i + m = ds.length ∧ ∃ δ' L', ES (Cx.ky X) { c with bs := bs ++ c.bs, us := us ++ c.us } H' L' δ' σ' ∧ forL E g tb (ds.drop i) δ', ⟨ds.length, by omega, δ, L, (es.on x1).more kb, h1⟩, fun i m σ' H' ⟨em, δ', L', es', h'⟩ => ?_⟩
  obtain ⟨es2, kb2⟩ := es'.less hl
  by_cases hi' : i < ds.length
  · rw [List.drop_eq_getElem_cons hi'] at h'
    refine .inr ⟨itk.go H' _ i es2.dom kb2 hi', fun σ2 H2 => ∃ δ2 L2, ES (Cx.ky X) { c with bs := bs ++ c.bs, us := us ++ c.us } H2 L2 δ2 σ2 ∧ forL E g tb (ds.drop (i + 1)) δ2, fun σ2 H2 ⟨δ2, L2, e2, q2⟩ => ⟨m - 1, by omega, by omega, δ2, L2, e2, q2⟩, fun x H2 hy => ?_⟩
    obtain ⟨y, ey, x2, ry⟩ := itk.yld H' _ i x H2 es2.dom kb2 hi' hy
    rw [List.getElem?_eq_getElem hi'] at ey
    cases ey
    refine ⟨.p ds[i], δ', _, _, L', es'.on x2, ry, h', fun δ3 σ3 es3 _ h3 => ⟨δ3, _, _, L', es3, h3, ⟨fun δ4 σ4 H4 L4 e4 q4 => ⟨δ4, L4, e4, q4⟩, fun v H4 d x4 r4 q4 => f.rt v H4 d x4 r4 q4, fun δ4 σ4 H4 L4 e4 q4 => f.nx δ4 σ4 H4 L4 (e4.less hl).1 q4, fun δ4 σ4 H4 L4 e4 q4 => ⟨δ4, L4, e4, q4⟩, fun o δ4 σ4 H4 L4 e4 i4 q4 => f.ro o δ4 σ4 H4 L4 (e4.less hl).1 i4 q4⟩⟩⟩
  · rw [List.drop_eq_nil_of_le (by omega)] at h'
    exact .inl ⟨itk.stop H' _ i es2.dom kb2 (by omega), f.nx δ' σ' H' L' es2 h'⟩
end

/-! ### comprehensions -/
def wipeD (δ : Dn) : List Nat → Dn
  | [] => δ
  | v :: vs => (wipeD δ vs).set v .un
theorem ES.wipe {κ : Ky} {c : Sc} {H : Hp} {L : Addr → Bool} {δ : Dn} {σ : Sg} (s : ES κ c H L δ σ) : ∀ vs : List Nat, ES κ c H L (wipeD δ vs) (L2.wipe σ vs)
  | [] => s
  | v :: vs => (ES.wipe s vs).wipe1 v none
def dYes : TB := fun _ R => R true
def lcL (g : TDG) (tt : TB) (te : TD) (δ : Dn) (fin : List PyData → Prop) : List PyData → List PyData → Prop
  | [], acc => fin acc
  | d :: r, acc => g (.p d) δ fun δ2 => tt δ2 fun b => if b = true then te δ2 fun y => asP y fun z => nP (acc ++ [z]) = true ∧ lcL g tt te δ fin r (acc ++ [z]) else lcL g tt te δ fin r acc
def dLc (ti : TDI) (g : TDG) (tt : TB) (te : TD) (vs : List Nat) : TD := fun δ R => ti δ fun ds => ds.length ≤ sizeLine ∧ lcL g tt te (wipeD δ vs) (fun acc => R (.p (.list acc))) ds []
def plus (L : Addr → Bool) (D : Addr) : Addr → Bool := fun b => L b || decide (b = D)
theorem plus_of {L : Addr → Bool} {D a : Addr} (h : L a = true) : plus L D a = true := by unfold plus; rw [h]; rfl
theorem plus_at {L : Addr → Bool} {D : Addr} : plus L D D = true := by unfold plus; rw [decide_eq_true rfl, Bool.or_true]
theorem plus_ne {L : Addr → Bool} {D a : Addr} (h : a ≠ D) : plus L D a = L a := by unfold plus; rw [decide_eq_false h, Bool.or_false]
theorem oor_plus {P L : Addr → Bool} {D : Addr} : oor P (plus L D) D = true := by unfold oor; rw [plus_at, Bool.or_true]
theorem oor_ne {P L : Addr → Bool} {D a : Addr} (h : a ≠ D) : oor P (plus L D) a = oor P L a := by unfold oor; rw [plus_ne h]
theorem hide_same {P : Addr → Bool} {H : Hp} {a : Addr} {o : HO} (h : P a = true) : hide P (upd H a o) = hide P H := funext fun b => by
  unfold hide
  by_cases hb : b = a
  · rw [hb, h]
    rfl
  · split
    · rfl
    · rw [upd_ne hb]
theorem up_lc {κ : Ky} {ti : TDI} {g : TDG} {tt : TB} {te : TD} {vs : List Nat} {σ : Sg} {H : Hp} {Q : VK} (h : up κ (dLc ti g tt te vs) σ H Q) : tLc (upI κ ti) (upG κ vs g) (upT κ tt) (up κ te) vs σ H Q := by
  obtain ⟨δ, R, c, L, es, h, k⟩ := h
  refine ⟨δ, _, c, L, es, h, fun J H1 ds bs us x1 kb itk ⟨hz, h1⟩ D nD => ?_⟩
  have hl := kb.len
  have LD : L D = false := by
    cases q : L D with
    | false => rfl
    | true => exact absurd nD ((es.on x1).ldom D q).1
  have HD : H D = none := x1.none nD
  have H0D : c.H0 D = none := es.ext.none HD
  have PD : c.P D = false := by
    cases q : c.P D with
    | false => rfl
    | true => exact absurd H0D (es.pdom D q)
  -- the private lists, the new one besides
  have hsub : ∀ a, oor c.P L a = true → oor c.P (plus L D) a = true := fun a q => by
    unfold oor at q ⊢
    rw [Bool.or_eq_true] at q ⊢
    rcases q with q | q
    · exact .inl q
    · exact .inr (plus_of q)
  have xD : Ext (hide (oor c.P L) H1) (hide (oor c.P (plus L D)) (upd H1 D (.lst []))) := fun a o e => by
    unfold hide at e ⊢
    split at e
    · cases e
    · rename_i n
      have ne : a ≠ D := ne_of_none e nD
      rw [oor_ne ne, if_neg n, upd_ne ne]
      exact .inl e
  have ownD : ∀ (i : Nat) (xs : List PyData) (a : Addr), δ[i]? = some (Sl.own xs) → σ[i]? = some (some (V.ref a)) → a ≠ D := fun i xs a e1 e2 e3 => by
    obtain ⟨b, ys, q1, q2, q3, _⟩ := es.own i xs e1
    rw [e2] at q1
    cases q1
    rw [e3] at q2
    rw [q2] at LD
    cases LD
  have fresh : ∀ {Hc : Hp} {o : HO}, (∃ ys, Hc D = some (.lst ys)) → ES κ { c with bs := bs ++ c.bs, us := us ++ c.us } Hc (plus L D) δ σ → ES κ { c with bs := bs ++ c.bs, us := us ++ c.us } (upd Hc D o) (plus L D) δ σ := fun {Hc o} ⟨ys, hD⟩ s => by
    have eD : oor c.P (plus L D) D = true := oor_plus
    have eh : hide (oor c.P (plus L D)) (upd Hc D o) = hide (oor c.P (plus L D)) Hc := hide_same eD
    refine ⟨s.len, fun i d e => ?_, fun i xs e => ?_, s.sep, s.psys, s.pdom, fun a e => ⟨?_, (s.ldom a e).2⟩, fun a o' e => ?_, ?_, ?_, s.mp⟩
    · show ∃ v, _ ∧ Rv κ (hide (oor c.P (plus L D)) (upd Hc D o)) d v
      rw [eh]
      exact s.val i d e
    · obtain ⟨a, ys, q1, q2, q3, q4⟩ := s.own i xs e
      refine ⟨a, ys, q1, q2, ⟨by rw [upd_ne (ownD i xs a e q1)]; exact q3.at_, q3.np⟩, ?_⟩
      show RpA κ.K (hide (oor c.P (plus L D)) (upd Hc D o)) xs ys
      rw [eh]
      exact q4
    · by_cases ha : a = D
      · rw [ha, upd_same]
        exact Option.some_ne_none _
      · rw [upd_ne ha]
        exact (s.ldom a e).1
    · rw [upd_ne (ne_of_none e H0D)]
      exact s.ext a o' e
    · show RvA κ (hide (oor c.P (plus L D)) (upd Hc D o)) _ _
      rw [eh]
      exact s.kept
    · refine s.ods.mono (fun _ _ e => ⟨e, rfl⟩) (fun b u l h k => ⟨l, ?_⟩) ?_
      · rw [upd_ne (fun z => by rw [z, hD] at h; cases h; exact k)]
        exact h
      · show Ext _ (hide (oor c.P (plus L D)) (upd Hc D o))
        rw [eh]
        exact Ext.refl _
  have s0 : ES κ { c with bs := bs ++ c.bs, us := us ++ c.us } (upd H1 D (.lst [])) (plus L D) δ σ := by
    have s := (es.on x1).more kb
    refine ⟨s.len, fun i d e => ?_, fun i xs e => ?_, s.sep, s.psys, s.pdom, fun a e => ?_, s.ext.trans (Ext.new nD), s.kept.ext xD, s.ods.mono (fun _ _ e => ⟨e, rfl⟩) (fun b u l h _ => ⟨plus_of l, by rw [upd_ne (fun z => by rw [z] at l; rw [LD] at l; cases l)]; exact h⟩) xD, s.mp⟩
    · obtain ⟨v, q1, q2⟩ := s.val i d e
      exact ⟨v, q1, q2.ext xD⟩
    · obtain ⟨a, ys, q1, q2, q3, q4⟩ := s.own i xs e
      exact ⟨a, ys, q1, plus_of q2, ⟨by rw [upd_ne (ownD i xs a e q1)]; exact q3.at_, q3.np⟩, q4.ext xD⟩
    · by_cases ha : a = D
      · rw [ha, upd_same]
        exact ⟨Option.some_ne_none _, .inl H0D⟩
      · rw [plus_ne ha] at e
        rw [upd_ne ha]
        exact s.ldom a e
  refine ⟨fun i m Hc => i + m = ds.length ∧ ∃ accD acc, ES κ { c with bs := bs ++ c.bs, us := us ++ c.us } Hc (plus L D) δ σ ∧ Ext H Hc ∧ LstAt Hc D acc ∧ RpA κ.K (hide (oor c.P (plus L D)) Hc) accD acc ∧ accD.length ≤ i ∧ lcL g tt te (wipeD δ vs) (fun acc => R (.p (.list acc))) (ds.drop i) accD,
    ⟨ds.length, by omega, [], [], s0, x1.trans (Ext.new nD), ⟨upd_same, trivial⟩, rfl, Nat.le_refl 0, h1⟩, fun i m Hc ⟨em, accD, acc, s, xc, eD, ra, hlen, hh⟩ => ?_⟩
  obtain ⟨s2, kb2⟩ := s.less hl
  by_cases hi : i < ds.length
  · rw [List.drop_eq_getElem_cons hi] at hh
    refine .inr ⟨itk.go Hc _ i s2.dom kb2 hi, fun H' => ∃ accD acc, ES κ { c with bs := bs ++ c.bs, us := us ++ c.us } H' (plus L D) δ σ ∧ Ext H H' ∧ LstAt H' D acc ∧ RpA κ.K (hide (oor c.P (plus L D)) H') accD acc ∧ accD.length ≤ i + 1 ∧ lcL g tt te (wipeD δ vs) (fun acc => R (.p (.list acc))) (ds.drop (i + 1)) accD,
      fun H' ⟨accD, acc, a1, a2, a3, a4, a5, a6⟩ => ⟨m - 1, by omega, by omega, accD, acc, a1, a2, a3, a4, a5, a6⟩, fun x H2 hy => ?_⟩
    obtain ⟨y, ey, x2, ry⟩ := itk.yld Hc _ i x H2 s2.dom kb2 hi hy
    rw [List.getElem?_eq_getElem hi] at ey
    cases ey
    refine ⟨.p ds[i], wipeD δ vs, _, _, _, (s.on x2).wipe vs, ry, hh, fun δ3 σ3 s3 ew h3 => ⟨?_, ⟨δ3, _, _, _, s3, h3, fun b H3 x3 h4 => ?_⟩⟩⟩
    · rw [ew]
      apply List.ext_getElem?
      intro j
      have two : ∀ (ws : List Nat) (τ : Sg), (∀ v ∈ ws, v ∈ vs) → L2.wipe (L2.wipe τ vs) ws = L2.wipe τ vs := by
        intro ws
        induction ws with
        | nil => intro τ _; rfl
        | cons w ws ih =>
          intro τ hw
          show (L2.wipe (L2.wipe τ vs) ws).set w none = L2.wipe τ vs
          rw [ih τ fun v hv => hw v (List.mem_cons_of_mem _ hv)]
          have hwv := hw w List.mem_cons_self
          apply List.ext_getElem?
          intro j
          by_cases hj : j = w
          · subst hj
            by_cases hlt : j < τ.length
            · rw [List.getElem?_set_self (by rw [wipe_length]; exact hlt), List.getElem?_eq_getElem (by rw [wipe_length]; exact hlt)]
              cases e : (L2.wipe τ vs)[j]'(by rw [wipe_length]; exact hlt) with
              | none => rfl
              | some v =>
                have q := wipe_some (σ := τ) (vs := vs) (i := j) (x := v) (by rw [List.getElem?_eq_getElem (by rw [wipe_length]; exact hlt), e])
                exact absurd hwv q.2
            · rw [List.getElem?_eq_none (by rw [List.length_set, wipe_length]; omega), List.getElem?_eq_none (by rw [wipe_length]; omega)]
          · rw [List.getElem?_set_ne (Ne.symm hj)]
      rw [two vs σ fun _ h => h]
    · have done : ∀ {H' : Hp}, Ext H2 H' → lcL g tt te (wipeD δ vs) (fun acc => R (.p (.list acc))) (ds.drop (i + 1)) accD → ∃ accD acc, ES κ { c with bs := bs ++ c.bs, us := us ++ c.us } H' (plus L D) δ σ ∧ Ext H H' ∧ LstAt H' D acc ∧ RpA κ.K (hide (oor c.P (plus L D)) H') accD acc ∧ accD.length ≤ i + 1 ∧ lcL g tt te (wipeD δ vs) (fun acc => R (.p (.list acc))) (ds.drop (i + 1)) accD :=
        fun {H'} x h => ⟨accD, acc, s.on (x2.trans x), xc.trans (x2.trans x), (x2.trans x).lst eD, ra.ext ((x2.trans x).hide _), Nat.le_succ_of_le hlen, h⟩
      cases b with
      | false => exact done x3 h4
      | true =>
        show up κ te σ3 H3 _
        refine ⟨δ3, _, _, _, s3.on x3, h4, fun v H4 d x4 r4 h5 => ?_⟩
        obtain ⟨z, rfl, hnp, h6⟩ := asP_of h5
        have xx := x2.trans (x3.trans x4)
        have rr : RpA κ.K (hide (oor c.P (plus L D)) H4) (accD ++ [z]) (acc ++ [v]) := RpA.app (ra.ext (xx.hide _)) ⟨v, [], rfl, r4, rfl⟩
        refine ⟨acc, (xx.lst eD).at_, by rw [← ra.len]; omega, accD ++ [z], acc ++ [v], fresh ⟨_, (xx.lst eD).at_⟩ (s.on xx), fun a o e => ?_, ⟨upd_same, noP_of rr hnp⟩, ?_, by rw [List.length_append, List.length_singleton]; omega, h6⟩
        · have ne : a ≠ D := ne_of_none e HD
          rw [upd_ne ne]
          exact (xc.trans xx) a o e
        · rw [hide_same oor_plus]
          exact RpA.app (ra.ext (xx.hide _)) ⟨v, [], rfl, r4, rfl⟩
  · rw [List.drop_eq_nil_of_le (by omega)] at hh
    refine .inl ⟨itk.stop Hc _ i s2.dom kb2 (by omega), k (.ref D) Hc (.p (.list accD)) xc ⟨D, acc, rfl, ?_, ra.ext (hide_less Hc hsub)⟩ hh⟩
    exact ⟨by rw [hide_at (by unfold oor; rw [PD, LD]; rfl)]; exact eD.at_, eD.np⟩
section
variable {X : Cx} {elt tg iter : Expr} {ifs : List Expr} {scope : Scope} {own : List (Str × Nat)} {pos : Pos} {ti : TDI} {g : TDG} {tt : TB} {te : TD}
theorem dts_nil : PTs X [] (upT (Cx.ky X) dYes) := ⟨fun pins s σ H Q I ⟨δ, R, c, L, es, h, k⟩ => pts_nil.run pins s σ H Q I (k true H (Ext.refl H) h)⟩
theorem dts_one {c : Expr} {t : TB} (h : PT X c (upT (Cx.ky X) t)) : PTs X [c] (upT (Cx.ky X) t) := pts_one h
theorem de_lc (hc : X.calm = true) (hN : X.N.Nodup) (hi : PI X tg iter (upI (Cx.ky X) ti)) (ok : BlkOk X.N X.env.scope scope own)
    (hg : ∀ (s : Shared) (H : Hp) (C : Addr) (cl : List (Str × Addr)) (fp : List Addr), PG (X.blk s H scope (compEnvC scope cl C X.env) fp) tg (upG (Cx.ky X) (own.map (·.2)) g)) (ht : ∀ (s : Shared) (H : Hp) (C : Addr) (cl : List (Str × Addr)) (fp : List Addr), PTs (X.blk s H scope (compEnvC scope cl C X.env) fp) ifs (upT (Cx.ky X) tt))
    (he : ∀ (s : Shared) (H : Hp) (C : Addr) (cl : List (Str × Addr)) (fp : List Addr), PE (X.blk s H scope (compEnvC scope cl C X.env) fp) elt (up (Cx.ky X) te)) (hs : ∀ x, foldedSetIterable iter X.env x = pure x := by intro _; rfl) :
    PE X (.ListComp elt [⟨tg, iter, ifs, 0⟩] scope pos) (up (Cx.ky X) (dLc ti g tt te (own.map (·.2)))) := PE.imp (pe_lc hc hN hi ok hg ht he hs) fun _ _ _ h => up_lc h
theorem ds_setLc {i : Nat} {y : Str} {py spos : Pos} (hc : X.calm = true) (hN : X.N.Nodup) (hy : X.N[i]? = some y) (hyl : X.env.scope.names.lookup y = some .local)
    (hsw : swapsWith (.ListComp elt [⟨tg, iter, ifs, 0⟩] scope pos) (some (.Name y py)) spos.line X.env = pure true) (hi : PI X tg iter (upI (Cx.ky X) ti)) (ok : BlkOk X.N X.env.scope scope own)
    (hg : ∀ (s : Shared) (H : Hp) (C : Addr) (cl : List (Str × Addr)) (fp : List Addr), PG (X.blk s H scope (compEnvC scope cl C X.env) fp) tg (upG (Cx.ky X) (own.map (·.2)) g)) (ht : ∀ (s : Shared) (H : Hp) (C : Addr) (cl : List (Str × Addr)) (fp : List Addr), PTs (X.blk s H scope (compEnvC scope cl C X.env) fp) ifs (upT (Cx.ky X) tt))
    (he : ∀ (s : Shared) (H : Hp) (C : Addr) (cl : List (Str × Addr)) (fp : List Addr), PE (X.blk s H scope (compEnvC scope cl C X.env) fp) elt (up (Cx.ky X) te)) (hs : ∀ x, foldedSetIterable iter X.env x = pure x := by intro _; rfl) :
    PS X (.Assign [.Name y py] (.ListComp elt [⟨tg, iter, ifs, 0⟩] scope pos) spos) (upS (Cx.ky X) (dSet i (dLc ti g tt te (own.map (·.2))))) := by
  refine PS.imp (ps_setLc hc hN hy hyl hsw hi ok hg ht he hs) fun D σ H ⟨δ, E, c, L, es, h, f⟩ => ?_
  exact up_lc ⟨δ, _, c, L, es, h, fun v H1 d x1 r1 h1 => f.nx _ _ H1 L ((es.on x1).set r1) h1⟩
end
end MR

/-! Operations, built-ins, subscripts, displays by data. -/
namespace MR
open PySem PySem.Spec PyProof.Rows L2

/-- a new object -/
theorem fresh_at {P : Addr → Bool} {H : Hp} {p : Addr} {o : HO} (d : Dom P H) (h : H p = none) : hide P (upd H p o) p = some o := hide_new d h
theorem new_lst {κ : Ky} {P : Addr → Bool} {H : Hp} {p : Addr} {ds : List PyData} {xs : List V} (d : Dom P H) (h : H p = none) (r : RpA κ.K (hide P H) ds xs) (np : nP ds = true) : Rv κ (hide P (upd H p (.lst xs))) (.p (.list ds)) (.ref p) :=
  ⟨p, xs, rfl, ⟨fresh_at d h, noP_of r np⟩, r.ext ((Ext.new h).hide P)⟩
theorem new_tup {κ : Ky} {P : Addr → Bool} {H : Hp} {p : Addr} {ds : List PyData} {xs : List V} (d : Dom P H) (h : H p = none) (r : RpA κ.K (hide P H) ds xs) : Rv κ (hide P (upd H p (.tup xs))) (.p (.tuple ds)) (.ref p) :=
  ⟨p, xs, rfl, SqT.of (fresh_at d h), r.ext ((Ext.new h).hide P)⟩

/-! ### + -/
def fAdd : F2 := fun d e R => match d, e with
  | .p (.int i), .p (.int j) => R (.p (.int (i + j)))
  | .p (.str x), .p (.str y) => x.length + y.length ≤ sizeLine ∧ R (.p (.str (x ++ y)))
  | .p (.list xs), .p (.list ys) => xs.length + ys.length ≤ sizeLine ∧ nP (xs ++ ys) = true ∧ R (.p (.list (xs ++ ys)))
  | .p (.tuple xs), .p (.tuple ys) => xs.length + ys.length ≤ sizeLine ∧ R (.p (.tuple (xs ++ ys)))
  | _, _ => False
inductive AddK (R : DV → Prop) : DV → DV → Prop
  | int (i j : Int) (h : R (.p (.int (i + j)))) : AddK R (.p (.int i)) (.p (.int j))
  | str (x y : Str) (z : x.length + y.length ≤ sizeLine) (h : R (.p (.str (x ++ y)))) : AddK R (.p (.str x)) (.p (.str y))
  | lst (x y : List PyData) (z : x.length + y.length ≤ sizeLine) (np : nP (x ++ y) = true) (h : R (.p (.list (x ++ y)))) : AddK R (.p (.list x)) (.p (.list y))
  | tup (x y : List PyData) (z : x.length + y.length ≤ sizeLine) (h : R (.p (.tuple (x ++ y)))) : AddK R (.p (.tuple x)) (.p (.tuple y))
theorem addK {d e : DV} {R : DV → Prop} (h : fAdd d e R) : AddK R d e := by
  cases d with
  | p x => cases e with
    | p y => cases x <;> cases y <;> first
        | exact h.elim
        | exact .int _ _ h
        | exact .str _ _ h.1 h.2
        | exact .lst _ _ h.1 h.2.1 h.2.2
        | exact .tup _ _ h.1 h.2
    | _ => cases x <;> exact h.elim
  | _ => exact h.elim
section
variable {X : Cx}
theorem od_add : OpR X (binaryOp .Add) (upO (Cx.ky X) fAdd) := by
  intro pins s σ H x y v u Q I rx ry ⟨d, e, R, P, dm, r1, r2, h, k⟩
  cases addK h with
  | int i j hh => exact op_add pins s σ H x y v u Q I rx ry ⟨i, j, r1, r2, k _ H (.p (.int (i + j))) (Ext.refl H) rfl hh⟩
  | str a b z hh => exact op_add_str pins s σ H x y v u Q I rx ry ⟨a, b, r1, r2, z, k _ H (.p (.str (a ++ b))) (Ext.refl H) rfl hh⟩
  | lst a b z np hh =>
    obtain ⟨p, xs, rfl, e1, q1⟩ := r1
    obtain ⟨q, ys, rfl, e2, q2⟩ := r2
    exact op_cat pins s σ H _ _ v u Q I rx ry ⟨p, q, xs, ys, rfl, rfl, ((hide_ext P H).lst e1).at_, ((hide_ext P H).lst e2).at_, by rw [← q1.len, ← q2.len]; exact z, fun n hn => k _ _ (.p (.list (a ++ b))) (Ext.new hn) (new_lst dm hn (q1.app q2) np) hh⟩
  | tup a b z hh =>
    obtain ⟨p, xs, rfl, e1, q1⟩ := id r1
    obtain ⟨q, ys, rfl, e2, q2⟩ := id r2
    refine op_catA pins s σ H _ _ v u Q I rx ry ⟨p, q, xs, ys, rfl, rfl, (hide_ext P H).seqT e1, (hide_ext P H).seqT e2, by rw [← q1.len, ← q2.len]; exact z, fun e => ?_, fun _ e => ?_, fun _ _ n hn => k _ _ (.p (.tuple (a ++ b))) (Ext.new hn) (new_tup dm hn (q1.app q2)) hh⟩
    · have ea : a = [] := List.eq_nil_of_length_eq_zero (by rw [q1.len, e]; rfl)
      subst ea
      exact k _ H (.p (.tuple ([] ++ b))) (Ext.refl H) r2 hh
    · have eb : b = [] := List.eq_nil_of_length_eq_zero (by rw [q2.len, e]; rfl)
      subst eb
      exact k _ H (.p (.tuple (a ++ []))) (Ext.refl H) (by rw [List.append_nil]; exact r1) hh
end

/-! ### arithmetic of ints -/
def fI (c : Int → Int → Prop) (g : Int → Int → Int) : F2 := fun d e R => asI d fun i => asI e fun j => c i j ∧ R (.p (.int (g i j)))
section
variable {X : Cx} {κ : Ky}
theorem up_I {c : Int → Int → Prop} {g : Int → Int → Int} {x y : V} {H : Hp} {Q : VK} (h : upO κ (fI c g) x y H Q) : rI c (fun i j => .int (g i j)) x y H Q := by
  obtain ⟨d, e, R, P, dm, r1, r2, h, k⟩ := h
  obtain ⟨i, rfl, h0⟩ := asI_of h
  obtain ⟨j, rfl, h1, h2⟩ := asI_of h0
  exact ⟨i, j, r1, r2, h1, k _ H (.p (.int (g i j))) (Ext.refl H) rfl h2⟩
theorem OpR.imp {f : Value → Value → Sem Value} {r r' : R2} (h : OpR X f r') (q : ∀ x y H Q, r x y H Q → r' x y H Q) : OpR X f r := fun pins s σ H x y v u Q I rx ry z => h pins s σ H x y v u Q I rx ry (q x y H Q z)
theorem od_sub : OpR X (binaryOp .Sub) (upO (Cx.ky X) (fI (fun _ _ => True) fun i j => i - j)) := OpR.imp op_sub fun x y H Q h => by
  obtain ⟨i, j, e1, e2, _, q⟩ := up_I h
  exact ⟨i, j, e1, e2, q⟩
theorem od_mod : OpR X (binaryOp .Mod) (upO (Cx.ky X) (fI (fun _ j => 0 < j) fun i j => i % j)) := OpR.imp op_mod fun x y H Q h => up_I h
theorem od_fdiv : OpR X (binaryOp .FloorDiv) (upO (Cx.ky X) (fI CDivN fun i j => i.fdiv j)) := OpR.imp op_fdivN fun x y H Q h => up_I h
end

/-! ### order -/
def fCmp (p : Int → Int → Bool) (q : Str → Str → Bool) : F2 := fun d e R => match d, e with
  | .p (.int i), .p (.int j) => R (.p (.bool (p i j)))
  | .p (.str x), .p (.str y) => R (.p (.bool (q x y)))
  | _, _ => False
inductive CmpK (p : Int → Int → Bool) (q : Str → Str → Bool) (R : DV → Prop) : DV → DV → Prop
  | int (i j : Int) (h : R (.p (.bool (p i j)))) : CmpK p q R (.p (.int i)) (.p (.int j))
  | str (x y : Str) (h : R (.p (.bool (q x y)))) : CmpK p q R (.p (.str x)) (.p (.str y))
theorem cmpK {p : Int → Int → Bool} {q : Str → Str → Bool} {d e : DV} {R : DV → Prop} (h : fCmp p q d e R) : CmpK p q R d e := by
  cases d with
  | p x => cases e with
    | p y => cases x <;> cases y <;> first
        | exact h.elim
        | exact .int _ _ h
        | exact .str _ _ h
    | _ => cases x <;> exact h.elim
  | _ => exact h.elim
def ltS (x y : Str) : Bool := decide (x.cps.toList < y.cps.toList)
def leS (x y : Str) : Bool := !decide (y.cps.toList < x.cps.toList)
abbrev fLt : F2 := fCmp (fun i j => decide (i < j)) ltS
abbrev fLe : F2 := fCmp (fun i j => decide (i ≤ j)) leS
abbrev fGt : F2 := fCmp (fun i j => decide (j < i)) (fun x y => ltS y x)
abbrev fGe : F2 := fCmp (fun i j => decide (j ≤ i)) (fun x y => leS y x)
section
variable {X : Cx}
theorem od_lt : OpR X (compareOp .Lt) (upO (Cx.ky X) fLt) := by
  intro pins s σ H x y v u Q I rx ry ⟨d, e, R, P, dm, r1, r2, h, k⟩
  cases cmpK h with
  | int i j hh => exact op_lt pins s σ H x y v u Q I rx ry ⟨i, j, r1, r2, k _ H (.p (.bool (decide (i < j)))) (Ext.refl H) rfl hh⟩
  | str i j hh => exact op_lt_str pins s σ H x y v u Q I rx ry ⟨i, j, r1, r2, k _ H (.p (.bool (ltS i j))) (Ext.refl H) rfl hh⟩
theorem od_le : OpR X (compareOp .LtE) (upO (Cx.ky X) fLe) := by
  intro pins s σ H x y v u Q I rx ry ⟨d, e, R, P, dm, r1, r2, h, k⟩
  cases cmpK h with
  | int i j hh => exact op_le pins s σ H x y v u Q I rx ry ⟨i, j, r1, r2, k _ H (.p (.bool (decide (i ≤ j)))) (Ext.refl H) rfl hh⟩
  | str i j hh => exact op_le_str pins s σ H x y v u Q I rx ry ⟨i, j, r1, r2, k _ H (.p (.bool (leS i j))) (Ext.refl H) rfl hh⟩
theorem od_gt : OpR X (compareOp .Gt) (upO (Cx.ky X) fGt) := by
  intro pins s σ H x y v u Q I rx ry ⟨d, e, R, P, dm, r1, r2, h, k⟩
  cases cmpK h with
  | int i j hh => exact op_gt pins s σ H x y v u Q I rx ry ⟨i, j, r1, r2, k _ H (.p (.bool (decide (j < i)))) (Ext.refl H) rfl hh⟩
  | str i j hh => exact op_gt_str pins s σ H x y v u Q I rx ry ⟨i, j, r1, r2, k _ H (.p (.bool (ltS j i))) (Ext.refl H) rfl hh⟩
theorem od_ge : OpR X (compareOp .GtE) (upO (Cx.ky X) fGe) := by
  intro pins s σ H x y v u Q I rx ry ⟨d, e, R, P, dm, r1, r2, h, k⟩
  cases cmpK h with
  | int i j hh => exact op_ge pins s σ H x y v u Q I rx ry ⟨i, j, r1, r2, k _ H (.p (.bool (decide (j ≤ i)))) (Ext.refl H) rfl hh⟩
  | str i j hh => exact op_ge_str pins s σ H x y v u Q I rx ry ⟨i, j, r1, r2, k _ H (.p (.bool (leS j i))) (Ext.refl H) rfl hh⟩
end

/-! ### == -/
mutual
theorem dp_of {K : PySem.W.Frag} {H : Hp} : ∀ {d : PyData} {v : V}, Rp K H d v → d.hasDict = false → Dp K H v d
  | .none, v, h, _ => by rw [show v = .non from h]; exact .non
  | .bool b, v, h, _ => by rw [show v = .bl b from h]; exact .bl b
  | .int i, v, h, _ => by rw [show v = .int i from h]; exact .int i
  | .str x, v, h, _ => by rw [show v = .str x from h]; exact .str x
  | .list ds, _, ⟨a, xs, e, q, r⟩, n => by rw [e]; exact .lst (SqL.of q.at_) (dpA_of r n)
  | .tuple ds, _, ⟨a, xs, e, q, r⟩, n => by rw [e]; exact .tup q (dpA_of r n)
  | .dict _, _, _, n => by cases n
theorem dpA_of {K : PySem.W.Frag} {H : Hp} : ∀ {ds : List PyData} {vs : List V}, RpA K H ds vs → PyData.hasDictAll ds = false → DpAll K H vs ds
  | [], vs, h, _ => by rw [show vs = [] from h]; exact .nil
  | d :: ds, _, ⟨v, r, e, h, t⟩, n => by
    have n' : (PyData.hasDict d || PyData.hasDictAll ds) = false := n
    rw [Bool.or_eq_false_iff] at n'
    rw [e]
    exact .cons (dp_of h n'.1) (dpA_of t n'.2)
end
/-- data that == reads as it is -/
def plain (d : PyData) : Prop := d.hasDict = false ∧ SeqAt.shaped d = true
def fEq : F2 := fun d e R => asP d fun x => asP e fun y => plain x ∧ plain y ∧ R (.p (.bool (PyData.eqv x y)))
def fNe : F2 := fun d e R => asP d fun x => asP e fun y => plain x ∧ plain y ∧ R (.p (.bool (!PyData.eqv x y)))
section
variable {X : Cx}
theorem od_eq (hu : X.A.units + 64 < cLine) : OpR X (compareOp .Eq) (upO (Cx.ky X) fEq) := by
  intro pins s σ H x y v u Q I rx ry ⟨d, e, R, P, dm, r1, r2, h, k⟩
  obtain ⟨a, rfl, h0⟩ := asP_of h
  obtain ⟨b, rfl, h1, h2, h3⟩ := asP_of h0
  exact op_eqD hu pins s σ H x y v u Q I rx ry ⟨a, b, dp_of (rp_up r1) h1.1, dp_of (rp_up r2) h2.1, h1.2, h2.2, k _ H (.p (.bool (PyData.eqv a b))) (Ext.refl H) rfl h3⟩
theorem od_ne (hu : X.A.units + 64 < cLine) : OpR X (compareOp .NotEq) (upO (Cx.ky X) fNe) := by
  intro pins s σ H x y v u Q I rx ry ⟨d, e, R, P, dm, r1, r2, h, k⟩
  obtain ⟨a, rfl, h0⟩ := asP_of h
  obtain ⟨b, rfl, h1, h2, h3⟩ := asP_of h0
  exact op_neD hu pins s σ H x y v u Q I rx ry ⟨a, b, dp_of (rp_up r1) h1.1, dp_of (rp_up r2) h2.1, h1.2, h2.2, k _ H (.p (.bool (!PyData.eqv a b))) (Ext.refl H) rfl h3⟩
end

/-! ### built-ins -/
theorem CallR.imp {X : Cx} {f : Value} {r r' : List V → Hp → VK → Prop} (h : CallR X f r') (q : ∀ xs H Q, r xs H Q → r' xs H Q) : CallR X f r := fun pins s σ H xs us Q I rx z => h pins s σ H xs us Q I rx (q xs H Q z)
def tyD : PyData → String
  | .none => "NoneType" | .bool _ => "bool" | .int _ => "int" | .str _ => "str" | .list _ => "list" | .tuple _ => "tuple" | .dict _ => "dict"
theorem tyx_of {K : PySem.W.Frag} {H : Hp} {d : PyData} {v : V} (h : Rp K H d v) : TyX K H v (.type (tyD d)) := by
  cases d with
  | none => rw [show v = .non from h]; exact .base .non
  | bool b => rw [show v = .bl b from h]; exact .base (.bl b)
  | int i => rw [show v = .int i from h]; exact .base (.int i)
  | str x => rw [show v = .str x from h]; exact .base (.str x)
  | list ds =>
    obtain ⟨a, xs, e, q, _⟩ := h
    rw [e]
    exact .base (.lst q.at_)
  | tuple ds =>
    obtain ⟨a, xs, e, q, _⟩ := h
    rw [e]
    rcases q with (q | ⟨o, q⟩) | ⟨o, its, n, q, c, _⟩
    · exact .base (.tup q)
    · exact .fTuple q
    · exact .kTuple q c
  | dict kvs =>
    obtain ⟨a, es, e, q, _⟩ := h
    rw [e]
    exact .base (.dK q)
def fIsi : FL := fun ds R => ∃ d T b, ds = [.p d, .raw (.ty T)] ∧ kitB (tyD d) T = some b ∧ R (.p (.bool b))
def lenD : PyData → Option Nat
  | .str x => some x.length
  | .list xs => some xs.length
  | .tuple xs => some xs.length
  | _ => none
def fLen : FL := fun ds R => ∃ d n, ds = [.p d] ∧ lenD d = some n ∧ n ≤ sizeLine ∧ R (.p (.int n))
def fAll : FL := fun ds R => ∃ bs : List Bool, ds = [.p (.list (bs.map .bool))] ∧ R (.p (.bool (bs.all id)))
def fAny : FL := fun ds R => ∃ bs : List Bool, ds = [.p (.list (bs.map .bool))] ∧ R (.p (.bool (bs.any id)))
def fOrd : FL := fun ds R => ∃ c : Nat, ds = [.p (.str ⟨#[c]⟩)] ∧ R (.p (.int c))
def fInt : FL := fun ds R => ∃ i : Int, ds = [.p (.int i)] ∧ R (.p (.int i))
def fList : FL := fun ds R => ∃ xs, (ds = [.p (.list xs)] ∨ ds = [.p (.tuple xs)]) ∧ nP xs = true ∧ R (.p (.list xs))
def fTuple : FL := fun ds R => ∃ xs, (ds = [.p (.list xs)] ∨ ds = [.p (.tuple xs)]) ∧ R (.p (.tuple xs))
def fMax : FL := fun ds R => ∃ i j : Int, ds = [.p (.int i), .p (.int j)] ∧ R (.p (.int (if j > i then j else i)))
def fMin : FL := fun ds R => ∃ i j : Int, ds = [.p (.int i), .p (.int j)] ∧ R (.p (.int (if j < i then j else i)))
theorem rpA_bools {K : PySem.W.Frag} {H : Hp} : ∀ {bs : List Bool} {vs : List V}, RpA K H (bs.map .bool) vs → vs = bs.map V.bl
  | [], _, h => h
  | b :: bs, _, ⟨v, r, e, h, t⟩ => by rw [e, show v = .bl b from h, rpA_bools t]; rfl
section
variable {X : Cx}
theorem cd_isi : CallR X (.builtin "isinstance") (upC (Cx.ky X) fIsi) := CallR.imp call_isi fun xs H Q ⟨ds, R, P, dm, r, ⟨d, T, b, e, hb, h⟩, k⟩ => by
  subst e
  obtain ⟨v, q, e1, r1, u, q2, e2, r2, r3⟩ := r
  have e3 : q2 = [] := r3
  subst e1 e2 e3
  exact ⟨v, u, _, _, b, rfl, by rw [show u = .ty T from r2]; exact .ty T, tyx_of (rp_up r1), kit_ty hb, k _ H (.p (.bool b)) (Ext.refl H) rfl h⟩
theorem cd_len : CallR X (.builtin "len") (upC (Cx.ky X) fLen) := CallR.imp call_len fun xs H Q ⟨ds, R, P, dm, r, ⟨d, n, e, hn, hz, h⟩, k⟩ => by
  subst e
  obtain ⟨v, rfl, r1⟩ := rvA1 r
  refine ⟨v, n, rfl, ?_, k _ H (.p (.int n)) (Ext.refl H) rfl h⟩
  cases d with
  | str x =>
    cases hn
    rw [show v = .str x from r1]
    exact ⟨hz, rfl⟩
  | list ds =>
    cases hn
    obtain ⟨a, xs, e, q, ra⟩ := r1
    subst e
    exact .inl ⟨xs, SqL.of ((hide_ext P H).lst q).at_, ra.len⟩
  | tuple ds =>
    cases hn
    obtain ⟨a, xs, e, q, ra⟩ := r1
    subst e
    exact .inr ⟨xs, (hide_ext P H).seqT q, ra.len⟩
  | _ => cases hn
theorem cd_all (hc : X.calm = true) : CallR X (.builtin "all") (upC (Cx.ky X) fAll) := CallR.imp (cr_all hc) fun xs H Q ⟨ds, R, P, dm, r, ⟨bs, e, h⟩, k⟩ => by
  subst e
  obtain ⟨v, rfl, a, xs, e, q, ra⟩ := rvA1 r
  subst e
  have e2 := rpA_bools ra
  subst e2
  exact ⟨a, bs, rfl, SqL.of ((hide_ext P H).lst q).at_, k _ H (.p (.bool (bs.all id))) (Ext.refl H) rfl h⟩
theorem cd_any (hc : X.calm = true) : CallR X (.builtin "any") (upC (Cx.ky X) fAny) := CallR.imp (cr_any hc) fun xs H Q ⟨ds, R, P, dm, r, ⟨bs, e, h⟩, k⟩ => by
  subst e
  obtain ⟨v, rfl, a, xs, e, q, ra⟩ := rvA1 r
  subst e
  have e2 := rpA_bools ra
  subst e2
  exact ⟨a, bs, rfl, SqL.of ((hide_ext P H).lst q).at_, k _ H (.p (.bool (bs.any id))) (Ext.refl H) rfl h⟩
theorem cd_ord : CallR X (.builtin "ord") (upC (Cx.ky X) fOrd) := CallR.imp call_ord fun xs H Q ⟨ds, R, P, dm, r, ⟨c, e, h⟩, k⟩ => by
  subst e
  obtain ⟨v, rfl, r1⟩ := rvA1 r
  exact ⟨⟨#[c]⟩, by rw [show v = .str ⟨#[c]⟩ from r1], rfl, k _ H (.p (.int c)) (Ext.refl H) rfl h⟩
theorem cd_int : CallR X (.type "int") (upC (Cx.ky X) fInt) := CallR.imp call_int1 fun xs H Q ⟨ds, R, P, dm, r, ⟨i, e, h⟩, k⟩ => by
  subst e
  obtain ⟨v, rfl, r1⟩ := rvA1 r
  exact .inl ⟨i, by rw [show v = .int i from r1], k _ H (.p (.int i)) (Ext.refl H) rfl h⟩
theorem cd_list : CallR X (.type "list") (upC (Cx.ky X) fList) := CallR.imp call_list_of fun xs H Q ⟨ds, R, P, dm, r, ⟨zs, e, np, h⟩, k⟩ => by
  rcases e with e | e
  · subst e
    obtain ⟨v, rfl, a, xs, e, q, ra⟩ := rvA1 r
    subst e
    exact ⟨a, xs, rfl, .inl (SqL.of ((hide_ext P H).lst q).at_), fun l hl => k _ _ (.p (.list zs)) (Ext.new hl) (new_lst dm hl ra np) h⟩
  · subst e
    obtain ⟨v, rfl, a, xs, e, q, ra⟩ := rvA1 r
    subst e
    exact ⟨a, xs, rfl, .inr ((hide_ext P H).seqT q), fun l hl => k _ _ (.p (.list zs)) (Ext.new hl) (new_lst dm hl ra np) h⟩
theorem cd_tuple : CallR X (.type "tuple") (upC (Cx.ky X) fTuple) := CallR.imp call_tuple_of fun xs H Q ⟨ds, R, P, dm, r, ⟨zs, e, h⟩, k⟩ => by
  rcases e with e | e
  · subst e
    obtain ⟨v, rfl, a, xs, e, q, ra⟩ := rvA1 r
    subst e
    exact ⟨a, xs, rfl, .inl ⟨SqL.of ((hide_ext P H).lst q).at_, fun l hl => k _ _ (.p (.tuple zs)) (Ext.new hl) (new_tup dm hl ra) h⟩⟩
  · subst e
    obtain ⟨v, rfl, r1⟩ := rvA1 r
    obtain ⟨a, xs, e, q, ra⟩ := id r1
    subst e
    exact ⟨a, xs, rfl, .inr ⟨(hide_ext P H).seqT q, k _ H (.p (.tuple zs)) (Ext.refl H) r1 h⟩⟩
theorem cd_max (hc : X.calm = true) : CallR X (.builtin "max") (upC (Cx.ky X) fMax) := CallR.imp (call_max2 hc) fun xs H Q ⟨ds, R, P, dm, r, ⟨i, j, e, h⟩, k⟩ => by
  subst e
  obtain ⟨v, u, rfl, r1, r2⟩ := rvA2 r
  exact ⟨i, j, by rw [show v = .int i from r1, show u = .int j from r2], k _ H (.p (.int (if j > i then j else i))) (Ext.refl H) rfl h⟩
theorem cd_min (hc : X.calm = true) : CallR X (.builtin "min") (upC (Cx.ky X) fMin) := CallR.imp (call_min2 hc) fun xs H Q ⟨ds, R, P, dm, r, ⟨i, j, e, h⟩, k⟩ => by
  subst e
  obtain ⟨v, u, rfl, r1, r2⟩ := rvA2 r
  exact ⟨i, j, by rw [show v = .int i from r1, show u = .int j from r2], k _ H (.p (.int (if j < i then j else i))) (Ext.refl H) rfl h⟩
end

/-! ### subscripts -/
def fIx : F2 := fun d e R => asI e fun i => match d with
  | .p (.list xs) => ∃ y, atI xs i = some y ∧ R (.p y)
  | .p (.tuple xs) => ∃ y, atI xs i = some y ∧ R (.p y)
  | .p (.str x) => x.length ≤ sizeLine ∧ ∃ c, atI x.cps.toList i = some c ∧ R (.p (.str ⟨#[c]⟩))
  | _ => False
theorem atI_get {K : PySem.W.Frag} {H : Hp} {ds : List PyData} {xs : List V} {i : Int} {y : PyData} (r : RpA K H ds xs) (h : atI ds i = some y) : ∃ v, atI xs i = some v ∧ Rp K H y v := by
  unfold atI at h ⊢
  rw [← r.len]
  cases e : ixN ds.length i with
  | none => rw [e] at h; cases h
  | some j =>
    rw [e] at h
    obtain ⟨v, e1, e2⟩ := r.get (show ds[j]? = some y from h)
    exact ⟨v, e1, e2⟩
section
variable {X : Cx}
theorem IxR.imp {r r' : R2} (h : IxR X r') (q : ∀ x y H Q, r x y H Q → r' x y H Q) : IxR X r := fun value slice pins s σ H x y v u Q I rx ry z hs => h value slice pins s σ H x y v u Q I rx ry (q x y H Q z) hs
theorem xd_ix : IxR X (upO (Cx.ky X) fIx) := by
  intro value slice pins s σ H x y v u Q I rx ry ⟨d, e, R, P, dm, r1, r2, h, k⟩ hs
  obtain ⟨i, rfl, h0⟩ := asI_of h
  cases d with
  | p d => cases d with
    | list ds =>
      obtain ⟨z, hz, h1⟩ := h0
      obtain ⟨a, xs, e, q, ra⟩ := r1
      obtain ⟨w, e1, e2⟩ := atI_get ra hz
      exact ix_list value slice pins s σ H x y v u Q I rx ry ⟨a, xs, i, w, e, r2, SqL.of ((hide_ext P H).lst q).at_, e1, k w H (.p z) (Ext.refl H) e2 h1⟩ hs
    | tuple ds =>
      obtain ⟨z, hz, h1⟩ := h0
      obtain ⟨a, xs, e, q, ra⟩ := r1
      obtain ⟨w, e1, e2⟩ := atI_get ra hz
      exact ix_tup value slice pins s σ H x y v u Q I rx ry ⟨a, xs, i, w, e, r2, (hide_ext P H).seqT q, e1, k w H (.p z) (Ext.refl H) e2 h1⟩ hs
    | str z =>
      obtain ⟨hz, c, e1, h1⟩ := h0
      exact ix_str value slice pins s σ H x y v u Q I rx ry ⟨z, i, c, r1, r2, hz, e1, k _ H (.p (.str ⟨#[c]⟩)) (Ext.refl H) rfl h1⟩ hs
    | _ => exact h0.elim
  | _ => exact h0.elim
theorem de_ix {a b : Expr} {ta tb : TD} {pos : Pos} (ha : PE X a (up (Cx.ky X) ta)) (hb : PE X b (up (Cx.ky X) tb)) (hs : PlainIx b := by exact fun _ _ => rfl) : PE X (.Subscript a b pos) (up (Cx.ky X) (dOp fIx ta tb)) :=
  PE.imp (pe_ix xd_ix ha hb hs) fun _ _ _ h => up_op h
end
/-- a part of a slice -/
abbrev TDO := Dn → (Option Int → Prop) → Prop
def upP (κ : Ky) (t : TDO) : TO := fun σ H Q => ∃ δ R c L, ES κ c H L δ σ ∧ t δ R ∧ ∀ o H', Ext H H' → R o → Q o H'
def dNo : TDO := fun _ R => R none
def dPart (t : TD) : TDO := fun δ R => t δ fun d => asI d fun i => R (some i)
def cutD (xs : List PyData) (lo hi : Option Int) : List PyData := (xs.drop (HT.sIx xs.length 0 lo)).take (HT.sIx xs.length xs.length hi - HT.sIx xs.length 0 lo)
def sliceD (d : DV) (lo hi : Option Int) (R : DV → Prop) : Prop := match d with
  | .p (.list xs) => nP (cutD xs lo hi) = true ∧ R (.p (.list (cutD xs lo hi)))
  | .p (.tuple xs) => R (.p (.tuple (cutD xs lo hi)))
  | .p (.str x) => x.length ≤ sizeLine ∧ R (.p (.str (cutS x lo hi)))
  | _ => False
def dSl (te : TD) (tl th : TDO) : TD := fun δ R => te δ fun d => tl δ fun lo => th δ fun hi => sliceD d lo hi R
theorem RpA.cut {K : PySem.W.Frag} {H : Hp} {ds : List PyData} {xs : List V} (r : RpA K H ds xs) (lo hi : Option Int) : RpA K H (cutD ds lo hi) (cutV xs lo hi) := by
  unfold cutD cutV
  rw [r.len]
  exact (r.drop _).take _
section
variable {X : Cx}
def upSl (κ : Ky) : V → Option Int → Option Int → Hp → VK → Prop := fun x lo hi H Q => ∃ d R P, Dom P H ∧ Rv κ (hide P H) d x ∧ sliceD d lo hi R ∧ ∀ v H' r, Ext H H' → Rv κ (hide P H') r v → R r → Q v H'
theorem xd_sl : SlR X (upSl (Cx.ky X)) := by
  intro pins s σ H x v vl vu lo hi sl Q I rx hs pl pu ⟨d, R, P, dm, r1, h, k⟩
  cases d with
  | p d => cases d with
    | list ds =>
      obtain ⟨a, xs, e, q, ra⟩ := r1
      exact sl_list pins s σ H x v vl vu lo hi sl Q I rx hs pl pu ⟨a, xs, e, SqL.of ((hide_ext P H).lst q).at_, fun p hp => k _ _ (.p (.list (cutD ds lo hi))) (Ext.new hp) (new_lst dm hp (ra.cut lo hi) h.1) h.2⟩
    | tuple ds =>
      obtain ⟨a, xs, e, q, ra⟩ := id r1
      refine sl_tupA pins s σ H x v vl vu lo hi sl Q I rx hs pl pu ⟨a, xs, e, (hide_ext P H).seqT q, fun ⟨e1, e2⟩ => ?_, fun _ p hp => k _ _ (.p (.tuple (cutD ds lo hi))) (Ext.new hp) (new_tup dm hp (ra.cut lo hi)) h⟩
      have ec : cutD ds lo hi = ds := by
        unfold cutD
        rw [ra.len, e1, e2, List.drop_zero, Nat.sub_zero, ← ra.len, List.take_length]
      exact k _ H (.p (.tuple (cutD ds lo hi))) (Ext.refl H) (by rw [ec, ← e]; exact r1) h
    | str z => exact sl_str pins s σ H x v vl vu lo hi sl Q I rx hs pl pu ⟨z, r1, h.1, k _ H (.p (.str (cutS z lo hi))) (Ext.refl H) rfl h.2⟩
    | _ => exact h.elim
  | _ => exact h.elim
theorem do_none : PO X none (upP (Cx.ky X) dNo) := ⟨fun pins s σ H Q I ⟨δ, R, c, L, es, h, k⟩ => po_none.run pins s σ H Q I (k none H (Ext.refl H) h)⟩
theorem do_some {e : Expr} {t : TD} (h : PE X e (up (Cx.ky X) t)) : PO X (some e) (upP (Cx.ky X) (dPart t)) := ⟨fun pins s σ H Q I ⟨δ, R, c, L, es, hh, k⟩ => (po_some h).run pins s σ H Q I ⟨δ, _, c, L, es, hh, fun v H1 d x1 r1 h1 => by
  obtain ⟨i, rfl, h2⟩ := asI_of h1
  exact ⟨i, r1, k (some i) H1 x1 h2⟩⟩⟩
theorem de_slice {e : Expr} {lo hi : Option Expr} {te : TD} {tl th : TDO} {p2 pos : Pos} (he : PE X e (up (Cx.ky X) te)) (hl : PO X lo (upP (Cx.ky X) tl)) (hh : PO X hi (upP (Cx.ky X) th)) : PE X (.Subscript e (.Slice lo hi none p2) pos) (up (Cx.ky X) (dSl te tl th)) := by
  refine PE.imp (pe_slice xd_sl he hl hh) fun σ H Q ⟨δ, R, c, L, es, h, k⟩ => ?_
  refine ⟨δ, _, c, L, es, h, fun v H1 d x1 r1 h1 => ⟨δ, _, c, L, es.on x1, h1, fun lo H2 x2 h2 => ⟨δ, _, c, L, es.on (x1.trans x2), h2, fun hi H3 x3 h3 => ?_⟩⟩⟩
  exact ⟨d, R, _, (es.on (x1.trans (x2.trans x3))).dom, r1.ext ((x2.trans x3).hide _), h3, fun u H4 r x4 r4 h4 => k u H4 r (x1.trans (x2.trans (x3.trans x4))) r4 h4⟩
end

/-! ### displays -/
def pyAll : List DV → (List PyData → Prop) → Prop
  | [], K => K []
  | d :: ds, K => asP d fun x => pyAll ds fun xs => K (x :: xs)
theorem pyAll_of : ∀ {ds : List DV} {K : List PyData → Prop}, pyAll ds K → ∃ xs, ds = xs.map .p ∧ K xs
  | [], _, h => ⟨[], rfl, h⟩
  | d :: ds, _, h => by
    obtain ⟨x, rfl, h1⟩ := asP_of h
    obtain ⟨xs, rfl, h2⟩ := pyAll_of h1
    exact ⟨x :: xs, rfl, h2⟩
theorem rvA_p {κ : Ky} {H : Hp} : ∀ {xs : List PyData} {vs : List V}, RvA κ H (xs.map .p) vs → RpA κ.K H xs vs
  | [], _, h => h
  | _ :: _, _, ⟨v, r, e, h, t⟩ => ⟨v, r, e, h, rvA_p t⟩
def dTup (t : TL) : TD := fun δ R => t δ fun ds => pyAll ds fun xs => xs.length ≤ sizeLine ∧ R (.p (.tuple xs))
def dLst (t : TL) : TD := fun δ R => t δ fun ds => pyAll ds fun xs => xs.length ≤ sizeLine ∧ nP xs = true ∧ R (.p (.list xs))
section
variable {X : Cx} {es : List Expr} {t : TL} {pos : Pos}
theorem de_tup {x1} (h : PA X es (upA (Cx.ky X) t)) : PE X (.Tuple es x1 pos) (up (Cx.ky X) (dTup t)) := by
  refine PE.imp (pe_tup h) fun σ H Q ⟨δ, R, c, L, es, h, k⟩ => ⟨δ, _, c, L, es, h, fun vs H1 ds x1 r1 h1 => ?_⟩
  obtain ⟨xs, rfl, hz, h2⟩ := pyAll_of h1
  have rp := rvA_p r1
  exact ⟨by rw [← rp.len]; exact hz, fun p hp => k _ _ (.p (.tuple xs)) (x1.trans (Ext.new hp)) (new_tup (es.on x1).dom hp rp) h2⟩
theorem de_lst (h : PA X es (upA (Cx.ky X) t)) : PE X (.List es pos) (up (Cx.ky X) (dLst t)) := by
  refine PE.imp (pe_lst h) fun σ H Q ⟨δ, R, c, L, es, h, k⟩ => ⟨δ, _, c, L, es, h, fun vs H1 ds x1 r1 h1 => ?_⟩
  obtain ⟨xs, rfl, hz, np, h2⟩ := pyAll_of h1
  have rp := rvA_p r1
  exact ⟨by rw [← rp.len]; exact hz, fun p hp => k _ _ (.p (.list xs)) (x1.trans (Ext.new hp)) (new_lst (es.on x1).dom hp rp np) h2⟩
theorem not_well_nil : ¬ Well (.dK []) := fun ⟨_, _, e, _⟩ => by cases e
theorem de_dict0 : PE X (.Dict [] [] pos) (up (Cx.ky X) (dC (.p (.dict [])))) := by
  refine PE.imp pe_dnewK fun σ H Q ⟨δ, R, c, L, es, h, k⟩ d hd => ?_
  exact k _ _ (.p (.dict [])) (Ext.new hd) ⟨d, [], rfl, fresh_at es.dom hd, not_well_nil, rfl⟩ h
end

/-! ### zip of two lists or two tuples, for a target a, b -/
def pairsD (xs ys : List PyData) : List PyData := List.zipWith (fun x y => .tuple [x, y]) xs ys
def dItZip (t : TL) : TDI := fun δ R => t δ fun ds => ∃ xs ys, (ds = [.p (.list xs), .p (.list ys)] ∨ ds = [.p (.tuple xs), .p (.tuple ys)]) ∧ R (pairsD xs ys)
theorem itk_zipL {κ : Ky} {a b : Addr} {xs ys : List PyData} : ItK κ (Itz κ.K a b) (pairsD xs ys) [.p (.list xs), .p (.list ys)] [.ref a, .ref b] where
  go := fun H P' i _ r hi => by
    obtain ⟨v, u, e, ⟨a', us, e1, q1, r1⟩, ⟨b', ws, e2, q2, r2⟩⟩ := rvA2 r
    cases e; cases e1; cases e2
    unfold pairsD at hi
    rw [List.length_zipWith] at hi
    obtain ⟨x, f1, _⟩ := r1.get (List.getElem?_eq_getElem (show i < xs.length by omega))
    obtain ⟨y, f2, _⟩ := r2.get (List.getElem?_eq_getElem (show i < ys.length by omega))
    exact ⟨us, ws, x, y, SqL.of ((hide_ext P' H).lst q1).at_, SqL.of ((hide_ext P' H).lst q2).at_, f1, f2⟩
  stop := fun H P' i _ r hi => by
    obtain ⟨v, u, e, ⟨a', us, e1, q1, r1⟩, ⟨b', ws, e2, q2, r2⟩⟩ := rvA2 r
    cases e; cases e1; cases e2
    unfold pairsD at hi
    rw [List.length_zipWith] at hi
    exact ⟨us, ws, SqL.of ((hide_ext P' H).lst q1).at_, SqL.of ((hide_ext P' H).lst q2).at_, by rw [← r1.len, ← r2.len]; omega⟩
  yld := fun H P' i x H2 dm r hi hy => by
    obtain ⟨v, u, e, ⟨a', us, e1, q1, r1⟩, ⟨b', ws, e2, q2, r2⟩⟩ := rvA2 r
    cases e; cases e1; cases e2
    obtain ⟨T, y1, y2, rfl, hT, rfl, f1, f2⟩ := hy
    obtain ⟨d1, g1, g2⟩ := r1.back (f1 us (SqL.of ((hide_ext P' H).lst q1).at_))
    obtain ⟨d2, g3, g4⟩ := r2.back (f2 ws (SqL.of ((hide_ext P' H).lst q2).at_))
    refine ⟨.tuple [d1, d2], ?_, Ext.new hT, ⟨T, [y1, y2], rfl, SqT.of (fresh_at dm hT), ?_⟩⟩
    · unfold pairsD
      rw [List.getElem?_zipWith, g1, g3]
    · exact ⟨y1, [y2], rfl, g2.ext ((Ext.new hT).hide P'), y2, [], rfl, g4.ext ((Ext.new hT).hide P'), rfl⟩
theorem itk_zipT {κ : Ky} {a b : Addr} {xs ys : List PyData} : ItK κ (RZ.ItzT κ.K a b) (pairsD xs ys) [.p (.tuple xs), .p (.tuple ys)] [.ref a, .ref b] where
  go := fun H P' i _ r hi => by
    obtain ⟨v, u, e, ⟨a', us, e1, q1, r1⟩, ⟨b', ws, e2, q2, r2⟩⟩ := rvA2 r
    cases e; cases e1; cases e2
    unfold pairsD at hi
    rw [List.length_zipWith] at hi
    obtain ⟨x, f1, _⟩ := r1.get (List.getElem?_eq_getElem (show i < xs.length by omega))
    obtain ⟨y, f2, _⟩ := r2.get (List.getElem?_eq_getElem (show i < ys.length by omega))
    exact ⟨us, ws, x, y, (hide_ext P' H).seqT q1, (hide_ext P' H).seqT q2, f1, f2⟩
  stop := fun H P' i _ r hi => by
    obtain ⟨v, u, e, ⟨a', us, e1, q1, r1⟩, ⟨b', ws, e2, q2, r2⟩⟩ := rvA2 r
    cases e; cases e1; cases e2
    unfold pairsD at hi
    rw [List.length_zipWith] at hi
    exact ⟨us, ws, (hide_ext P' H).seqT q1, (hide_ext P' H).seqT q2, by rw [← r1.len, ← r2.len]; omega⟩
  yld := fun H P' i x H2 dm r hi hy => by
    obtain ⟨v, u, e, ⟨a', us, e1, q1, r1⟩, ⟨b', ws, e2, q2, r2⟩⟩ := rvA2 r
    cases e; cases e1; cases e2
    obtain ⟨T, y1, y2, rfl, hT, rfl, f1, f2⟩ := hy
    obtain ⟨d1, g1, g2⟩ := r1.back (f1 us ((hide_ext P' H).seqT q1))
    obtain ⟨d2, g3, g4⟩ := r2.back (f2 ws ((hide_ext P' H).seqT q2))
    refine ⟨.tuple [d1, d2], ?_, Ext.new hT, ⟨T, [y1, y2], rfl, SqT.of (fresh_at dm hT), ?_⟩⟩
    · unfold pairsD
      rw [List.getElem?_zipWith, g1, g3]
    · exact ⟨y1, [y2], rfl, g2.ext ((Ext.new hT).hide P'), y2, [], rfl, g4.ext ((Ext.new hT).hide P'), rfl⟩
theorem di_zip {X : Cx} {e e2 : Expr} {t : TL} {p pos tpos : Pos} {elts : List Expr} {kk : Nat} (hg : Gl X "zip") (hm : X.mg "zip" = none) (ha : PA X [e, e2] (upA (Cx.ky X) t))
    (hs : starEach [e, e2] X.env = (false, eval e X.env) :: starEach [e2] X.env := by rfl) (hpl : (backTo pos (starEach [e2] X.env)).any (·.1) = false := by rfl) :
    PI X (.Tuple elts kk tpos) (.Call (.Name "zip" p) [e, e2] [] pos) (upI (Cx.ky X) (dItZip t)) := by
  refine PI.imp (RZ.pi_zipA hg hm ha hs hpl) fun σ H R ⟨δ, R', c, L, es, h, k⟩ => ⟨δ, _, c, L, es, h, fun vs H1 ds x1 r1 h1 => ?_⟩
  obtain ⟨xs, ys, e | e, h2⟩ := h1
  · subst e
    obtain ⟨v, u, e, ⟨a, us, e1, q1, ra⟩, ⟨b, ws, e2, q2, rb⟩⟩ := rvA2 r1
    subst e e1 e2
    exact ⟨a, b, us, ws, rfl, .inl ⟨SqL.of ((hide_ext _ _).lst q1).at_, SqL.of ((hide_ext _ _).lst q2).at_, k _ H1 (pairsD xs ys) [.p (.list xs), .p (.list ys)] [.ref a, .ref b] x1 r1 itk_zipL h2⟩⟩
  · subst e
    obtain ⟨v, u, e, ⟨a, us, e1, q1, ra⟩, ⟨b, ws, e2, q2, rb⟩⟩ := rvA2 r1
    subst e e1 e2
    exact ⟨a, b, us, ws, rfl, .inr ⟨(hide_ext _ _).seqT q1, (hide_ext _ _).seqT q2, k _ H1 (pairsD xs ys) [.p (.tuple xs), .p (.tuple ys)] [.ref a, .ref b] x1 r1 itk_zipT h2⟩⟩
end MR

/-! repr, methods of texts, membership, repetition by data. -/
namespace MR
open PySem PySem.Spec PyProof.Rows L2

/-! ### what stands in the heap, for repr -/
section
variable {X : Cx} {pins : List (Addr × Obj)} {σ : Sg} {H : Hp} {s : Shared} {P : Addr → Bool}
theorem ne_sys {a : Addr} {o : HO} (hp : P sysModules = true) (h : hide P H a = some o) : a ≠ sysModules := fun e => by
  subst e
  unfold hide at h
  rw [if_pos hp] at h
  cases h
theorem keys_read {K : Type} [DecidableEq K] {knd : PySem.KeyKind X.prog X.w K} {h : Heap} (f : K → PyData) (hf : ∀ k v, knd.is k v = true → Reads h v (f k) []) : ∀ {es : List DictEntry} {kvs : List (K × Value)}, PySem.Pairs knd es kvs → ReadsAll h (es.map (·.key)) (kvs.map fun p => f p.1) [] ∧ es.map (·.val) = kvs.map (·.2)
  | _, _, .nil => ⟨.nil, rfl⟩
  | _, _, .cons h1 h2 t => by
    obtain ⟨q1, q2⟩ := keys_read f hf t
    refine ⟨.cons (as := []) (bs := []) (hf _ _ h1) q1, ?_⟩
    rw [List.map_cons, List.map_cons, q2, h2]
theorem key_reads {h : Heap} : ∀ (k : Key) (v : Value), (mixKind X.prog X.w).is k v = true → Reads h v (keyD k) []
  | .inl i, v, q => by
    obtain ⟨t, rfl⟩ := Value.isInt_shape (k := i) (v := v) q
    exact .int i t
  | .inr x, v, q => by
    obtain ⟨t, rfl⟩ := Value.isStrOf_shape (x := x) (v := v) q
    exact .str x t
mutual
theorem rp_reads (hp : P sysModules = true) (I : Inv X pins σ H s) : ∀ {d : PyData} {v : V} {u : Value}, Rp X.K (hide P H) d v → RelV v u → ∃ as, Reads s.heap u d as ∧ sysModules ∉ as
  | .none, v, u, h, r => by
    rw [show v = .non from h] at r
    rw [show u = Value.none from r]
    exact ⟨_, .none, List.not_mem_nil⟩
  | .bool b, v, u, h, r => by
    rw [show v = .bl b from h] at r
    rw [show u = Value.bool b from r]
    exact ⟨_, .bool b, List.not_mem_nil⟩
  | .int i, v, u, h, r => by
    rw [show v = .int i from h] at r
    obtain ⟨t, rfl⟩ := r
    exact ⟨_, .int i t, List.not_mem_nil⟩
  | .str x, v, u, h, r => by
    rw [show v = .str x from h] at r
    obtain ⟨t, rfl⟩ := r
    exact ⟨_, .str x t, List.not_mem_nil⟩
  | .list ds, v, u, ⟨a, xs, e, q, ra⟩, r => by
    subst e
    rw [show u = Value.ref a from r]
    obtain ⟨its, rv, ⟨o, n, ho, hc, _, hd⟩, _⟩ := I.list (SqL.of ((hide_ext P H).lst q).at_)
    obtain ⟨as, hr, hn⟩ := rpA_reads hp I ra rv
    exact ⟨_, .list ho hc hd hr, fun z => (List.mem_cons.mp z).elim (fun e => ne_sys hp q.at_ e.symm) hn⟩
  | .tuple ds, v, u, ⟨a, xs, e, q, ra⟩, r => by
    subst e
    rw [show u = Value.ref a from r]
    obtain ⟨its, rv, ⟨o, ho, hc, n, hd⟩, _⟩ := I.tuple ((hide_ext P H).seqT q)
    obtain ⟨as, hr, hn⟩ := rpA_reads hp I ra rv
    exact ⟨_, .tuple ho hc hd hr, hn⟩
  | .dict kvs, v, u, ⟨a, es, e, q, _, rk⟩, r => by
    subst e
    rw [show u = Value.ref a from r]
    have q' : H a = some (.dK es) := by
      unfold hide at q
      split at q
      · cases q
      · exact q
    obtain ⟨_, _, vs, kv, o, ds, ep, h1, h2, h3, _, h5, _⟩ := I.hok a _ q'
    obtain ⟨w1, w2⟩ := keys_read (h := s.heap) keyD key_reads h5
    obtain ⟨bs, hr, hn⟩ := rpK_reads hp I rk kv
    have ek : kvs.map (·.1) = vs.map fun p => keyD p.1 := rpK_keys rk kv
    refine ⟨a :: [] ++ bs, .dict h1 h2.1 h3 (by rw [ek]; exact w1) (by rw [w2]; exact hr), ?_⟩
    exact fun z => (List.mem_cons.mp z).elim (fun e => ne_sys hp q e.symm) hn
theorem rpA_reads (hp : P sysModules = true) (I : Inv X pins σ H s) : ∀ {ds : List PyData} {vs : List V} {us : List Value}, RpA X.K (hide P H) ds vs → Vals vs us → ∃ as, ReadsAll s.heap us ds as ∧ sysModules ∉ as
  | [], vs, us, h, r => by
    rw [show vs = [] from h] at r
    cases r
    exact ⟨_, .nil, List.not_mem_nil⟩
  | d :: ds, vs, us, ⟨v, q, e, h, t⟩, r => by
    rw [e] at r
    cases r with
    | cons r1 r2 =>
      obtain ⟨as, q1, n1⟩ := rp_reads hp I h r1
      obtain ⟨bs, q2, n2⟩ := rpA_reads hp I t r2
      exact ⟨_, .cons q1 q2, fun z => (List.mem_append.mp z).elim n1 n2⟩
theorem rpK_reads (hp : P sysModules = true) (I : Inv X pins σ H s) : ∀ {kvs : List (PyData × PyData)} {es : List (Key × V)} {vs : List (Key × Value)}, RpK X.K (hide P H) kvs es → KV es vs → ∃ as, ReadsAll s.heap (vs.map (·.2)) (kvs.map (·.2)) as ∧ sysModules ∉ as
  | [], es, vs, h, r => by
    rw [show es = [] from h] at r
    cases r
    exact ⟨_, .nil, List.not_mem_nil⟩
  | (k, d) :: kvs, es, vs, ⟨k', v, q, e, ek, h, t⟩, r => by
    rw [e] at r
    cases r with
    | cons r1 r2 =>
      obtain ⟨as, q1, n1⟩ := rp_reads hp I h r1.2
      obtain ⟨bs, q2, n2⟩ := rpK_reads hp I t r2
      exact ⟨_, .cons q1 q2, fun z => (List.mem_append.mp z).elim n1 n2⟩
theorem rpK_keys : ∀ {kvs : List (PyData × PyData)} {es : List (Key × V)} {vs : List (Key × Value)}, RpK X.K (hide P H) kvs es → KV es vs → kvs.map (·.1) = vs.map fun p => keyD p.1
  | [], es, vs, h, r => by
    rw [show es = [] from h] at r
    cases r
    rfl
  | (k, d) :: kvs, es, vs, ⟨k', v, q, e, ek, h, t⟩, r => by
    rw [e] at r
    cases r with
    | cons r1 r2 =>
      have e1 : k' = _ := r1.1
      rw [List.map_cons, List.map_cons, rpK_keys t r2, ek, e1]
end
end
/-- data whose text repr gives -/
structure Shows (d : PyData) : Prop where
  ok : d.showable = true
  len : d.shown.length ≤ sizeLine
  dep : d.depth ≤ 100
def fRepr : FL := fun ds R => ∃ d, ds = [.p d] ∧ Shows d ∧ R (.p (.str d.shown))
section
variable {X : Cx}
theorem cd_repr {k : Nat} (gd : X.A.guards = some []) (hr : Room k X.A) : CallR X (.builtin "repr") (upC (Cx.ky X) fRepr) := by
  intro pins s σ H xs us Q I rx ⟨ds, R, P, dm, r, ⟨d, e, sh, h⟩, k⟩
  subst e
  obtain ⟨v, rfl, r1⟩ := rvA1 r
  obtain ⟨u, rfl, ru⟩ := Vals.one rx
  have hz := sh.len
  cases d with
  | none =>
    rw [show v = .non from r1] at ru
    rw [show u = Value.none from ru]
    exact PySem.P.repr_of_none ⟨.str "None", H, I.tok _, ⟨_, rfl⟩, k _ H (.p (.str "None")) (Ext.refl H) rfl h⟩
  | bool b =>
    rw [show v = .bl b from r1] at ru
    rw [show u = Value.bool b from ru]
    exact PySem.P.repr_of_bool ⟨.str _, H, I.tok _, ⟨_, rfl⟩, k _ H (.p (.str _)) (Ext.refl H) rfl h⟩
  | int i =>
    rw [show v = .int i from r1] at ru
    obtain ⟨t, rfl⟩ := ru
    exact PySem.P.repr_of_int (of_decide_eq_true sh.ok) ⟨.str _, H, I.tok _, ⟨_, rfl⟩, k _ H (.p (.str _)) (Ext.refl H) rfl h⟩
  | str x =>
    rw [show v = .str x from r1] at ru
    obtain ⟨t, rfl⟩ := ru
    exact PySem.P.repr_of_str ⟨.str _, H, I.tok _, ⟨_, rfl⟩, k _ H (.p (.str _)) (Ext.refl H) rfl h⟩ hz
  | list xs =>
    obtain ⟨a, ys, e, q, ra⟩ := id r1
    subst e
    obtain rfl : u = Value.ref a := ru
    obtain ⟨as, hr2, hn⟩ := rp_reads dm.1 I r1 rfl
    exact repr_of_reads' hr2 sh.ok (fun _ => hn) gd (by have := hr.un; have := sh.dep; omega) (fun _ _ z => z) (fun h' t tk kp => ⟨.str _, H, I.kept kp, ⟨t, rfl⟩, k _ H (.p (.str _)) (Ext.refl H) rfl h⟩) hz
  | tuple xs =>
    obtain ⟨a, ys, e, q, ra⟩ := id r1
    subst e
    obtain rfl : u = Value.ref a := ru
    obtain ⟨as, hr2, hn⟩ := rp_reads dm.1 I r1 rfl
    exact repr_of_reads' hr2 sh.ok (fun _ => hn) gd (by have := hr.un; have := sh.dep; omega) (fun _ _ z => z) (fun h' t tk kp => ⟨.str _, H, I.kept kp, ⟨t, rfl⟩, k _ H (.p (.str _)) (Ext.refl H) rfl h⟩) hz
  | dict xs =>
    obtain ⟨a, ys, e, q, ra⟩ := id r1
    subst e
    obtain rfl : u = Value.ref a := ru
    obtain ⟨as, hr2, hn⟩ := rp_reads dm.1 I r1 rfl
    exact repr_of_reads' hr2 sh.ok (fun _ => hn) gd (by have := hr.un; have := sh.dep; omega) (fun _ _ z => z) (fun h' t tk kp => ⟨.str _, H, I.kept kp, ⟨t, rfl⟩, k _ H (.p (.str _)) (Ext.refl H) rfl h⟩) hz
end

/-! ### methods of texts -/
abbrev F1S := Str → DV → (DV → Prop) → Prop
def dM1 (f : F1S) (to te : TD) : TD := fun δ R => to δ fun d => asS d fun a => te δ fun e => f a e R
def dM0 (f : Str → (DV → Prop) → Prop) (to : TD) : TD := fun δ R => to δ fun d => asS d fun a => f a R
section
variable {X : Cx} {o e : Expr} {to te : TD}
theorem de_m1 {id : String} {name : Str} {apos pos : Pos} {r : V → List V → Hp → VK → Prop} {f : F1S} (slot : Slot "str" name id) (ty : typeOf (.builtin id) = pure (.type "method_descriptor")) (rule : MtR X id r)
    (hf : ∀ a y H Q, upO (Cx.ky X) (fun d e R => asS d fun a => f a e R) (.str a) y H Q → r (.str a) [y] H Q) (ho : PE X o (up (Cx.ky X) to)) (he : PE X e (up (Cx.ky X) te))
    (hs : starEach [e] X.env = [(false, eval e X.env)] := by rfl) (hbase : attributeBase o name X.env (eval o X.env) = eval o X.env := by rfl) (hline : (apos.endLine == pos.line) = true := by rfl) :
    PE X (.Call (.Attribute o name apos) [e] [] pos) (up (Cx.ky X) (dM1 f to te)) := by
  refine PE.imp (pe_m1 slot ty rule ho he hs hbase hline) fun σ H Q ⟨δ, R, c, L, es, h, k⟩ => ⟨δ, _, c, L, es, h, fun v H1 d x1 r1 h1 => ?_⟩
  obtain ⟨a, rfl, h2⟩ := asS_of h1
  have ev : v = .str a := r1
  subst ev
  refine ⟨⟨a, rfl⟩, ⟨δ, _, c, L, es.on x1, h2, fun u H2 e x2 r2 h3 => hf a u H2 Q ?_⟩⟩
  exact ⟨.p (.str a), e, R, _, (es.on (x1.trans x2)).dom, rfl, r2, h3, fun z H3 w x3 q1 q2 => k z H3 w (x1.trans (x2.trans x3)) q1 q2⟩
theorem de_m0 {id : String} {name : Str} {apos pos : Pos} {r : V → List V → Hp → VK → Prop} {f : Str → (DV → Prop) → Prop} (slot : Slot "str" name id) (ty : typeOf (.builtin id) = pure (.type "method_descriptor")) (rule : MtR X id r)
    (hf : ∀ a H Q, upU (Cx.ky X) (fun d R => asS d fun a => f a R) (.str a) H Q → r (.str a) [] H Q) (ho : PE X o (up (Cx.ky X) to))
    (hbase : attributeBase o name X.env (eval o X.env) = eval o X.env := by rfl) (hline : (apos.endLine == pos.line) = true := by rfl) :
    PE X (.Call (.Attribute o name apos) [] [] pos) (up (Cx.ky X) (dM0 f to)) := by
  refine PE.imp (pe_m0 slot ty rule ho hbase hline) fun σ H Q ⟨δ, R, c, L, es, h, k⟩ => ⟨δ, _, c, L, es, h, fun v H1 d x1 r1 h1 => ?_⟩
  obtain ⟨a, rfl, h2⟩ := asS_of h1
  have ev : v = .str a := r1
  subst ev
  exact ⟨⟨a, rfl⟩, hf a H1 Q ⟨.p (.str a), R, _, (es.on x1).dom, rfl, h2, fun z H3 w x3 q1 q2 => k z H3 w (x1.trans x3) q1 q2⟩⟩
/-- what a method of two texts asks, its answer by g -/
def fSS (g : Str → Str → PyData) : F1S := fun a e R => asS e fun b => R (.p (g a b))
theorem ss_of {κ : Ky} {g : Str → Str → PyData} {a : Str} {y : V} {H : Hp} {Q : VK} (h : upO κ (fun d e R => asS d fun a => fSS g a e R) (.str a) y H Q) : ∃ b, y = .str b ∧ ∀ v, Rv κ H (.p (g a b)) v → (∀ P, Rv κ (hide P H) (.p (g a b)) v) → Q v H := by
  obtain ⟨d, e, R, P, dm, r1, r2, h1, k⟩ := h
  obtain ⟨a', rfl, h2⟩ := asS_of h1
  obtain ⟨b, rfl, h3⟩ := asS_of h2
  have ea : V.str a = .str a' := r1
  cases ea
  exact ⟨b, r2, fun v _ q => k v H (.p (g a b)) (Ext.refl H) (q P) h3⟩
theorem de_startswith {apos pos : Pos} (ho : PE X o (up (Cx.ky X) to)) (he : PE X e (up (Cx.ky X) te)) (hs : starEach [e] X.env = [(false, eval e X.env)] := by rfl) (hbase : attributeBase o "startswith" X.env (eval o X.env) = eval o X.env := by rfl) (hline : (apos.endLine == pos.line) = true := by rfl) :
    PE X (.Call (.Attribute o "startswith" apos) [e] [] pos) (up (Cx.ky X) (dM1 (fSS fun a b => .bool (Txt.startswith a b)) to te)) :=
  de_m1 PySem.F.slot_str_startswith PySem.F.type_str_startswith mt_startswith (fun a y H Q h => by
    obtain ⟨b, e, k⟩ := ss_of h
    exact ⟨a, b, rfl, by rw [e], k _ rfl fun _ => rfl⟩) ho he hs hbase hline
theorem de_endswith {apos pos : Pos} (ho : PE X o (up (Cx.ky X) to)) (he : PE X e (up (Cx.ky X) te)) (hs : starEach [e] X.env = [(false, eval e X.env)] := by rfl) (hbase : attributeBase o "endswith" X.env (eval o X.env) = eval o X.env := by rfl) (hline : (apos.endLine == pos.line) = true := by rfl) :
    PE X (.Call (.Attribute o "endswith" apos) [e] [] pos) (up (Cx.ky X) (dM1 (fSS fun a b => .bool (Txt.endswith a b)) to te)) :=
  de_m1 PySem.F.slot_str_endswith PySem.F.type_str_endswith mt_endswith (fun a y H Q h => by
    obtain ⟨b, e, k⟩ := ss_of h
    exact ⟨a, b, rfl, by rw [e], k _ rfl fun _ => rfl⟩) ho he hs hbase hline
def fJoin : F1S := fun a e R => ∃ ys : List Str, (e = .p (.list (ys.map .str)) ∨ e = .p (.tuple (ys.map .str))) ∧ (ys.map (·.length)).sum + ys.length * a.length ≤ 16777216 ∧ R (.p (.str (Txt.join a ys)))
theorem rpA_strs {K : PySem.W.Frag} {H : Hp} : ∀ {ys : List Str} {vs : List V}, RpA K H (ys.map .str) vs → vs = ys.map V.str
  | [], _, h => h
  | b :: bs, _, ⟨v, r, e, h, t⟩ => by rw [e, show v = .str b from h, rpA_strs t]; rfl
theorem de_join {apos pos : Pos} (ho : PE X o (up (Cx.ky X) to)) (he : PE X e (up (Cx.ky X) te)) (hs : starEach [e] X.env = [(false, eval e X.env)] := by rfl) (hbase : attributeBase o "join" X.env (eval o X.env) = eval o X.env := by rfl) (hline : (apos.endLine == pos.line) = true := by rfl) :
    PE X (.Call (.Attribute o "join" apos) [e] [] pos) (up (Cx.ky X) (dM1 fJoin to te)) :=
  de_m1 PySem.F.slot_str_join PySem.F.type_str_join mt_join (fun a y H Q ⟨d, e, R, P, dm, r1, r2, h1, k⟩ => by
    obtain ⟨a', rfl, ys, he, hz, h3⟩ := asS_of h1
    have ea : V.str a = .str a' := r1
    cases ea
    rcases he with he | he
    · subst he
      obtain ⟨p, xs, e, q, ra⟩ := r2
      exact ⟨a, p, ys, rfl, by rw [e], .inl (SqL.of (by rw [← rpA_strs ra]; exact ((hide_ext P H).lst q).at_)), hz, k _ H (.p (.str (Txt.join a ys))) (Ext.refl H) rfl h3⟩
    · subst he
      obtain ⟨p, xs, e, q, ra⟩ := r2
      exact ⟨a, p, ys, rfl, by rw [e], .inr (by rw [← rpA_strs ra]; exact (hide_ext P H).seqT q), hz, k _ H (.p (.str (Txt.join a ys))) (Ext.refl H) rfl h3⟩) ho he hs hbase hline
end

/-! ### in -/
def flatD : PyData → Bool
  | .none => true | .bool _ => true | .int _ => true | .str _ => true
  | _ => false
/-- == of flat data -/
def eqF : PyData → PyData → Bool := PyData.eqv
def hasD (x : PyData) (ys : List PyData) : Bool := ys.any fun y => eqF y x
def fIn (neg : Bool) : F2 := fun d e R => asP d fun x => ∃ ys, (e = .p (.list ys) ∨ e = .p (.tuple ys)) ∧ flatD x = true ∧ ys.all flatD = true ∧ R (.p (.bool (if neg then !hasD x ys else hasD x ys)))
def vF : PyData → V
  | .none => .non | .bool b => .bl b | .int i => .int i | .str x => .str x
  | _ => .non
theorem rp_flat {K : PySem.W.Frag} {H : Hp} : ∀ {d : PyData} {v : V}, Rp K H d v → flatD d = true → v = vF d ∧ flatV v = true
  | .none, v, h, _ => by rw [show v = .non from h]; exact ⟨rfl, rfl⟩
  | .bool b, v, h, _ => by rw [show v = .bl b from h]; exact ⟨rfl, rfl⟩
  | .int i, v, h, _ => by rw [show v = .int i from h]; exact ⟨rfl, rfl⟩
  | .str x, v, h, _ => by rw [show v = .str x from h]; exact ⟨rfl, rfl⟩
  | .list _, _, _, f => Bool.noConfusion f
  | .tuple _, _, _, f => Bool.noConfusion f
  | .dict _, _, _, f => Bool.noConfusion f
theorem eqV_flat {x y : PyData} (fx : flatD x = true) (fy : flatD y = true) : eqV (vF x) (vF y) = eqF x y := by
  cases x <;> first
    | exact Bool.noConfusion fx
    | (cases y <;> first
        | exact Bool.noConfusion fy
        | rfl
        | simp [eqV, eqF, PyData.eqv, vF])
theorem rpA_flat {K : PySem.W.Frag} {H : Hp} : ∀ {ds : List PyData} {vs : List V}, RpA K H ds vs → ds.all flatD = true → vs = ds.map vF ∧ vs.all flatV = true
  | [], vs, h, _ => by rw [show vs = [] from h]; exact ⟨rfl, rfl⟩
  | d :: ds, _, ⟨v, r, e, h, t⟩, f => by
    rw [List.all_cons, Bool.and_eq_true] at f
    obtain ⟨a1, a2⟩ := rp_flat h f.1
    obtain ⟨b1, b2⟩ := rpA_flat t f.2
    rw [e, a1, b1, List.map_cons, List.all_cons, ← a1, ← b1, a2, b2]
    exact ⟨rfl, rfl⟩
theorem inV_flat {x : PyData} (fx : flatD x = true) : ∀ {ds : List PyData}, ds.all flatD = true → inV (vF x) (ds.map vF) = hasD x ds
  | [], _ => rfl
  | d :: ds, f => by
    rw [List.all_cons, Bool.and_eq_true] at f
    have q := inV_flat fx f.2
    unfold inV hasD at q ⊢
    rw [List.map_cons, List.any_cons, List.any_cons, q, eqV_flat f.1 fx]
section
variable {X : Cx}
theorem up_in {κ : Ky} {neg : Bool} {x y : V} {H : Hp} {Q : VK} (h : upO κ (fIn neg) x y H Q) : rIn κ.K neg x y H Q := by
  obtain ⟨d, e, R, P, dm, r1, r2, h1, k⟩ := h
  obtain ⟨a, rfl, ys, he, fx, fs, h2⟩ := asP_of h1
  obtain ⟨a1, a2⟩ := rp_flat r1 fx
  have fin : ∀ (p : Addr) (xs : List V), RpA κ.K (hide P H) ys xs → xs.all flatV = true ∧ Q (.bl (if neg then !inV x xs else inV x xs)) H := fun p xs ra => by
    obtain ⟨b1, b2⟩ := rpA_flat ra fs
    refine ⟨b2, ?_⟩
    rw [a1, b1, inV_flat fx fs]
    exact k _ H (.p (.bool (if neg then !hasD a ys else hasD a ys))) (Ext.refl H) rfl h2
  rcases he with he | he
  · subst he
    obtain ⟨p, xs, e, q, ra⟩ := r2
    exact ⟨p, xs, e, .inl (SqL.of ((hide_ext P H).lst q).at_), a2, fin p xs ra⟩
  · subst he
    obtain ⟨p, xs, e, q, ra⟩ := r2
    exact ⟨p, xs, e, .inr ((hide_ext P H).seqT q), a2, fin p xs ra⟩
theorem od_in : OpR X (compareOp .In) (upO (Cx.ky X) (fIn false)) := OpR.imp op_in_seq fun x y H Q h => up_in h
theorem od_notin : OpR X (compareOp .NotIn) (upO (Cx.ky X) (fIn true)) := OpR.imp op_notIn_seq fun x y H Q h => up_in h
/-- a text in a text -/
def inS (x y : Str) : Bool := !(Builtin.Str.occurrences y x 0 y.length 1).isEmpty
def fInS : F2 := fun d e R => asS d fun x => asS e fun y => R (.p (.bool (inS x y)))
theorem od_inS : OpR X (compareOp .In) (upO (Cx.ky X) fInS) := OpR.imp op_in_str fun x y H Q ⟨d, e, R, P, dm, r1, r2, h1, k⟩ => by
  obtain ⟨a, rfl, h2⟩ := asS_of h1
  obtain ⟨b, rfl, h3⟩ := asS_of h2
  exact ⟨a, b, r1, r2, k _ H (.p (.bool (inS a b))) (Ext.refl H) rfl h3⟩

/-! ### repetition of a text, of a tuple -/
def fRepS : F2 := fun d e R => asS d fun x => asI e fun i => x.length ≤ 16 ∧ -(2 ^ 63) ≤ i ∧ i ≤ 1048576 ∧ R (.p (.str (Txt.mul x i)))
theorem od_repS : OpR X (binaryOp .Mult) (upO (Cx.ky X) fRepS) := by
  intro pins s σ H x y v u Q I rx ry ⟨d, e, R, P, dm, r1, r2, h1, k⟩
  obtain ⟨a, rfl, h2⟩ := asS_of h1
  obtain ⟨i, rfl, z1, z2, z3, h3⟩ := asI_of h2
  rw [show x = .str a from r1] at rx
  rw [show y = .int i from r2] at ry
  obtain ⟨t, rfl⟩ := rx
  obtain ⟨t', rfl⟩ := ry
  exact PySem.W.KXi.mul rfl z1 z2 (by simpa using z3) fun u k' _ _ => ⟨.str (Txt.mul a i), H, I.tok _, ⟨u, rfl⟩, k _ H (.p (.str (Txt.mul a i))) (Ext.refl H) rfl h3⟩
end
end MR

/-! Sets of keys by data. -/
namespace MR
open PySem PySem.Spec PyProof.Rows L2

theorem setG_held {P : Program} {w : World} {H : Hp} {h : Heap} {a : Addr} {S : Key → Bool} {n : Nat} (R : SetG w h a S n) : ObjOk P w H h a (SetGO w a S n) := by
  obtain ⟨ob, el, ep, tb, ho, r⟩ := id R
  exact ⟨R, ⟨ob, ho⟩, fun h1 h2 p k => SetG.keeps p k⟩
theorem setG_get {X : Cx} {pins : List (Addr × Obj)} {σ : Sg} {H : Hp} {s : Shared} {a : Addr} {S : Key → Bool} {n : Nat} (I : Inv X pins σ H s) (h : H a = some (SetGO X.w a S n)) : SetG X.w s.heap a S n := (I.hok a _ h).1
/-- the keys of what a set is made from -/
def keysOf (d : PyData) (ks : List Key) : Prop := match d with
  | .str x => ks = x.cps.toList.map fun c => Sum.inr ⟨#[c]⟩
  | .list ds => ds = ks.map keyD
  | .tuple ds => ds = ks.map keyD
  | _ => False
def fSetOf : FL := fun ds R => ∃ d ks, ds = [.p d] ∧ keysOf d ks ∧ ks.length + 1 < scanBound ∧ R (.set ks)
theorem rp_key {K : PySem.W.Frag} {H : Hp} {k : Key} {v : V} (h : Rp K H (keyD k) v) : v = kV k := by
  cases k with
  | inl i => exact h
  | inr x => exact h
theorem rel_key {k : Key} {u : Value} (r : RelV (kV k) u) : kOf u = some k := by
  cases k with
  | inl i =>
    obtain ⟨t, rfl⟩ := r
    rfl
  | inr x =>
    obtain ⟨t, rfl⟩ := r
    rfl
theorem vals_keys {K : PySem.W.Frag} {H : Hp} : ∀ {ks : List Key} {vs : List V} {us : List Value}, RpA K H (ks.map keyD) vs → Vals vs us → ∀ (i : Nat) (u : Value), us[i]? = some u → ∃ k, ks[i]? = some k ∧ kOf u = some k
  | [], vs, us, h, r, i, u, e => by
    rw [show vs = [] from h] at r
    cases r
    cases e
  | k :: ks, vs, us, ⟨v, q, ev, h, t⟩, r, i, u, e => by
    rw [ev] at r
    cases r with
    | cons r1 r2 => cases i with
      | zero =>
        cases e
        rw [rp_key h] at r1
        exact ⟨k, rfl, rel_key r1⟩
      | succ i => exact vals_keys t r2 i u e
theorem vals_len {K : PySem.W.Frag} {H : Hp} {ks : List Key} {vs : List V} {us : List Value} (h : RpA K H (ks.map keyD) vs) (r : Vals vs us) : us.length = ks.length := by
  rw [← r.length, ← h.len, List.length_map]
section
variable {X : Cx}
theorem laid_set {pins : List (Addr × Obj)} {σ : Sg} {H : Hp} {s : Shared} {h' : Heap} {tk n : Nat} {S : Key → Bool} (I : Inv X pins σ H s) (R : SetG X.w h' s.heap.objs.size S n) (k : ∀ b o, s.heap.get? b = some o → h'.get? b = some o) :
    Inv X pins σ (upd H s.heap.objs.size (SetGO X.w s.heap.objs.size S n)) { s with heap := h', toks := tk } := I.laid k (Nat.le_refl _) (setG_held R)
theorem cd_set (hc : X.calm = true) : CallR X (.type "set") (upC (Cx.ky X) fSetOf) := by
  intro pins s σ H xs us Q I rx ⟨ds, R, P, dm, r, ⟨d, ks, e, hk, hb, h⟩, k⟩
  subst e
  obtain ⟨v, rfl, r1⟩ := rvA1 r
  obtain ⟨u, rfl, ru⟩ := Vals.one rx
  have hN : H s.heap.objs.size = none := I.hok.fresh (Nat.le_refl _)
  have fin : ∀ (h' : Heap) (tk c : Nat), SetG X.w h' s.heap.objs.size (fun j => hasK ks j) c → c ≤ ks.length → (∀ b o, s.heap.get? b = some o → h'.get? b = some o) → EP X pins σ Q (.ref s.heap.objs.size) { s with heap := h', toks := tk } := fun h' tk c g _ kp =>
    ⟨.ref s.heap.objs.size, _, laid_set I g kp, rfl, k _ _ (.set ks) (Ext.new hN) ⟨_, c, rfl, fresh_at dm hN⟩ h⟩
  cases d with
  | str x =>
    rw [show v = .str x from r1] at ru
    obtain ⟨t, rfl⟩ := ru
    cases ha : x.cps.all (· < 128) with
    | true => exact call_set_ascii ks (I.ok.hd hc) ha hk hb fin
    | false => exact call_set_wide ks (I.ok.hd hc) ha hk hb fin
  | list ds =>
    obtain ⟨a, ys, e, q, ra⟩ := r1
    subst e
    obtain rfl : u = Value.ref a := ru
    obtain ⟨its, rv, pl, _⟩ := I.list (SqL.of ((hide_ext P H).lst q).at_)
    have hk' : ds = ks.map keyD := hk
    subst hk'
    exact call_set_list (items := its.toArray) ks (I.ok.hd hc) pl.isList (by rw [List.size_toArray]; exact vals_len ra rv) (fun i u e => vals_keys ra rv i u (by simpa using e)) hb fin
  | tuple ds =>
    obtain ⟨a, ys, e, q, ra⟩ := r1
    subst e
    obtain rfl : u = Value.ref a := ru
    obtain ⟨its, rv, pl, _⟩ := I.tuple ((hide_ext P H).seqT q)
    have hk' : ds = ks.map keyD := hk
    subst hk'
    exact call_set_tuple (items := its.toArray) ks (I.ok.hd hc) pl (by rw [List.size_toArray]; exact vals_len ra rv) (fun i u e => vals_keys ra rv i u (by simpa using e)) hb fin
  | _ => exact hk.elim
/-- k in a set -/
def fInK (neg : Bool) : F2 := fun d e R => ∃ k ks, d = .p (keyD k) ∧ e = .set ks ∧ R (.p (.bool (if neg then !hasK ks k else hasK ks k)))
theorem od_inK : OpR X (compareOp .In) (upO (Cx.ky X) (fInK false)) := by
  intro pins s σ H x y v u Q I rx ry ⟨d, e, R, P, dm, r1, r2, ⟨k, ks, e1, e2, h⟩, kk⟩
  subst e1 e2
  obtain ⟨a, n, rfl, ha⟩ := r2
  rw [rp_key r1] at rx
  obtain rfl : u = Value.ref a := ry
  have g := setG_get I (show H a = some (SetGO X.w a (hasK ks) n) from by
    unfold hide at ha
    split at ha
    · cases ha
    · exact ha)
  exact wpAny_inSet_of (knd := mixKind X.prog X.w) (kOf_is.mpr (rel_key rx)) (kOf_scan (rel_key rx)) g.toOf ⟨.bl (hasK ks k), H, I.tok _, rfl, kk _ H (.p (.bool (hasK ks k))) (Ext.refl H) rfl h⟩
theorem od_notinK : OpR X (compareOp .NotIn) (upO (Cx.ky X) (fInK true)) := by
  intro pins s σ H x y v u Q I rx ry ⟨d, e, R, P, dm, r1, r2, ⟨k, ks, e1, e2, h⟩, kk⟩
  subst e1 e2
  obtain ⟨a, n, rfl, ha⟩ := r2
  rw [rp_key r1] at rx
  obtain rfl : u = Value.ref a := ry
  have g := setG_get I (show H a = some (SetGO X.w a (hasK ks) n) from by
    unfold hide at ha
    split at ha
    · cases ha
    · exact ha)
  exact wpAny_notInSet_of (knd := mixKind X.prog X.w) (kOf_is.mpr (rel_key rx)) (kOf_scan (rel_key rx)) g.toOf ⟨.bl (!hasK ks k), H, I.tok _, rfl, kk _ H (.p (.bool (!hasK ks k))) (Ext.refl H) rfl h⟩
end

/-! ### sorted of a set of texts -/
/-- in order, each once -/
def RisS (xs : List Str) : Prop := xs.Pairwise fun a b => a.cps.toList < b.cps.toList
def fSortK : FL := fun ds R => ∃ ks : List Str, ds = [.set (ks.map Sum.inr)] ∧ ∀ zs, RisS zs → (∀ x, x ∈ zs ↔ x ∈ ks) → zs.length ≤ sizeLine → R (.p (.list (zs.map .str)))
theorem risS_of {ys : List Str} (nd : ys.Nodup) : RisS (ys.mergeSort (PySem.W.dataLe false PyData.str)) := by
  have e : (PySem.W.dataLe false PyData.str : Str → Str → Bool) = fun a b => decide (a.cps.toList ≤ b.cps.toList) := PySem.W.dataLe_str (β := Str) (fun b => b)
  rw [e]
  have s1 := List.pairwise_mergeSort (le := fun (a b : Str) => decide (a.cps.toList ≤ b.cps.toList)) (fun a b c h1 h2 => by
    have h1 := of_decide_eq_true h1
    have h2 := of_decide_eq_true h2
    exact decide_eq_true (Std.le_trans h1 h2)) (fun a b => by
    rcases Std.le_total (a := a.cps.toList) (b := b.cps.toList) with h | h
    · rw [decide_eq_true h]; rfl
    · rw [decide_eq_true h, Bool.or_true]) ys
  have nd2 : (ys.mergeSort fun (a b : Str) => decide (a.cps.toList ≤ b.cps.toList)).Nodup := (List.mergeSort_perm ys _).nodup_iff.mpr nd
  unfold RisS
  refine List.Pairwise.imp₂ (fun a b h1 h2 => ?_) s1 nd2
  have h1 := of_decide_eq_true h1
  exact Std.lt_of_le_of_ne h1 fun z => h2 (by
    cases a with | mk a => cases b with | mk b =>
    have z' : a.toList = b.toList := z
    rw [show a = b from Array.toList_inj.mp z'])
theorem each_vals : ∀ {us : List Value} {xs : List Str}, PySem.W.EachIs (fun v x => ∃ t, v = Value.str x t) us xs → Vals (xs.map V.str) us
  | _, _, .nil => .nil
  | _, _, .cons ⟨t, e⟩ r => .cons ⟨t, e⟩ (each_vals r)
theorem nP_strs (xs : List Str) : nP (xs.map .str) = true := by
  match xs with
  | [] => rfl
  | [_] => rfl
  | [_, _] => rfl
  | _ :: _ :: _ :: _ => rfl
theorem rpA_txt {K : PySem.W.Frag} {H : Hp} : ∀ xs : List Str, RpA K H (xs.map .str) (xs.map V.str)
  | [] => rfl
  | x :: xs => ⟨.str x, xs.map V.str, rfl, rfl, rpA_txt xs⟩
section
variable {X : Cx}
theorem cd_sortK {k : Nat} (hc : X.calm = true) (hr : Room k X.A) : CallR X (.builtin "sorted") (upC (Cx.ky X) fSortK) := by
  intro pins s σ H xs us Q I rx ⟨ds, R, P, dm, r, ⟨ks, e, h⟩, kk⟩
  subst e
  obtain ⟨v, q, e1, ⟨a, n, ev, ha⟩, e2⟩ := r
  have e3 : q = [] := e2
  subst e1 e3 ev
  obtain ⟨u, rfl, ru⟩ := Vals.one rx
  obtain rfl : u = Value.ref a := ru
  have g := setG_get I (show H a = some (SetGO X.w a (hasK (ks.map Sum.inr)) n) from by
    unfold hide at ha
    split at ha
    · cases ha
    · exact ha)
  refine sorted_setG g (I.ok.hd hc) (by have := hr.un; omega) (fun k hk => ?_) fun s' p out c zs kp hg ho hp hl each hz => ?_
  · obtain ⟨x, _, e⟩ := List.mem_map.mp (hasK_iff.mp hk)
    exact ⟨x, e.symm⟩
  · obtain ⟨ys, rfl, hyz, nd, mem⟩ := hz
    have hN : H p = none := I.hok.fresh hp
    have lenz : out.toList.length = (ys.mergeSort (PySem.W.dataLe false PyData.str)).length := each.length
    have hbd : (ys.mergeSort (PySem.W.dataLe false PyData.str)).length ≤ sizeLine := by
      rw [List.length_mergeSort]
      exact hyz
    have I2 : Inv X pins σ (upd H p (.lst ((ys.mergeSort (PySem.W.dataLe false PyData.str)).map V.str))) s' := by
      obtain ⟨h2, g2, d2, t2, o2⟩ := s'
      have eg : g2 = s.gens := hg
      have eo : o2 = s.os := ho
      subst eg eo
      have J := (I.laid (t' := t2) (o := .lst ((ys.mergeSort (PySem.W.dataLe false PyData.str)).map V.str)) kp hp ⟨by rw [List.length_map]; exact hbd, out.toList, c, each_vals each, by rw [Array.toArray_toList]; exact hl⟩)
      exact ⟨J.ok, J.os, J.bare, J.base, J.loc, J.cell, J.free, J.freeC, J.pin, J.hok, J.len⟩
    refine ⟨.ref p, _, I2, rfl, kk _ _ (.p (.list ((ys.mergeSort (PySem.W.dataLe false PyData.str)).map .str))) (Ext.new hN) (new_lst dm hN (rpA_txt _) (nP_strs _)) (h _ (risS_of nd) (fun x => ?_) hbd)⟩
    rw [(List.mergeSort_perm ys _).mem_iff, mem x, hasK_iff, List.mem_map]
    exact ⟨fun ⟨y, hy, e⟩ => Sum.inr.inj e ▸ hy, fun hx => ⟨x, hx, rfl⟩⟩
end
/-- such a list is the only one -/
theorem risS_one : ∀ {xs ys : List Str}, RisS xs → RisS ys → (∀ x, x ∈ xs ↔ x ∈ ys) → xs = ys := by
  intro xs
  induction xs with
  | nil =>
    intro ys _ _ h
    cases ys with
    | nil => rfl
    | cons y ys => exact absurd ((h y).mpr List.mem_cons_self) List.not_mem_nil
  | cons x xs ih =>
    intro ys hx hy h
    cases ys with
    | nil => exact absurd ((h x).mp List.mem_cons_self) List.not_mem_nil
    | cons y ys =>
      obtain ⟨x1, x2⟩ := List.pairwise_cons.mp hx
      obtain ⟨y1, y2⟩ := List.pairwise_cons.mp hy
      have irr : ∀ a : Str, ¬ a.cps.toList < a.cps.toList := fun a z => Std.lt_irrefl z
      have e : x = y := by
        rcases List.mem_cons.mp ((h x).mp List.mem_cons_self) with z | z
        · exact z
        · rcases List.mem_cons.mp ((h y).mpr List.mem_cons_self) with w | w
          · exact w.symm
          · exact absurd (Std.lt_trans (y1 x z) (x1 y w)) (irr y)
      subst e
      have t := ih x2 y2 fun z => by
        constructor
        · intro hz
          rcases List.mem_cons.mp ((h z).mp (List.mem_cons_of_mem _ hz)) with w | w
          · subst w
            exact absurd (x1 z hz) (irr z)
          · exact w
        · intro hz
          rcases List.mem_cons.mp ((h z).mpr (List.mem_cons_of_mem _ hz)) with w | w
          · subst w
            exact absurd (y1 z hz) (irr z)
          · exact w
      rw [t]
end MR

/-! Great ints, the script, the well of drawn numbers. -/
namespace MR
open PySem PySem.Spec PyProof.Rows L2

/-! ### bits -/
theorem Bd.mono {n m : Nat} {i : Int} (h : Bd n i) (l : n ≤ m) : Bd m i := let ⟨b, h0, h1, h2⟩ := h; ⟨b, h0, Nat.le_trans h1 l, h2⟩
theorem Bd.top {n : Nat} {i : Int} (h : Bd n i) : i.natAbs < 2 ^ n := let ⟨_, _, h1, h2⟩ := h; Nat.lt_of_lt_of_le h2 (Nat.pow_le_pow_right (by decide) h1)
theorem Bd.of {n : Nat} {i : Int} (h0 : 0 < n) (h : i.natAbs < 2 ^ n) : Bd n i := ⟨n, h0, Nat.le_refl _, h⟩
theorem Bd.mul {n m : Nat} {i j : Int} (h : Bd n i) (h' : Bd m j) : Bd (n + m) (i * j) := by
  obtain ⟨b, b0, b1, b2⟩ := h
  obtain ⟨c, c0, c1, c2⟩ := h'
  refine ⟨b + c, by omega, by omega, ?_⟩
  rw [Int.natAbs_mul, Nat.pow_add]
  exact Nat.mul_lt_mul'' b2 c2
theorem Bd.add {n : Nat} {i j : Int} (h : Bd n i) (h' : Bd n j) : Bd (n + 1) (i + j) := by
  obtain ⟨b, b0, b1, b2⟩ := h
  obtain ⟨c, c0, c1, c2⟩ := h'
  refine ⟨max b c + 1, by omega, by omega, ?_⟩
  have e1 : 2 ^ b ≤ 2 ^ max b c := Nat.pow_le_pow_right (by decide) (by omega)
  have e2 : 2 ^ c ≤ 2 ^ max b c := Nat.pow_le_pow_right (by decide) (by omega)
  have e3 := Int.natAbs_add_le i j
  rw [Nat.pow_succ]
  omega
theorem Bd.less {n : Nat} {i j : Int} (h : Bd n i) (l : j.natAbs ≤ i.natAbs) : Bd n j := let ⟨b, b0, b1, b2⟩ := h; ⟨b, b0, b1, Nat.lt_of_le_of_lt l b2⟩
theorem Bd.bits {n : Nat} {i : Int} (h : Bd n i) : Builtin.Int.intBits i ≤ n := let ⟨b, _, b1, b2⟩ := h; Nat.le_trans (intBits_le b2) b1
theorem Bd.ofBits {n : Nat} {i : Int} (h0 : 0 < n) (h : Builtin.Int.intBits i ≤ n) : Bd n i := by
  unfold Builtin.Int.intBits at h
  split at h
  · rename_i z
    have z' : i = 0 := by simpa using z
    exact ⟨1, by decide, h0, by rw [z']; decide⟩
  · exact ⟨i.natAbs.log2 + 1, by omega, by omega, Nat.lt_log2_self⟩
theorem Bd.mulOk {i j : Int} (h : Bd 30000000 i) (h' : Bd 30000000 j) : IntMulOk i j := by
  have a := h.bits
  have b := h'.bits
  unfold IntMulOk
  intro z
  rw [Bool.and_eq_true] at z
  have z2 := of_decide_eq_true (show decide (((Builtin.Int.intBits i + Builtin.Int.intBits j : Nat) : Int) > (bitsLine : Int)) = true from z.2)
  have e : bitsLine = 134217728 := by decide
  rw [e] at z2
  omega

/-! ### operations of great ints -/
abbrev CB (i j : Int) : Prop := Bd 30000000 i ∧ Bd 30000000 j
section
variable {X : Cx}
theorem od_mulB : OpR X (binaryOp .Mult) (upO (Cx.ky X) (fI CB fun i j => i * j)) := OpR.imp (opI (C := fun i j => CB i j) (g := fun i j => i * j) fun i j t u s Q E hc q => mul_int q (Bd.mulOk hc.1 hc.2)) fun x y H Q h => up_I h
abbrev CPw (i j : Int) : Prop := (j = 2 ∨ j = 3) ∧ Bd 40000000 i
theorem od_pow : OpR X (binaryOp .Pow) (upO (Cx.ky X) (fI CPw fun i j => i ^ j.toNat)) := OpR.imp (opI (C := fun i j => CPw i j) (g := fun i j => i ^ j.toNat) fun i j t u s Q E hc q => pow_int (by omega) (by
    have b := hc.2.bits
    rcases hc.1 with e | e <;> subst e <;> omega) q) fun x y H Q h => up_I h
end

/-! ### the script -/
def dScLen (t : TD) : TD := fun δ R => t δ fun d => ∃ ns, d = .scr ns ∧ R (.p (.int ns.length))
def fScIx : F2 := fun d e R => ∃ ns i y, d = .scr ns ∧ e = .p (.int i) ∧ atI ns i = some y ∧ R (.p (.int y))
def dItSc (t : TD) : TDI := fun δ R => t δ fun d => ∃ ns, d = .scr ns ∧ R (ns.map .int)
def fLenS : FL := fun ds R => ∃ ns, ds = [.scr ns] ∧ R (.p (.int ns.length))
theorem atI_map {α β : Type} {f : α → β} {xs : List α} {i : Int} {y : α} (h : atI xs i = some y) : atI (xs.map f) i = some (f y) := by
  unfold atI at h ⊢
  rw [List.length_map]
  cases e : ixN xs.length i with
  | none => rw [e] at h; cases h
  | some j =>
    rw [e] at h
    have h' : xs[j]? = some y := h
    show (xs.map f)[j]? = some (f y)
    rw [List.getElem?_map, h']
    rfl
section
variable {X : Cx} {tg e a b : Expr} {ta tb : TD} {pos : Pos}
theorem cd_lenS : CallR X (.builtin "len") (upC (Cx.ky X) fLenS) := CallR.imp call_len_seq fun xs H Q ⟨ds, R, P, dm, r, ⟨ns, e, h⟩, k⟩ => by
  subst e
  obtain ⟨v, q, e1, ⟨a, ev, hs⟩, e2⟩ := r
  have e3 : q = [] := e2
  subst e1 e3 ev
  exact ⟨a, ns.map V.int, rfl, .inl (((hide_ext P H).seqL hs).1), by rw [List.length_map]; exact k _ H (.p (.int ns.length)) (Ext.refl H) rfl h⟩
theorem de_ixS (ha : PE X a (up (Cx.ky X) ta)) (hb : PE X b (up (Cx.ky X) tb)) (hs : PlainIx b := by exact fun _ _ => rfl) : PE X (.Subscript a b pos) (up (Cx.ky X) (dOp fScIx ta tb)) :=
  PE.imp (pe_ix (IxR.imp (r := upO (Cx.ky X) fScIx) ix_list fun x y H Q ⟨d, e, R, P, dm, r1, r2, ⟨ns, i, z, e1, e2, hz, h⟩, k⟩ => by
    subst e1 e2
    obtain ⟨p, ev, hs⟩ := r1
    exact ⟨p, ns.map V.int, i, .int z, ev, r2, ((hide_ext P H).seqL hs).1, atI_map hz, k _ H (.p (.int z)) (Ext.refl H) rfl h⟩) ha hb hs) fun _ _ _ h => up_op h
theorem itk_scr {κ : Ky} {a : Addr} {ns : List Int} : ItK κ (Itl κ.K a) (ns.map .int) [.scr ns] [.ref a] where
  go := fun H P' i _ r hi => by
    obtain ⟨v, r', e, ⟨a', ev, hq⟩, _⟩ := r
    cases e
    cases ev
    rw [List.length_map] at hi
    exact ⟨ns.map V.int, .int ns[i], ((hide_ext P' H).seqL hq).1, by rw [List.getElem?_map, List.getElem?_eq_getElem hi]; rfl⟩
  stop := fun H P' i _ r hi => by
    obtain ⟨v, r', e, ⟨a', ev, hq⟩, _⟩ := r
    cases e
    cases ev
    exact ⟨ns.map V.int, ((hide_ext P' H).seqL hq).1, by rw [List.length_map] at hi ⊢; exact hi⟩
  yld := fun H P' i x H2 _ r hi hy => by
    obtain ⟨v, r', e, ⟨a', ev, hq⟩, _⟩ := r
    cases e
    cases ev
    obtain ⟨rfl, f⟩ := hy
    have g := f _ (((hide_ext P' H2).seqL hq).1)
    rw [List.length_map] at hi
    rw [List.getElem?_map, List.getElem?_eq_getElem hi] at g
    cases g
    exact ⟨.int ns[i], by rw [List.getElem?_map, List.getElem?_eq_getElem hi]; rfl, Ext.refl _, rfl⟩
theorem di_scr (he : PE X e (up (Cx.ky X) ta)) : PI X tg e (upI (Cx.ky X) (dItSc ta)) := by
  refine PI.imp (pi_list he) fun σ H R ⟨δ, R', c, L, es, h, k⟩ => ⟨δ, _, c, L, es, h, fun v H1 d x1 r1 ⟨ns, e1, h2⟩ => ?_⟩
  subst e1
  obtain ⟨a, e, q⟩ := id r1
  subst e
  exact ⟨a, rfl, ⟨_, ((hide_ext _ _).seqL q).1⟩, k _ H1 (ns.map .int) [.scr ns] [.ref a] x1 ⟨_, [], rfl, r1, rfl⟩ itk_scr h2⟩
end

/-! ### the well -/
def wellO (i j : Int) : HO := .lst [.int i, .int j]
def dWell (t u : TD) : TD := fun δ R => t δ fun d => u δ fun e => asI d fun i => asI e fun j => WI i ∧ WJ j ∧ R .well
/-- what stands in the well: nothing more is told of it than that it is in bounds -/
def dDig (t : TD) : TD := fun δ R => t δ fun d => d = .well ∧ ∀ i, WI i → R (.p (.int i))
def dMix (t : TD) : TD := fun δ R => t δ fun d => d = .well ∧ ∀ j, WJ j → R (.p (.int j))
def dPutD (t u : TD) : TDS := fun E δ => u δ fun e => asI e fun i => t δ fun d => d = .well ∧ WI i ∧ E.nx δ
def dPutM (t u : TD) : TDS := fun E δ => u δ fun e => asI e fun j => t δ fun d => d = .well ∧ WJ j ∧ E.nx δ
theorem upd_back {H : Hp} {a : Addr} {o u : HO} (h : H a = some o) : upd (upd H a u) a o = H := funext fun b => by
  by_cases hb : b = a
  · rw [hb, upd_same, h]
  · rw [upd_ne hb, upd_ne hb]
theorem well_in {κ : Ky} {P : Addr → Bool} {H : Hp} {v : V} (h : Rv κ (hide P H) .well v) : ∃ a, v = .ref a ∧ H a = some (WellGO a) := by
  obtain ⟨a, e, h1⟩ := h
  exact ⟨a, e, hide_some h1⟩
section
variable {X : Cx} {pins : List (Addr × Obj)} {σ : Sg} {H : Hp} {s : Shared} {a : Addr}
theorem inv_ofWell (I : Inv X pins σ H s) (h : H a = some (WellGO a)) : ∃ i j, WI i ∧ WJ j ∧ Inv X pins σ (upd H a (wellO i j)) s := by
  obtain ⟨⟨i, j, its, n, wi, wj, r, e⟩, _, _⟩ := I.hok a _ h
  exact ⟨i, j, wi, wj, I.write (x := a) (e := a) (t' := s.toks) (h' := s.heap) (by rw [h]; trivial) (.inl rfl) (fun _ _ _ q => q) ⟨_, e⟩ ⟨by show 2 ≤ sizeLine; decide, its, n, r, e⟩⟩
theorem inv_toWell {i j : Int} (I : Inv X pins σ H s) (h : H a = some (wellO i j)) (wi : WI i) (wj : WJ j) : Inv X pins σ (upd H a (WellGO a)) s := by
  obtain ⟨_, its, n, r, e⟩ := I.hok a _ h
  exact I.write (x := a) (e := a) (t' := s.toks) (h' := s.heap) (by rw [h]; trivial) (.inl rfl) (fun _ _ _ q => q) ⟨_, e⟩ ⟨⟨i, j, its, n, wi, wj, r, e⟩, ⟨_, e⟩, fun h1 h2 ⟨i, j, its, n, w1, w2, r, e⟩ k => ⟨i, j, its, n, w1, w2, r, k _ e⟩⟩
theorem inv_backWell {i j i' j' : Int} (h : H a = some (WellGO a)) (wi : WI i') (wj : WJ j') (I : Inv X pins σ (upd (upd H a (wellO i j)) a (wellO i' j')) s) : Inv X pins σ H s := by
  have q := inv_toWell I upd_same wi wj
  have e : upd (upd (upd H a (wellO i j)) a (wellO i' j')) a (WellGO a) = H := funext fun b => by
    by_cases hb : b = a
    · rw [hb, upd_same, h]
    · rw [upd_ne hb, upd_ne hb, upd_ne hb]
  rw [e] at q
  exact q
end
def rIxW : R2 := fun x y H Q => ∃ a k, x = .ref a ∧ H a = some (WellGO a) ∧ y = .int k ∧ ((k = 0 ∧ ∀ i, WI i → Q (.int i) H) ∨ (k = 1 ∧ ∀ j, WJ j → Q (.int j) H))
theorem ix_well {X : Cx} : IxR X rIxW := by
  intro value slice pins s σ H x y v u Q I rx ry h hs
  obtain ⟨a, k, rfl, ha, rfl, h⟩ := h
  obtain ⟨i, j, wi, wj, I1⟩ := inv_ofWell I ha
  obtain ⟨z, hz, hq⟩ : ∃ z, atI [V.int i, V.int j] k = some z ∧ Q z H := by
    rcases h with ⟨rfl, h⟩ | ⟨rfl, h⟩
    · exact ⟨_, rfl, h i wi⟩
    · exact ⟨_, rfl, h j wj⟩
  refine thn (ix_list value slice pins s σ (upd H a (wellO i j)) _ _ v u (fun z' H' => H' = upd H a (wellO i j) ∧ z' = z) I1 rx ry ⟨a, _, k, z, rfl, rfl, SqL.of upd_same, hz, rfl, rfl⟩ hs) fun w s1 hw => ?_
  obtain ⟨z', H', I2, r, e1, e2⟩ := hw
  subst e2
  have e3 : upd (upd H a (wellO i j)) a (wellO i j) = upd H a (wellO i j) := funext fun b => by
    by_cases hb : b = a
    · rw [hb, upd_same, upd_same]
    · rw [upd_ne hb]
  rw [e1, ← e3] at I2
  exact ⟨z', H, inv_backWell ha wi wj I2, r, hq⟩
def rSetW : V → V → V → Hp → (Hp → Prop) → Prop := fun o i v H Q => ∃ a k z, o = .ref a ∧ H a = some (WellGO a) ∧ i = .int k ∧ v = .int z ∧ ((k = 0 ∧ WI z) ∨ (k = 1 ∧ WJ z)) ∧ Q H
theorem set_well {X : Cx} : PSet X rSetW := by
  intro pins s σ H o i v ov iv u Q I ro ri rv h
  obtain ⟨a, k, z, rfl, ha, rfl, rfl, h, hq⟩ := h
  obtain ⟨i, j, wi, wj, I1⟩ := inv_ofWell I ha
  obtain ⟨n, hn, i', j', hs, wi', wj'⟩ : ∃ n, ixN [V.int i, V.int j].length k = some n ∧ ∃ i' j', [V.int i, V.int j].set n (.int z) = [V.int i', V.int j'] ∧ WI i' ∧ WJ j' := by
    rcases h with ⟨rfl, w⟩ | ⟨rfl, w⟩
    · exact ⟨0, rfl, z, j, rfl, w, wj⟩
    · exact ⟨1, rfl, i, z, rfl, wi, w⟩
  refine thn (set_list pins s σ (upd H a (wellO i j)) _ _ _ ov iv u (fun H' => H' = upd (upd H a (wellO i j)) a (wellO i' j')) I1 ro ri rv ⟨a, _, k, n, rfl, rfl, upd_same, hn, by rw [hs]; rfl⟩) fun _ s1 hw => ?_
  obtain ⟨H', I2, e1⟩ := hw
  rw [e1] at I2
  exact ⟨H, inv_backWell ha wi' wj' I2, hq⟩
/-- a new list of two numbers as a well -/
theorem pe_toWell {X : Cx} {e : Expr} {t : TE} (h : PE X e t) : PE X e fun σ H Q => t σ H fun v H' => ∃ a i j, v = .ref a ∧ H' a = some (wellO i j) ∧ WI i ∧ WJ j ∧ Q v (upd H' a (WellGO a)) := by
  refine ⟨fun pins s σ H Q I hw => ?_⟩
  refine thn (h.run pins s σ H _ I hw) fun v s1 hv => ?_
  obtain ⟨x, H1, I2, r, a, i, j, e1, ha, wi, wj, q⟩ := hv
  exact ⟨x, _, inv_toWell I2 ha wi wj, r, q⟩
section
variable {X : Cx} {e : Expr} {t u : TD} {pos p1 : Pos} {j1 : _}
theorem de_dig (he : PE X e (up (Cx.ky X) t)) : PE X (.Subscript e (.Constant (.int 0) j1 p1) pos) (up (Cx.ky X) (dDig t)) := by
  refine PE.imp (pe_ix ix_well he pe_int (fun _ _ => rfl)) fun σ H Q ⟨δ, R, c, L, es, h, k⟩ => ⟨δ, _, c, L, es, h, fun v H1 d x1 r1 ⟨e1, h1⟩ => ?_⟩
  subst e1
  obtain ⟨a, ev, ha⟩ := well_in r1
  exact ⟨a, 0, ev, ha, rfl, .inl ⟨rfl, fun i w => k _ H1 (.p (.int i)) x1 rfl (h1 i w)⟩⟩
theorem de_mix (he : PE X e (up (Cx.ky X) t)) : PE X (.Subscript e (.Constant (.int 1) j1 p1) pos) (up (Cx.ky X) (dMix t)) := by
  refine PE.imp (pe_ix ix_well he pe_int (fun _ _ => rfl)) fun σ H Q ⟨δ, R, c, L, es, h, k⟩ => ⟨δ, _, c, L, es, h, fun v H1 d x1 r1 ⟨e1, h1⟩ => ?_⟩
  subst e1
  obtain ⟨a, ev, ha⟩ := well_in r1
  exact ⟨a, 1, ev, ha, rfl, .inr ⟨rfl, fun j w => k _ H1 (.p (.int j)) x1 rfl (h1 j w)⟩⟩
theorem ds_putD {value : Expr} {pos' : Pos} (he : PE X e (up (Cx.ky X) t)) (hv : PE X value (up (Cx.ky X) u)) (hs : swapsWithSole [.Subscript e (.Constant (.int 0) j1 p1) pos'] value pos.line X.env = pure false := by rfl) (hw : swappedStores [.Subscript e (.Constant (.int 0) j1 p1) pos'] value X.env = pure none := by rfl) :
    PS X (.Assign [.Subscript e (.Constant (.int 0) j1 p1) pos'] value pos) (upS (Cx.ky X) (dPutD t u)) := by
  refine PS.imp (ps_asg hv (pg_sub he pe_int set_well) hs hw) fun D σ H ⟨δ, E, c, L, es, h, f⟩ => ⟨δ, _, c, L, es, h, fun v H1 d x1 r1 h1 => ?_⟩
  obtain ⟨z, rfl, h2⟩ := asI_of h1
  refine ⟨δ, _, c, L, es.on x1, h2, fun w H2 d2 x2 r2 ⟨e2, wz, h3⟩ => ?_⟩
  subst e2
  obtain ⟨a, ev, ha⟩ := well_in r2
  have ev2 : v = .int z := r1
  subst ev2
  exact ⟨a, 0, z, ev, ha, rfl, rfl, .inl ⟨rfl, wz⟩, f.nx δ σ _ L (es.on (x1.trans x2)) h3⟩
theorem ds_putM {value : Expr} {pos' : Pos} (he : PE X e (up (Cx.ky X) t)) (hv : PE X value (up (Cx.ky X) u)) (hs : swapsWithSole [.Subscript e (.Constant (.int 1) j1 p1) pos'] value pos.line X.env = pure false := by rfl) (hw : swappedStores [.Subscript e (.Constant (.int 1) j1 p1) pos'] value X.env = pure none := by rfl) :
    PS X (.Assign [.Subscript e (.Constant (.int 1) j1 p1) pos'] value pos) (upS (Cx.ky X) (dPutM t u)) := by
  refine PS.imp (ps_asg hv (pg_sub he pe_int set_well) hs hw) fun D σ H ⟨δ, E, c, L, es, h, f⟩ => ⟨δ, _, c, L, es, h, fun v H1 d x1 r1 h1 => ?_⟩
  obtain ⟨z, rfl, h2⟩ := asI_of h1
  refine ⟨δ, _, c, L, es.on x1, h2, fun w H2 d2 x2 r2 ⟨e2, wz, h3⟩ => ?_⟩
  subst e2
  obtain ⟨a, ev, ha⟩ := well_in r2
  have ev2 : v = .int z := r1
  subst ev2
  exact ⟨a, 1, z, ev, ha, rfl, rfl, .inr ⟨rfl, wz⟩, f.nx δ σ _ L (es.on (x1.trans x2)) h3⟩
/-- [e, e2], the well -/
theorem de_well {e2 : Expr} (h1 : PE X e (up (Cx.ky X) t)) (h2 : PE X e2 (up (Cx.ky X) u)) (hs : starEach [e, e2] X.env = (false, eval e X.env) :: starEach [e2] X.env := by rfl) (hs2 : starEach [e2] X.env = (false, eval e2 X.env) :: starEach [] X.env := by rfl) : PE X (.List [e, e2] pos) (up (Cx.ky X) (dWell t u)) := by
  refine PE.imp (pe_toWell (pe_lst (da_cons h1 (da_cons h2 da_nil hs2) hs))) fun σ H Q ⟨δ, R, c, L, es, h, k⟩ => ⟨δ, fun ds => (match ds with | [d, e] => asI d fun i => asI e fun j => WI i ∧ WJ j ∧ R .well | _ => False), c, L, es, h, fun vs H1 ds x1 r1 h1 => ?_⟩
  obtain ⟨i, j, rfl, wi, wj, hr⟩ : ∃ i j, ds = [.p (.int i), .p (.int j)] ∧ WI i ∧ WJ j ∧ R .well := by
    match ds, h1 with
    | [d, e], h1 =>
      obtain ⟨i, rfl, h2⟩ := asI_of h1
      obtain ⟨j, rfl, h3⟩ := asI_of h2
      exact ⟨i, j, rfl, h3⟩
  obtain ⟨v, w, rfl, rv, rw'⟩ := rvA2 r1
  have ev : v = .int i := rv
  have ew : w = .int j := rw'
  subst ev ew
  refine ⟨by show 2 ≤ sizeLine; decide, fun p hp => ⟨p, i, j, rfl, upd_same, wi, wj, ?_⟩⟩
  have e : upd (upd H1 p (wellO i j)) p (WellGO p) = upd H1 p (WellGO p) := funext fun b => by
    by_cases hb : b = p
    · rw [hb, upd_same, upd_same]
    · rw [upd_ne hb, upd_ne hb, upd_ne hb]
  show _
  refine cast (congrArg _ e.symm) ?_
  exact k _ _ .well (x1.trans (Ext.new hp)) ⟨p, rfl, fresh_at (es.on x1).dom hp⟩ hr
end
end MR

/-! A law's end for promises by data. -/
namespace MR
open PySem PySem.Spec PyProof.Rows L2
/-- what law(script) promises -/
def fLaw : FL := fun ds R => ∃ ns, ds = [.scr ns] ∧ ns.length ≤ 63 ∧ (∀ n ∈ ns, Bd 1048576 n) ∧ R (.p (.bool true))
theorem law_goes {P : Program} {w : World} {K : PySem.W.Frag} {mg mb : Str → Option Value} {k : Nat} {fa a : Addr} {fd : FuncData} {s₁ : Shared} {vs : List Value} {ns : List Int}
    (inK : K.In s₁.heap) (main : s₁.heap.Ns mainGlobals mg) (blt : s₁.heap.Ns builtinsNs mb) (boot : ∀ x : Str, x ≠ "__name__" → mb x = bootBuiltins x) (limit : s₁.heap.NoLimit) (nogen : s₁.gens = #[])
    (sys : ∃ mm, s₁.heap.Ns sysModules mm) (offK : K.lookup sysModules = none)
    (there : s₁.heap.get? a = some { cls := .type "list", data := .seq vs.toArray }) (areI : IntsAre vs ns) (short : ns.length ≤ 63) (bits : ∀ z ∈ ns, Builtin.Int.intBits z ≤ 1048576) (room : Room k callerA)
    (F : ∀ base : Heap, K.In base → base.Ns mainGlobals mg → FnG P w K mg base CX0 k fa fd ["script"] (spD ⟨K, P, w⟩ fLaw)) (bind : ∀ (s : Shared) (u : Value), BindsTo s fd ⟨[u], []⟩ [("script", u)]) :
    codeAny (model P w) callerA (.call (.ref fa) ⟨[.ref a], []⟩) (fun r s' => r = .ok (.ret (.bool true)) ∧ OldK s₁.heap s'.heap ∧ s'.os = s₁.os ∧ AllBare s'.gens) s₁ := by
  obtain ⟨mm, osys, ess, eps, sysAt, sysD, _⟩ := sys
  have rel := vals_ints areI
  have lenV := areI.length
  have aS : a ≠ sysModules := fun e => by
    subst e
    rw [there] at sysAt
    cases sysAt
    cases sysD
  -- what is tracked: the table of modules, and the script where it is none of the module's own objects
  let scr : HO := .frz { cls := .type "list", data := .seq vs.toArray } (.lst (ns.map V.int))
  let H : Hp := fun b => if b = sysModules then some (.frz osys (.own 0)) else if b = a ∧ K.lookup a = none then some scr else none
  have hS : H sysModules = some (.frz osys (.own 0)) := if_pos rfl
  have cases_ : ∀ {b : Addr} {u : HO}, H b = some u → (b = sysModules ∧ u = .frz osys (.own 0)) ∨ (b = a ∧ K.lookup a = none ∧ u = scr) := fun {b u} e => by
    by_cases h1 : b = sysModules
    · have z := (if_pos h1).symm.trans e
      exact .inl ⟨h1, (Option.some.inj z).symm⟩
    · have z := (if_neg h1).symm.trans e
      by_cases h2 : b = a ∧ K.lookup a = none
      · have z2 := (if_pos h2).symm.trans z
        exact .inr ⟨h2.1, h2.2, (Option.some.inj z2).symm⟩
      · have z2 := (if_neg h2).symm.trans z
        cases z2
  have held : HOk P w H s₁.heap := fun b u e => by
    rcases cases_ e with ⟨rfl, rfl⟩ | ⟨rfl, _, rfl⟩
    · exact ⟨sysAt, osys, sysAt⟩
    · exact ⟨there, by rw [List.length_map]; exact Nat.le_trans short (by decide), vs, _, rel, there⟩
  have offD : ∀ {b : Addr} {o : Obj} {es : Array DictEntry} {ep : Nat}, b ≠ sysModules → s₁.heap.get? b = some o → o.data = .dict es ep → H b = none := fun {b o es ep} nb e d => by
    cases q : H b with
    | none => rfl
    | some u =>
      rcases cases_ q with ⟨z, _⟩ | ⟨z, _, _⟩
      · exact absurd z nb
      · subst z
        rw [there] at e
        cases e
        cases d
  have keepNs : ∀ {b : Addr} {m : Str → Option Value}, b ≠ sysModules → s₁.heap.Ns b m → (hidT s₁.heap H).Ns b m := fun {b m} nb ⟨o, es, ep, e, d, r⟩ => ⟨o, es, ep, hidT_get e (offD nb e d), d, r⟩
  have inB : K.In (hidT s₁.heap H) := fun b o e => hidT_get (inK b o e) (by
    cases q : H b with
    | none => rfl
    | some u =>
      rcases cases_ q with ⟨z, _⟩ | ⟨z, z2, _⟩
      · subst z
        rw [offK] at e
        cases e
      · subst z
        rw [z2] at e
        cases e)
  have modB : Mod K mg (hidT s₁.heap H) := ⟨inB, keepNs (by decide) main, ⟨mb, keepNs (by decide) blt, boot⟩, let ⟨mc, h1, h2⟩ := limit; ⟨mc, keepNs (by decide) h1, h2⟩⟩
  have env0 : Env0 P w K mg (hidT s₁.heap H) callerA [] s₁ H := ⟨rfl, modB, fun b o e => of_hidT e, Nat.le_of_eq (hidT_size _ _), trivial, fun b hb => absurd hb (by show b ∉ ([] : List Addr); exact List.not_mem_nil), held, .of_eq nogen⟩
  let Pv : Addr → Bool := fun b => decide (b = sysModules)
  have dm : Dom Pv H := ⟨decide_eq_true rfl, fun b e => by
    have e' : b = sysModules := of_decide_eq_true e
    rw [e', hS]
    exact Option.some_ne_none _⟩
  have hidA : hide Pv H a = H a := hide_at (decide_eq_false aS)
  have reads : SqF K (hide Pv H) a (ns.map V.int) := by
    cases hk : K.lookup a with
    | some o =>
      have e := inK a o hk
      rw [there] at e
      cases e
      have g : ∀ H' : Hp, SqL K H' a (ns.map V.int) := fun H' => .inr ⟨_, vs.toArray, _, hk, rfl, rfl, rfl, by rw [List.size_toArray, lenV]; exact Nat.le_trans short (by decide), by simpa using rel⟩
      exact ⟨g _, .inr g⟩
    | none =>
      have q : hide Pv H a = some (.frz { cls := .type "list", data := .seq vs.toArray } (.lst (ns.map V.int))) := by
        rw [hidA]
        show (if a = sysModules then _ else if a = a ∧ K.lookup a = none then some scr else none) = some scr
        rw [if_neg aS, if_pos ⟨rfl, hk⟩]
      exact ⟨.inl (.inr ⟨_, q⟩), .inl ⟨_, q⟩⟩
  have prom : spD ⟨K, P, w⟩ fLaw [.ref a] H (fun v _ => v = .bl true) (fun _ _ _ => False) :=
    ⟨[.scr ns], fun d => d = .p (.bool true), Pv, dm, ⟨.ref a, [], rfl, ⟨a, rfl, reads⟩, rfl⟩, ⟨ns, rfl, short, fun z hz => Bd.ofBits (by decide) (bits z hz), rfl⟩, fun v H' r _ q e => by
      subst e
      exact q⟩
  refine codeAny_mono ((F _ inB (keepNs (by decide) main)).go callerA rfl [] s₁ H ⟨[.ref a], []⟩ [.ref a] [.ref a] _ _ room env0 (bind s₁ (.ref a)) (.cons rfl .nil) prom) fun r s' h => ?_
  cases r with
  | error e => exact h.elim
  | ok fl =>
    cases fl with
    | next => exact h.elim
    | brk => exact h.elim
    | cont => exact h.elim
    | ret u =>
      obtain ⟨v, H', os, bare, un, held', r', q⟩ := h
      have q' : v = .bl true := q
      subst q'
      obtain rfl : u = Value.bool true := r'
      refine ⟨rfl, OldK.of_keep fun b o e => ?_, os, bare⟩
      cases q : H b with
      | none => exact un.keep b o e q (by show b ∉ ([] : List Addr); exact List.not_mem_nil) List.not_mem_nil
      | some x =>
        have fz : ∃ ob y, x = .frz ob y := by
          rcases cases_ q with ⟨_, z⟩ | ⟨_, _, z⟩
          · exact ⟨_, _, z⟩
          · exact ⟨_, _, z⟩
        obtain ⟨ob, y, rfl⟩ := fz
        have e1 := (held b _ q).1
        have e2 := (held' b _ (un.frzs b ob y q)).1
        rw [e] at e1
        cases e1
        exact e2
theorem walk_G {l : PySem.W.OpenLaw} {k : Nat} {q : Program} {loose : List Str} {XP : (Str → Option Value) → Heap → Prop} {YP : World → Heap → Prop} {d : DefRec} {K : Params → PySem.W.Frag}
    (hn : l.most = some 63) (hdf : d.params.defaults = []) (hq : importsNone q = true) (hr : Room k callerA) (hY : ∀ (w : World) (h : Heap), YP w h → (K w.params).In h)
    (F : ∀ (w : World) (mg : Str → Option Value) (fa : Addr) (h : Heap), (K w.params).In h → h.Ns mainGlobals mg → mg d.name = some (.ref fa) → (K w.params).lookup sysModules = none ∧
      ∃ fd : FuncData, (∀ (s : Shared) (u : Value), BindsTo s fd ⟨[u], []⟩ [("script", u)]) ∧
        ∀ base : Heap, (K w.params).In base → base.Ns mainGlobals mg → FnG l.prog w (K w.params) mg base CX0 k fa fd ["script"] (spD ⟨K w.params, l.prog, w⟩ fLaw)) :
    PySem.W.WalkO q loose XP YP l.row.toRowW d [] (fun f vs => PySem.call f vs) := by
  refine Att.attach_callB hn hdf fun w s₀ s₁ mg mb fa o pm cd doc a vs ns G Y ho hd hcd hmg hobj hints hlen hbits hg => ?_
  have KX := hY w _ Y
  obtain ⟨offK, fd, hb, hF⟩ := F w mg fa _ KX G.T.g hmg
  have sys := (G.T.seer hq).mods
  exact law_goes KX G.T.g G.T.b G.T.builtins G.T.nolimit hg (let ⟨mm, h1, _⟩ := sys; ⟨mm, h1⟩) offK hobj hints hlen hbits hr hF hb
end MR

/-! More statements; the rule for a def, the reading told behind the body. -/
namespace MR
open PySem PySem.Spec PyProof.Rows L2
section
variable {P : Program} {w : World} {K : PySem.W.Frag} {mg : Str → Option Value} {base : Heap}
theorem okB {x qual : Str} {st : Stmt} {f : Addr} {fd : FuncData} {N ps : List Str} {k : Nat} {g : FL} (F : Fun K x qual st f fd) (S : FnScope N ps (defScope st)) (len : ∀ ds R, g ds R → ds.length = ps.length)
    (hb : ∀ (cdv : Value) (A : Around), A.guards = some [] → ∀ (outer : List PySem.Env) (s : Shared) (H : Hp) (E : XK), Room k (A.deeper (envOfC qual (defScope st) s.heap.objs.size f cdv)) →
      ∃ t, PSs (cxOf CX0 P w K mg base N qual (defScope st) f cdv A outer s H E).nox (defBody st) (upS ⟨K, P, w⟩ t) ∧ ∀ ds R, g ds R → t { nx := fun _ => R (.p .none), rt := R } (startD N ds)) : FnG P w K mg base CX0 (k + 1) f fd ps (spD ⟨K, P, w⟩ g) := by
  refine fnG_of F S (fun vs H Q E ⟨ds, R, P, d, r, h, q⟩ => by rw [← r.len]; exact len ds R h) fun cdv A gd outer s H vs Q E room ⟨ds, R, P', d, r, h, q⟩ => ?_
  obtain ⟨t, ht, hr⟩ := hb cdv A gd outer s H E room
  refine ⟨_, ht.nox, startD N ds, _, ⟨H, P', [], [], fun _ => false⟩, _, es_start d r, hr ds R h, ⟨fun δ σ H' L es h' => ?_, fun v H' d' x r' h' => ?_, fun _ _ _ _ _ z => z.elim, fun _ _ _ _ _ z => z.elim, fun _ _ _ _ _ _ _ z => z.elim⟩⟩
  · exact q .non H' (.p .none) (es.ext.ext fun _ => rfl) rfl h'
  · exact q v H' d' (x.ext fun _ => rfl) r' h'
/-- a def's promise from a weaker one -/
theorem FnG.impD {k : Nat} {f : Addr} {fd : FuncData} {ps : List Str} {κ : Ky} {g g' : FL} (F : FnG P w K mg base CX0 k f fd ps (spD κ g)) (h : ∀ ds R, g' ds R → g ds R) : FnG P w K mg base CX0 k f fd ps (spD κ g') :=
  F.imp fun vs H Q E ⟨ds, R, Pv, dm, r, q, kk⟩ => ⟨ds, R, Pv, dm, r, h ds R q, kk⟩
end
section
variable {X : Cx} {a b e : Expr} {ta tb : TD} {pos : Pos}
theorem ud_neg : UnR X (unaryOp .USub) (upU (Cx.ky X) fun d R => asI d fun i => R (.p (.int (-i)))) := by
  intro pins s σ H x v Q I rx ⟨d, R, P, dm, r1, h, k⟩
  obtain ⟨i, rfl, h2⟩ := asI_of h
  exact un_neg pins s σ H x v Q I rx ⟨i, r1, k _ H (.p (.int (-i))) (Ext.refl H) rfl h2⟩
/-- a, b = x, y -/
def dPar (i j : Nat) (t : TL) : TDS := fun E δ => t δ fun ds => ∃ d e, ds = [d, e] ∧ E.nx ((δ.set i (.v d)).set j (.v e))
theorem ds_par {i j : Nat} {x y : Str} {t : TL} {px py pt : Pos} {kt k2 pt2} (hc : X.calm = true) (hN : X.N.Nodup) (hi : X.N[i]? = some x) (hj : X.N[j]? = some y) (hij : i ≠ j) (hx : X.env.scope.names.lookup x = some .local) (hy : X.env.scope.names.lookup y = some .local)
    (ha : PA X [a, b] (upA (Cx.ky X) t)) (h : ∀ {ta : TA}, PA X [a, b] ta → PS X (.Assign [.Tuple [.Name x px, .Name y py] kt pt] (.Tuple [a, b] k2 pt2) pos) (tPar i j ta)) : PS X (.Assign [.Tuple [.Name x px, .Name y py] kt pt] (.Tuple [a, b] k2 pt2) pos) (upS (Cx.ky X) (dPar i j t)) := by
  refine PS.imp (h ha) fun D σ H ⟨δ, E, c, L, es, hh, f⟩ => ⟨δ, _, c, L, es, hh, fun vs H1 ds x1 r1 ⟨d, e, e1, h2⟩ => ?_⟩
  subst e1
  obtain ⟨v, q, e1, r2, u, q2, e2, r3, e3⟩ := r1
  have e4 : q2 = [] := e3
  subst e4 e2 e1
  exact ⟨v, u, rfl, f.nx _ _ H1 L (((es.on x1).set r2).set r3) h2⟩
end
end MR

/-! More operations: == of what holds no dict, == with an empty list, small powers. -/
namespace MR
open PySem PySem.Spec PyProof.Rows L2
/-- d == e where no dict lies within -/
def fEqQ (neg : Bool) : F2 := fun d e R => asP d fun x => asP e fun y => x.plain = true ∧ y.plain = true ∧ min x.depth y.depth ≤ 60 ∧ R (.p (.bool (if neg then !PyData.eqv x y else PyData.eqv x y)))
/-- xs == [] -/
def fEqE (neg : Bool) : F2 := fun d e R => asL d fun xs => e = .p (.list []) ∧ R (.p (.bool (if neg then !xs.isEmpty else xs.isEmpty)))
abbrev CPwS (i j : Int) : Prop := 0 ≤ j ∧ j ≤ 100 ∧ i.natAbs ≤ 16
section
variable {X : Cx}
theorem od_eqQ (hu : X.A.units + 64 < cLine) : OpR X (compareOp .Eq) (upO (Cx.ky X) (fEqQ false)) := by
  intro pins s σ H x y v u Q I rx ry ⟨d, e, R, P, dm, r1, r2, h, k⟩
  obtain ⟨a, rfl, h0⟩ := asP_of h
  obtain ⟨b, rfl, h1, h2, h3, h4⟩ := asP_of h0
  obtain ⟨as, ra, _⟩ := rp_reads dm.1 I r1 rx
  obtain ⟨bs, rb, _⟩ := rp_reads dm.1 I r2 ry
  exact SeqAt.eq_plain ra rb h1 h2 (by omega) ⟨.bl _, H, I, rfl, k _ H (.p (.bool (PyData.eqv a b))) (Ext.refl H) rfl h4⟩
theorem od_neQ (hu : X.A.units + 64 < cLine) : OpR X (compareOp .NotEq) (upO (Cx.ky X) (fEqQ true)) := by
  intro pins s σ H x y v u Q I rx ry ⟨d, e, R, P, dm, r1, r2, h, k⟩
  obtain ⟨a, rfl, h0⟩ := asP_of h
  obtain ⟨b, rfl, h1, h2, h3, h4⟩ := asP_of h0
  obtain ⟨as, ra, _⟩ := rp_reads dm.1 I r1 rx
  obtain ⟨bs, rb, _⟩ := rp_reads dm.1 I r2 ry
  exact SeqAt.ne_plain ra rb h1 h2 (by omega) ⟨.bl _, H, I, rfl, k _ H (.p (.bool (!PyData.eqv a b))) (Ext.refl H) rfl h4⟩
theorem od_eqE (hu : X.A.units < cLine) : OpR X (compareOp .Eq) (upO (Cx.ky X) (fEqE false)) := by
  intro pins s σ H x y v u Q I rx ry ⟨d, e, R, P, dm, r1, r2, h, k⟩
  obtain ⟨xs, rfl, rfl, h1⟩ := asL_of h
  obtain ⟨as, ra, _⟩ := rp_reads dm.1 I r1 rx
  obtain ⟨bs, rb, _⟩ := rp_reads dm.1 I r2 ry
  have hq : EP X pins σ Q (.bool xs.isEmpty) s := ⟨.bl _, H, I, rfl, k _ H (.p (.bool xs.isEmpty)) (Ext.refl H) rfl h1⟩
  cases ra with
  | list a1 a2 a3 a4 => cases rb with
    | list b1 b2 b3 b4 =>
      have n1 := SeqAt.ReadsAll.length _ _ _ a4
      have n2 := SeqAt.ReadsAll.length _ _ _ b4
      rw [Array.length_toList] at n1 n2
      rw [List.length_nil] at n2
      cases xs with
      | nil =>
        rw [List.length_nil] at n1
        exact SeqAt.RcAt.lists (e := fun _ => true) ⟨_, a1, a2, _, a3⟩ ⟨_, b1, b2, _, b3⟩ (by omega) hu (fun j h1 h2 => absurd h1 (by omega)) _ _ _ _ (by rw [List.all_eq_true.mpr fun _ _ => rfl]; exact hq)
      | cons z zs =>
        rw [List.length_cons] at n1
        exact SeqAt.RcAt.lists_lengths ⟨_, a1, a2, _, a3⟩ ⟨_, b1, b2, _, b3⟩ (by simp; omega) hu _ _ _ _ hq
theorem od_neE (hu : X.A.units < cLine) : OpR X (compareOp .NotEq) (upO (Cx.ky X) (fEqE true)) := by
  intro pins s σ H x y v u Q I rx ry ⟨d, e, R, P, dm, r1, r2, h, k⟩
  obtain ⟨xs, rfl, rfl, h1⟩ := asL_of h
  obtain ⟨as, ra, _⟩ := rp_reads dm.1 I r1 rx
  obtain ⟨bs, rb, _⟩ := rp_reads dm.1 I r2 ry
  have hq : EP X pins σ Q (.bool (!xs.isEmpty)) s := ⟨.bl _, H, I, rfl, k _ H (.p (.bool (!xs.isEmpty))) (Ext.refl H) rfl h1⟩
  cases ra with
  | list a1 a2 a3 a4 => cases rb with
    | list b1 b2 b3 b4 =>
      have n1 := SeqAt.ReadsAll.length _ _ _ a4
      have n2 := SeqAt.ReadsAll.length _ _ _ b4
      rw [Array.length_toList] at n1 n2
      rw [List.length_nil] at n2
      cases xs with
      | nil =>
        rw [List.length_nil] at n1
        exact SeqAt.RcNeAt.lists (e := fun _ => true) ⟨_, a1, a2, _, a3⟩ ⟨_, b1, b2, _, b3⟩ (by omega) hu (fun j h1 h2 => absurd h1 (by omega)) _ _ _ _ (by rw [List.all_eq_true.mpr fun _ _ => rfl]; exact hq)
      | cons z zs =>
        rw [List.length_cons] at n1
        exact SeqAt.RcNeAt.lists_lengths ⟨_, a1, a2, _, a3⟩ ⟨_, b1, b2, _, b3⟩ (by simp; omega) hu _ _ _ _ hq
theorem od_powC : OpR X (binaryOp .Pow) (upO (Cx.ky X) (fI CPwS fun i j => i ^ j.toNat)) := OpR.imp (opI (C := fun i j => CPwS i j) (g := fun i j => i ^ j.toNat) fun i j t u s Q E hc q => pow_int hc.1 (by
    have b : Builtin.Int.intBits i ≤ 5 := Bd.bits (Bd.of (by decide) (Nat.lt_of_le_of_lt hc.2.2 (by decide)))
    have h1 := hc.1
    have h2 := hc.2.1
    have : (Builtin.Int.intBits i : Int) * j ≤ 5 * 100 := Int.mul_le_mul (by omega) h2 h1 (by decide)
    omega) q) fun x y H Q h => up_I h
end
section
variable {X : Cx} {a b c : Expr} {ta tb tc : TD} {pos : Pos}
theorem up_chain {κ : Ky} {f f' : F2} {σ : Sg} {H : Hp} {Q : VK} (h : up κ (dChain f f' ta tb tc) σ H Q) : tChain (upO κ f) (upO κ f') (up κ ta) (up κ tb) (up κ tc) σ H Q := by
  obtain ⟨δ, R, c, L, es, h, k⟩ := h
  refine ⟨δ, _, c, L, es, h, fun v H1 d x1 r1 h1 => ⟨δ, _, c, L, es.on x1, h1, fun u H2 e x2 r2 h2 => ?_⟩⟩
  refine ⟨d, e, _, _, (es.on (x1.trans x2)).dom, r1.ext (x2.hide _), r2, h2, fun z H3 r x3 q1 q2 => ?_⟩
  obtain ⟨b, rfl, q3⟩ := asB_of q2
  cases b with
  | true =>
    refine ⟨true, q1, ⟨δ, _, c, L, es.on (x1.trans (x2.trans x3)), q3, fun y H4 g x4 r4 h4 => ?_⟩⟩
    exact ⟨e, g, R, _, (es.on (x1.trans (x2.trans (x3.trans x4)))).dom, r2.ext ((x3.trans x4).hide _), r4, h4, fun z' H5 r' x5 q5 q6 => k z' H5 r' (x1.trans (x2.trans (x3.trans (x4.trans x5)))) q5 q6⟩
  | false => exact ⟨false, q1, k (.bl false) H3 (.p (.bool false)) (x1.trans (x2.trans x3)) rfl q3⟩
theorem dt_chain {op op' : CmpOp} {f f' : F2} (ho : OpR X (compareOp op) (upO (Cx.ky X) f)) (ho' : OpR X (compareOp op') (upO (Cx.ky X) f')) (ha : PE X a (up (Cx.ky X) ta)) (hb : PE X b (up (Cx.ky X) tb)) (hc : PE X c (up (Cx.ky X) tc)) (hm : lastMarks [op, op'] [b, c] = false := by with_unfolding_all rfl) :
    PT X (.Compare a [op, op'] [b, c] pos) (upT (Cx.ky X) (dB (dChain f f' ta tb tc))) := by
  refine PT.imp (pt_chain ho ho' ha hb hc hm) fun σ H Q ⟨δ, R, c, L, es, h, k⟩ => ?_
  refine up_chain ⟨δ, _, c, L, es, h, fun v H' d x r hd => ?_⟩
  obtain ⟨b, rfl, q⟩ := asB_of hd
  exact ⟨b, r, k b H' x q⟩
end
end MR

/-! Reading: the formulas of data, unfolded; walks with invariants; bounds of data. -/
namespace MR
open PySem PySem.Spec PyProof.Rows L2
theorem u1 {k : Nat} {A : Around} (hr : Room k A) : A.units + 1 < cLine := by
  have := hr.un
  omega
/-! ### isinstance, len -/
def isT (d : PyData) : Bool := match d with | .tuple _ => true | _ => false
def isS (d : PyData) : Bool := match d with | .str _ => true | _ => false
theorem isi_tuple {d : PyData} {R : DV → Prop} (h : R (.p (.bool (isT d)))) : fIsi [.p d, .raw (.ty "tuple")] R := ⟨d, "tuple", isT d, rfl, by cases d <;> rfl, h⟩
theorem isi_str {d : PyData} {R : DV → Prop} (h : R (.p (.bool (isS d)))) : fIsi [.p d, .raw (.ty "str")] R := ⟨d, "str", isS d, rfl, by cases d <;> rfl, h⟩
theorem len_str {x : Str} {R : DV → Prop} (hz : x.length ≤ sizeLine) (h : R (.p (.int x.length))) : fLen [.p (.str x)] R := ⟨_, _, rfl, rfl, hz, h⟩
theorem len_lst {x : List PyData} {R : DV → Prop} (hz : x.length ≤ sizeLine) (h : R (.p (.int x.length))) : fLen [.p (.list x)] R := ⟨_, _, rfl, rfl, hz, h⟩
theorem len_tup {x : List PyData} {R : DV → Prop} (hz : x.length ≤ sizeLine) (h : R (.p (.int x.length))) : fLen [.p (.tuple x)] R := ⟨_, _, rfl, rfl, hz, h⟩
theorem all_of {bs : List Bool} {R : DV → Prop} (h : R (.p (.bool (bs.all id)))) : fAll [.p (.list (bs.map .bool))] R := ⟨bs, rfl, h⟩
/-! ### walks -/
def nI (z : PyData) : Bool := match z with | .int _ => false | _ => true
theorem nP_app {z : PyData} (h : nI z = true) : ∀ acc : List PyData, nP (acc ++ [z]) = true
  | [] => by cases z <;> rfl
  | [a] => by
    cases z with
    | int i => cases h
    | _ => cases a <;> rfl
  | a :: b :: [] => by cases a <;> first | rfl | (cases b <;> rfl)
  | a :: b :: c :: r => by cases a <;> first | rfl | (cases b <;> rfl)
/-- a comprehension whose part is a function of the element -/
theorem lc_fm {g : TDG} {tt : TB} {te : TD} {δ : Dn} {fin : List PyData → Prop} (f : PyData → Option PyData) : ∀ (ds acc : List PyData),
    (∀ d ∈ ds, ∀ (K1 : PyData → Prop) (K2 : Prop), (match f d with | some z => K1 z | none => K2) → g (.p d) δ fun δ2 => tt δ2 fun b => if b = true then te δ2 fun y => asP y K1 else K2) →
    fin (acc ++ ds.filterMap f) → (∀ d ∈ ds, ∀ z, f d = some z → nI z = true) → lcL g tt te δ fin ds acc
  | [], acc, _, h, _ => by rw [List.filterMap_nil, List.append_nil] at h; exact h
  | d :: ds, acc, hd, h, hi => by
    refine hd d List.mem_cons_self _ _ ?_
    cases e : f d with
    | some z => exact ⟨nP_app (hi d List.mem_cons_self z e) acc, lc_fm f ds (acc ++ [z]) (fun d' m => hd d' (List.mem_cons_of_mem _ m)) (by rw [List.filterMap_cons_some e] at h; rw [List.append_assoc]; exact h) fun d' m => hi d' (List.mem_cons_of_mem _ m)⟩
    | none => exact lc_fm f ds acc (fun d' m => hd d' (List.mem_cons_of_mem _ m)) (by rw [List.filterMap_cons_none e] at h; exact h) fun d' m => hi d' (List.mem_cons_of_mem _ m)
theorem lc_map {g : TDG} {te : TD} {δ : Dn} {fin : List PyData → Prop} (f : PyData → PyData) {ds : List PyData}
    (hd : ∀ d ∈ ds, ∀ (K1 : PyData → Prop), K1 (f d) → g (.p d) δ fun δ2 => te δ2 fun y => asP y K1) (h : fin (ds.map f)) (hi : ∀ d ∈ ds, nI (f d) = true := by intros; rfl) : lcL g dYes te δ fin ds [] := by
  refine lc_fm (fun d => some (f d)) ds [] (fun d m K1 K2 hk => hd d m K1 hk) ?_ fun d m z e => ?_
  · rw [List.nil_append, List.filterMap_eq_map']
    exact h
  · cases e
    exact hi d m
/-- one whose part is any of some -/
theorem lc_rel {g : TDG} {te : TD} {δ : Dn} {fin : List PyData → Prop} (p : PyData → Prop) (hi : ∀ z, p z → nI z = true) : ∀ (ds acc : List PyData),
    (∀ d ∈ ds, ∀ (K1 : PyData → Prop), (∀ z, p z → K1 z) → g (.p d) δ fun δ2 => te δ2 fun y => asP y K1) →
    (∀ zs : List PyData, zs.length = ds.length → (∀ z ∈ zs, p z) → fin (acc ++ zs)) → lcL g dYes te δ fin ds acc
  | [], acc, _, h => by have := h [] rfl (by simp); rw [List.append_nil] at this; exact this
  | d :: ds, acc, hd, h => by
    refine hd d List.mem_cons_self _ fun z hz => ⟨nP_app (hi z hz) acc, ?_⟩
    exact lc_rel p hi ds (acc ++ [z]) (fun d' m => hd d' (List.mem_cons_of_mem _ m)) fun zs e hp => by
      rw [List.append_assoc]
      exact h (z :: zs) (by simp [e]) fun y hy => by
        rcases List.mem_cons.mp hy with e | m
        · rw [e]; exact hz
        · exact hp y m
/-- for, what stays -/
theorem for_inv {E : DE} {g : TDG} {tb : TDS} (I : Dn → Prop) : ∀ (ds : List PyData) (δ : Dn), I δ → (∀ d ∈ ds, ∀ δ', I δ' → ∀ (E' : DE), E'.rt = E.rt → (∀ δ2, I δ2 → E'.nx δ2) → (∀ δ2, I δ2 → E'.ct δ2) → (∀ δ2, E.nx δ2 → E'.bk δ2) → g (.p d) δ' fun δ2 => tb E' δ2) → (∀ δ', I δ' → E.nx δ') → forL E g tb ds δ
  | [], δ, h, _, he => he δ h
  | d :: ds, δ, h, hb, he => hb d List.mem_cons_self δ h _ rfl (fun δ2 h2 => for_inv I ds δ2 h2 (fun d' m => hb d' (List.mem_cons_of_mem _ m)) he) (fun δ2 h2 => for_inv I ds δ2 h2 (fun d' m => hb d' (List.mem_cons_of_mem _ m)) he) (fun _ h => h)
end MR

/-! A text compared with anything; tuples of texts; small repetitions; more built-ins. -/
namespace MR
open PySem PySem.Spec PyProof.Rows L2
section
open PySem.SeqAt PySem.MeetsSeq
theorem dict_no_str (l : Addr) (es : Array DictEntry) (ep : Nat) (dd : Option Addr) (sl : Array (Option Value)) (b : Str) (u : Tok) :
    Meets (Builtin.«dict.__eq__» ⟨[.ref l, .str b u], []⟩) (fun _ R s => s.heap.get? l = some { cls := .type "dict", dict := dd, data := .dict es ep, slots := sl } ∧ R (.ok (.ret .notImplemented)) s) :=
  .of_wp fun prog w A R s h => by obtain ⟨hp, g, d, tk, os⟩ := s; obtain ⟨hl, h⟩ := h; have f1 := F.sub_str_dict; wp_walk using wpAny_loadPart' hl, wpAny_load hl; exact ⟨_, rfl, h⟩
theorem str_no_dict (b : Str) (u : Tok) (l : Addr) (es : Array DictEntry) (ep : Nat) (dd : Option Addr) (sl : Array (Option Value)) :
    Meets (Builtin.«str.__eq__» ⟨[.str b u, .ref l], []⟩) (fun _ R s => s.heap.get? l = some { cls := .type "dict", dict := dd, data := .dict es ep, slots := sl } ∧ R (.ok (.ret .notImplemented)) s) :=
  .of_wp fun prog w A R s h => by obtain ⟨hp, g, d, tk, os⟩ := s; obtain ⟨hl, h⟩ := h; wp_walk using wpAny_loadPart' hl, wpAny_load hl; exact ⟨_, rfl, h⟩
variable {A : Around} {s : Shared}
theorem rc_dict_str {l : Addr} {o : Obj} {es : Array DictEntry} {ep : Nat} (b : Str) (u : Tok) (ho : s.heap.get? l = some o) (hc : o.cls = .type "dict") (hd : o.data = .dict es ep) (hu : A.units < cLine) : RcAt A s (.ref l) (.str b u) false := fun prog w E Q h => by
  obtain ⟨cls, dd, data, sl⟩ := o
  simp only at hc hd
  subst hc hd
  exact rc_eq_decline_or (k := false) ⟨_, ho, rfl⟩ (typeIs_str s b u) (by decide) F.sub_str_dict F.slot_dict_eq F.slot_str_eq_refl
    (fun _ hq => call_meets F.slot_dict_eq ⟨_, ho, rfl⟩ F.entry_dict_eq (F.args_dict_eq_2 _ _) (dict_no_str l es ep dd sl b u) ⟨ho, hq⟩)
    (fun _ hq => call_meets F.slot_str_eq_refl (typeIs_str s b u) F.entry_str_eq (F.args_str_eq_2 _ _) (str_no_dict b u l es ep dd sl) ⟨ho, hq⟩)
    (fun _ hq => wpAny_of_eq (rfl : isSame (.ref l) (.str b u) = pure false) hq) (.inr hu) h
theorem rc_str_dict {l : Addr} {o : Obj} {es : Array DictEntry} {ep : Nat} (b : Str) (u : Tok) (ho : s.heap.get? l = some o) (hc : o.cls = .type "dict") (hd : o.data = .dict es ep) (hu : A.units < cLine) : RcAt A s (.str b u) (.ref l) false := fun prog w E Q h => by
  obtain ⟨cls, dd, data, sl⟩ := o
  simp only at hc hd
  subst hc hd
  exact rc_eq_decline_or (k := false) (typeIs_str s b u) ⟨_, ho, rfl⟩ (by decide) F.sub_dict_str F.slot_str_eq F.slot_dict_eq_refl
    (fun _ hq => call_meets F.slot_str_eq (typeIs_str s b u) F.entry_str_eq (F.args_str_eq_2 _ _) (str_no_dict b u l es ep dd sl) ⟨ho, hq⟩)
    (fun _ hq => call_meets F.slot_dict_eq_refl ⟨_, ho, rfl⟩ F.entry_dict_eq (F.args_dict_eq_2 _ _) (dict_no_str l es ep dd sl b u) ⟨ho, hq⟩)
    (fun _ hq => wpAny_of_eq (rfl : isSame (.str b u) (.ref l) = pure false) hq) (.inr hu) h
theorem eq_str_dict {l : Addr} {o : Obj} {es : Array DictEntry} {ep : Nat} (b : Str) (u : Tok) (ho : s.heap.get? l = some o) (hc : o.cls = .type "dict") (hd : o.data = .dict es ep) (hu : A.units < cLine) : EqAt A s (.str b u) (.ref l) false := fun prog w E Q h => by
  unfold eqBool
  refine wpAny_holding ?_
  refine wpAny_ite_split (fun hab => absurd (eq_of_beq hab) nofun) (fun _ => ?_)
  exact wpAny_bind (rc_str_dict b u ho hc hd hu prog w E _ (wpAny_truthy_bool h))
/-- data == a text -/
def eqW (x : PyData) (y : Str) : Bool := match x with
  | .str z => decide (z = y)
  | _ => false
theorem eqv_sw {x : PyData} {y : Str} : PyData.eqv x (.str y) = eqW x y := by
  cases x with
  | str z =>
    simp only [PyData.eqv, eqW]
    by_cases h : z = y
    · subst h; rw [decide_eq_true rfl]; exact beq_self_eq_true z
    · rw [decide_eq_false h]; exact beq_eq_false_iff_ne.mpr h
  | _ => simp only [PyData.eqv, eqW]
theorem eqv_ws {x : PyData} {y : Str} : PyData.eqv (.str y) x = eqW x y := by
  cases x with
  | str z =>
    simp only [PyData.eqv, eqW]
    by_cases h : z = y
    · subst h; rw [decide_eq_true rfl]; exact beq_self_eq_true z
    · rw [decide_eq_false h]; exact beq_eq_false_iff_ne.mpr (Ne.symm h)
  | _ => simp only [PyData.eqv, eqW]
theorem rc_word {x : PyData} {v : Value} {as : List Addr} (y : Str) (t : Tok) (r : Reads s.heap v x as) (hu : A.units + 64 < cLine) : RcAt A s v (.str y t) (eqW x y) := by
  have ry : Reads s.heap (.str y t) (.str y) [] := .str y t
  cases r with
  | list h1 h2 h3 h4 => exact RcAt.list_str y t ⟨_, h1, h2, _, h3⟩ (by omega)
  | tuple h1 h2 h3 h4 => exact RcAt.tuple_str y t ⟨_, h1, h2, _, h3⟩ (by omega)
  | dict h1 h2 h3 h4 h5 => exact rc_dict_str y t h1 h2 h3 (by omega)
  | none => rw [← eqv_sw]; exact rcAt_plain (as := []) (bs := []) .none ry rfl rfl (by show A.units + min 0 0 < cLine; omega)
  | bool b => rw [← eqv_sw]; exact rcAt_plain (as := []) (bs := []) (.bool b) ry rfl rfl (by show A.units + min 0 0 < cLine; omega)
  | int i u => rw [← eqv_sw]; exact rcAt_plain (as := []) (bs := []) (.int i u) ry rfl rfl (by show A.units + min 0 0 < cLine; omega)
  | str z u => rw [← eqv_sw]; exact rcAt_plain (as := []) (bs := []) (.str z u) ry rfl rfl (by show A.units + min 0 0 < cLine; omega)
theorem eq_word {x : PyData} {v : Value} {as : List Addr} (y : Str) (t : Tok) (r : Reads s.heap v x as) (hu : A.units + 64 < cLine) : EqAt A s (.str y t) v (eqW x y) := by
  have ry : Reads s.heap (.str y t) (.str y) [] := .str y t
  cases r with
  | list h1 h2 h3 h4 => exact EqAt.str_list y t ⟨_, h1, h2, _, h3⟩ (by omega)
  | tuple h1 h2 h3 h4 => exact EqAt.str_tuple y t ⟨_, h1, h2, _, h3⟩ (by omega)
  | dict h1 h2 h3 h4 h5 => exact eq_str_dict y t h1 h2 h3 (by omega)
  | none => rw [← eqv_ws]; exact eqAt_plain _ _ _ _ _ _ [] [] ry .none rfl rfl (by show A.units + min 0 0 < cLine; omega)
  | bool b => rw [← eqv_ws]; exact eqAt_plain _ _ _ _ _ _ [] [] ry (.bool b) rfl rfl (by show A.units + min 0 0 < cLine; omega)
  | int i u => rw [← eqv_ws]; exact eqAt_plain _ _ _ _ _ _ [] [] ry (.int i u) rfl rfl (by show A.units + min 0 0 < cLine; omega)
  | str z u => rw [← eqv_ws]; exact eqAt_plain _ _ _ _ _ _ [] [] ry (.str z u) rfl rfl (by show A.units + min 0 0 < cLine; omega)
end
/-- == a text, whatever stands on the left -/
def fEqW : F2 := fun d e R => asP d fun x => asS e fun y => R (.p (.bool (eqW x y)))
/-- in a tuple of texts -/
def inW (x : PyData) (ys : List Str) : Bool := ys.any fun y => eqW x y
def fInW (neg : Bool) : F2 := fun d e R => asP d fun x => ∃ ys : List Str, e = .p (.tuple (ys.map .str)) ∧ R (.p (.bool (if neg then !inW x ys else inW x ys)))
theorem strs_vals {K : PySem.W.Frag} {H : Hp} : ∀ {ys : List Str} {vs : List V} {us : List Value}, RpA K H (ys.map .str) vs → Vals vs us → PySem.W.EachIs (fun v x => ∃ t, v = Value.str x t) us ys
  | [], vs, us, h, r => by
    rw [show vs = [] from h] at r
    cases r
    exact .nil
  | y :: ys, vs, us, ⟨v, q, e, h, t⟩, r => by
    rw [e] at r
    cases r with
    | cons r1 r2 =>
      rw [show v = .str y from h] at r1
      exact .cons r1 (strs_vals t r2)
def strOf (v : Value) : Str := match v with
  | .str x _ => x
  | _ => Str.empty
theorem each_mem {P : Value → Prop} : ∀ {us : List Value} {ys : List Str}, PySem.W.EachIs (fun v x => ∃ t, v = Value.str x t) us ys → (∀ x t, P (.str x t)) → ∀ u ∈ us, P u
  | _, _, .nil, _, u, h => absurd h List.not_mem_nil
  | _, _, .cons ⟨t, e⟩ r, hp, u, h => by
    rcases List.mem_cons.mp h with z | m
    · rw [z, e]; exact hp _ _
    · exact each_mem r hp u m
theorem each_any {x : PyData} : ∀ {us : List Value} {ys : List Str}, PySem.W.EachIs (fun v x => ∃ t, v = Value.str x t) us ys → (us.any fun u => eqW x (strOf u)) = inW x ys
  | _, _, .nil => rfl
  | _, _, .cons ⟨t, e⟩ r => by
    have ih := each_any (x := x) r
    unfold inW at ih ⊢
    rw [List.any_cons, List.any_cons, ih, e]
    rfl
section
variable {X : Cx}
theorem od_eqW (hu : X.A.units + 64 < cLine) : OpR X (compareOp .Eq) (upO (Cx.ky X) fEqW) := by
  intro pins s σ H x y v u Q I rx ry ⟨d, e, R, P, dm, r1, r2, h, k⟩
  obtain ⟨a, rfl, h0⟩ := asP_of h
  obtain ⟨b, rfl, h1⟩ := asS_of h0
  obtain ⟨as, ra, _⟩ := rp_reads dm.1 I r1 rx
  rw [show y = .str b from r2] at ry
  obtain ⟨t, rfl⟩ := ry
  exact rc_word b t ra hu _ _ _ _ ⟨.bl _, H, I, rfl, k _ H (.p (.bool (eqW a b))) (Ext.refl H) rfl h1⟩
theorem od_inW (hu : X.A.units + 66 < cLine) : OpR X (compareOp .In) (upO (Cx.ky X) (fInW false)) := by
  intro pins s σ H x y v u Q I rx ry ⟨d, e, R, P, dm, r1, r2, h, k⟩
  obtain ⟨a, rfl, ys, rfl, h1⟩ := asP_of h
  obtain ⟨as, ra, _⟩ := rp_reads dm.1 I r1 rx
  obtain ⟨p, xs, e, q, rp⟩ := r2
  subst e
  obtain rfl : u = Value.ref p := ry
  obtain ⟨its, rv, tl, _⟩ := I.tuple ((hide_ext P H).seqT q)
  have each := strs_vals rp rv
  refine SeqAt.in_tupleAt (fun u => eqW a (strOf u)) tl (fun z hz => ?_) ?_
  · exact each_mem (P := fun z => SeqAt.EqAt X.A.in1 s z v (eqW a (strOf z))) each (fun x t => eq_word x t ra (by show X.A.units + 1 + 64 < cLine; omega)) z (by simpa using hz)
  · have e : (its.toArray.any fun u => eqW a (strOf u)) = inW a ys := by rw [List.any_toArray]; exact each_any each
    rw [e]
    exact ⟨.bl _, H, I, rfl, k _ H (.p (.bool (inW a ys))) (Ext.refl H) rfl h1⟩
theorem od_notinW (hu : X.A.units + 66 < cLine) : OpR X (compareOp .NotIn) (upO (Cx.ky X) (fInW true)) := by
  intro pins s σ H x y v u Q I rx ry ⟨d, e, R, P, dm, r1, r2, h, k⟩
  obtain ⟨a, rfl, ys, rfl, h1⟩ := asP_of h
  obtain ⟨as, ra, _⟩ := rp_reads dm.1 I r1 rx
  obtain ⟨p, xs, e, q, rp⟩ := r2
  subst e
  obtain rfl : u = Value.ref p := ry
  obtain ⟨its, rv, tl, _⟩ := I.tuple ((hide_ext P H).seqT q)
  have each := strs_vals rp rv
  refine SeqAt.notIn_tupleAt (fun u => eqW a (strOf u)) tl (fun z hz => ?_) ?_
  · exact each_mem (P := fun z => SeqAt.EqAt X.A.in1 s z v (eqW a (strOf z))) each (fun x t => eq_word x t ra (by show X.A.units + 1 + 64 < cLine; omega)) z (by simpa using hz)
  · have e : (its.toArray.any fun u => eqW a (strOf u)) = inW a ys := by rw [List.any_toArray]; exact each_any each
    rw [e]
    exact ⟨.bl _, H, I, rfl, k _ H (.p (.bool (!inW a ys))) (Ext.refl H) rfl h1⟩
end
end MR

/-! tuple * int; int of a truth value; max of a list of ints; == (). -/
namespace MR
open PySem PySem.Spec PyProof.Rows L2
theorem tuple_mul0 (l : Addr) (items : Array Value) (n : Nat) (dd : Option Addr) (sl : Array (Option Value)) (x : Int) (u : Tok) (c0 : (decide (x < -(2 ^ 63)) || decide (x ≥ 2 ^ 63)) = false) (c1 : (items.isEmpty || x == 1) = false) (c2 : (decide (x ≤ 0) || items.isEmpty) = true) :
    Meets (Builtin.«tuple.__mul__» ⟨[.ref l, .int x u], []⟩) (fun _ R s => s.heap.get? l = some { cls := .type "tuple", dict := dd, data := .seq items n, slots := sl } ∧
      R (.ok (.ret (Value.ref s.heap.objs.size))) { s with heap := s.heap.push { cls := Value.type "tuple", data := Data.seq #[] }, toks := s.toks }) :=
  .of_wp fun prog w A R s h => by
    obtain ⟨hp, g, d, tk, os⟩ := s
    obtain ⟨hl, h⟩ := h
    have f1 := AutoSeq1.idx_int
    wp_walk using AutoSeq1.wpAny_loadPart' hl
    repeat (first
      | (refine wpAny_ite_false (decide_eq_false (by rw [c0]; exact Bool.false_ne_true)) ?_; wp_walk using AutoSeq1.wpAny_loadPart' hl)
      | (refine wpAny_ite_false (decide_eq_false (by rw [c1]; exact Bool.false_ne_true)) ?_; wp_walk using AutoSeq1.wpAny_loadPart' hl)
      | (refine wpAny_ite_true (decide_eq_true c2) ?_; wp_walk using AutoSeq1.wpAny_loadPart' hl))
    exact ⟨_, rfl, h⟩
/-- t * 0 -/
theorem op_repT0 {X : Cx} : OpR X (binaryOp .Mult) (fun x y H Q => ∃ l xs, x = .ref l ∧ y = .int 0 ∧ SqT X.K H l xs ∧ xs ≠ [] ∧ ∀ p, H p = none → Q (.ref p) (upd H p (.tup []))) := by
  intro pins s σ H x y v u Q I rx ry h
  obtain ⟨l, xs, rfl, rfl, hT, hne, q⟩ := h
  cases rx
  obtain ⟨t, rfl⟩ := ry
  obtain ⟨its, r, ⟨⟨cls, dd, data, sl⟩, ho, hc, n, hd⟩, hs⟩ := I.tuple hT
  simp only at hc hd
  subst hc hd
  have hle : its.length = xs.length := r.length.symm
  have hn : its ≠ [] := fun e => hne (by
    rw [e] at hle
    exact List.eq_nil_of_length_eq_zero hle.symm)
  have hi : its.toArray.isEmpty = false := by
    cases its with
    | nil => exact absurd rfl hn
    | cons a b => rfl
  have c0 : (decide ((0 : Int) < -(2 ^ 63)) || decide ((0 : Int) ≥ 2 ^ 63)) = false := by decide
  have c1 : (its.toArray.isEmpty || (0 : Int) == 1) = false := by rw [hi]; rfl
  have c2 : (decide ((0 : Int) ≤ 0) || its.toArray.isEmpty) = true := by rw [hi]; rfl
  refine wpAny_binaryOp_repeat_ref (T := "tuple") (U := "int") (by decide) ⟨_, ho, rfl⟩ (fun s' => typeIs_int s' 0 t) noFill_tuple_mul F.fills_int_mul F.slot_int_rmul repeat_tuple F.slot_int_index.lookup
    (call_meets F.slot_int_rmul (typeIs_int s 0 t) F.entry_int_rmul (F.args_int_rmul_2 _ _) (int_rmul_tuple 0 t l its.toArray n dd sl)
      ⟨ho, rfl, ⟨_, ho, rfl⟩, call_meets F.slot_tuple_mul ⟨_, ho, rfl⟩ F.entry_tuple_mul (F.args_tuple_mul_2 _ _) (tuple_mul0 l its.toArray n dd sl 0 t c0 c1 c2) ⟨ho, ?_⟩⟩)
  refine ⟨.ref s.heap.objs.size, _, I.laid (t' := s.toks) (o := .tup []) (fun b ob q => Heap.get?_push_of_some _ q) (Nat.le_refl _) ?_, rfl, q _ (I.hok.fresh (Nat.le_refl _))⟩
  exact ⟨Nat.zero_le _, [], .nil, IsTup.new _ _⟩
def fRepT : F2 := fun d e R => asU d fun xs => asI e fun k => xs ≠ [] ∧ (k = 0 ∨ 2 ≤ k) ∧ k ≤ 1000 ∧ xs.length ≤ 1000 ∧ R (.p (.tuple (List.replicate k.toNat xs).flatten))
theorem RpA.rep {K : PySem.W.Frag} {H : Hp} {ds : List PyData} {vs : List V} (r : RpA K H ds vs) : ∀ n : Nat, RpA K H (List.replicate n ds).flatten (List.replicate n vs).flatten
  | 0 => rfl
  | n + 1 => by
    rw [List.replicate_succ, List.replicate_succ, List.flatten_cons, List.flatten_cons]
    exact r.app (RpA.rep r n)
section
variable {X : Cx}
theorem od_repT : OpR X (binaryOp .Mult) (upO (Cx.ky X) fRepT) := by
  intro pins s σ H x y v u Q I rx ry ⟨d, e, R, P, dm, r1, r2, h, k⟩
  obtain ⟨ds, rfl, h0⟩ := asU_of h
  obtain ⟨i, rfl, hne, h1, h2, h3, h4⟩ := asI_of h0
  obtain ⟨a, xs, ev, q, ra⟩ := r1
  have ne : xs ≠ [] := fun e => hne (List.eq_nil_of_length_eq_zero (by rw [ra.len, e]; rfl))
  rcases h1 with e0 | h1
  · subst e0
    exact op_repT0 pins s σ H x y v u Q I rx ry ⟨a, xs, ev, r2, (hide_ext P H).seqT q, ne, fun p hp => k _ _ (.p (.tuple [])) (Ext.new hp) (new_tup dm hp rfl) h4⟩
  · exact op_repT pins s σ H x y v u Q I rx ry ⟨a, i, xs, ev, r2, (hide_ext P H).seqT q, ne, h1, h2, by rw [← ra.len]; exact h3, fun p hp => k _ _ (.p (.tuple (List.replicate i.toNat ds).flatten)) (Ext.new hp) (new_tup dm hp (ra.rep i.toNat)) h4⟩
/-- int of a truth value -/
def fIntB : FL := fun ds R => ∃ b : Bool, ds = [.p (.bool b)] ∧ R (.p (.int (if b then 1 else 0)))
theorem cd_intB : CallR X (.type "int") (upC (Cx.ky X) fIntB) := CallR.imp call_int1 fun xs H Q ⟨ds, R, P, dm, r, ⟨b, e, h⟩, k⟩ => by
  subst e
  obtain ⟨v, rfl, r1⟩ := rvA1 r
  exact .inr ⟨b, by rw [show v = .bl b from r1], k _ H (.p (.int (if b then 1 else 0))) (Ext.refl H) rfl h⟩
/-- t == () -/
def fEqU (neg : Bool) : F2 := fun d e R => asU d fun xs => e = .p (.tuple []) ∧ R (.p (.bool (if neg then !xs.isEmpty else xs.isEmpty)))
theorem od_eqU (hu : X.A.units < cLine) : OpR X (compareOp .Eq) (upO (Cx.ky X) (fEqU false)) := by
  intro pins s σ H x y v u Q I rx ry ⟨d, e, R, P, dm, r1, r2, h, k⟩
  obtain ⟨xs, rfl, rfl, h1⟩ := asU_of h
  obtain ⟨as, ra, _⟩ := rp_reads dm.1 I r1 rx
  obtain ⟨bs, rb, _⟩ := rp_reads dm.1 I r2 ry
  have hq : EP X pins σ Q (.bool xs.isEmpty) s := ⟨.bl _, H, I, rfl, k _ H (.p (.bool xs.isEmpty)) (Ext.refl H) rfl h1⟩
  cases ra with
  | tuple a1 a2 a3 a4 => cases rb with
    | tuple b1 b2 b3 b4 =>
      have n1 := SeqAt.ReadsAll.length _ _ _ a4
      have n2 := SeqAt.ReadsAll.length _ _ _ b4
      rw [Array.length_toList] at n1 n2
      rw [List.length_nil] at n2
      refine SeqAt.RcAt.tuples (e := fun _ => true) ⟨_, a1, a2, _, a3⟩ ⟨_, b1, b2, _, b3⟩ hu (fun j h1 h2 => absurd h2 (by omega)) _ _ _ _ ?_
      rw [n1, n2, Nat.min_zero]
      have e : ((List.range 0).all (fun _ => true) && xs.length == 0) = xs.isEmpty := by cases xs <;> rfl
      rw [e]
      exact hq
end
end MR

/-! Lists that one slot alone holds: made, appended to, given up. -/
namespace MR
open PySem PySem.Spec PyProof.Rows L2
section
variable {κ : Ky} {c : Sc} {H : Hp} {L : Addr → Bool} {δ : Dn} {σ : Sg}
theorem set_get_own {i j : Nat} {s : Sl} {ds : List PyData} (h : (δ.set i s)[j]? = some (Sl.own ds)) : (j = i ∧ s = .own ds ∧ i < δ.length) ∨ (j ≠ i ∧ δ[j]? = some (.own ds)) := by
  by_cases hj : j = i
  · subst hj
    have hl : j < δ.length := by
      have := (List.getElem?_eq_some_iff.mp h).1
      rw [List.length_set] at this
      exact this
    rw [List.getElem?_set_self hl] at h
    exact .inl ⟨rfl, Option.some.inj h, hl⟩
  · rw [List.getElem?_set_ne (Ne.symm hj)] at h
    exact .inr ⟨hj, h⟩
theorem set_get_v {i j : Nat} {s : Sl} {d : DV} (h : (δ.set i s)[j]? = some (Sl.v d)) : (j = i ∧ s = .v d ∧ i < δ.length) ∨ (j ≠ i ∧ δ[j]? = some (.v d)) := by
  by_cases hj : j = i
  · subst hj
    have hl : j < δ.length := by
      have := (List.getElem?_eq_some_iff.mp h).1
      rw [List.length_set] at this
      exact this
    rw [List.getElem?_set_self hl] at h
    exact .inl ⟨rfl, Option.some.inj h, hl⟩
  · rw [List.getElem?_set_ne (Ne.symm hj)] at h
    exact .inr ⟨hj, h⟩
/-- appended to -/
theorem ES.put (s : ES κ c H L δ σ) {i : Nat} {ds ds' : List PyData} {a : Addr} {xs' : List V} (ho : δ[i]? = some (.own ds)) (ha : σ[i]? = some (some (V.ref a))) (r : RpA κ.K (hide (oor c.P L) H) ds' xs') (np : nP ds' = true) :
    ES κ c (upd H a (.lst xs')) L (δ.set i (.own ds')) σ := by
  obtain ⟨a', xs, e1, la, e4, _⟩ := s.own i ds ho
  rw [ha] at e1
  cases e1
  have oa : oor c.P L a = true := by unfold oor; rw [la, Bool.or_true]
  have eh : hide (oor c.P L) (upd H a (.lst xs')) = hide (oor c.P L) H := hide_same oa
  have ha0 := (s.ldom a la).2
  refine ⟨by rw [List.length_set]; exact s.len, fun j d e => ?_, fun j es e => ?_, fun j k es fs b n h1 h2 h3 => ?_, s.psys, s.pdom, fun b hb => ⟨?_, (s.ldom b hb).2⟩, fun b o e => ?_, ?_, ?_, s.mp⟩
  · rw [eh]
    rcases set_get_v e with ⟨_, z, _⟩ | ⟨_, z⟩
    · cases z
    · exact s.val j d z
  · rw [eh]
    rcases set_get_own e with ⟨rfl, z, _⟩ | ⟨nj, z⟩
    · cases z
      exact ⟨a, xs', ha, la, ⟨upd_same, noP_of r np⟩, r⟩
    · obtain ⟨b, ys, q1, q2, q3, q4⟩ := s.own j es z
      have ne : b ≠ a := fun z2 => by
        subst z2
        exact s.sep i j ds es b (Ne.symm nj) ho z ha q1
      exact ⟨b, ys, q1, q2, ⟨by rw [upd_ne ne]; exact q3.at_, q3.np⟩, q4⟩
  · have f : ∀ {j : Nat} {es : List PyData}, (δ.set i (.own ds'))[j]? = some (Sl.own es) → ∃ fs, δ[j]? = some (.own fs) := fun {j es} h => by
      rcases set_get_own h with ⟨rfl, _, _⟩ | ⟨_, z⟩
      · exact ⟨_, ho⟩
      · exact ⟨_, z⟩
    obtain ⟨_, z1⟩ := f h1
    obtain ⟨_, z2⟩ := f h2
    exact s.sep j k _ _ b n z1 z2 h3
  · by_cases hb2 : b = a
    · rw [hb2, upd_same]
      exact Option.some_ne_none _
    · rw [upd_ne hb2]
      exact (s.ldom b hb).1
  · by_cases hb2 : b = a
    · subst hb2
      rcases ha0 with z | z
      · rw [z] at e; cases e
      · exact .inr ⟨z, by rw [upd_same]; exact Option.some_ne_none _⟩
    · rw [upd_ne hb2]
      exact s.ext b o e
  · rw [eh]
    exact s.kept
  · refine s.ods.mono (fun j o e => ⟨(od_set (fun _ z => by cases z) e).2, rfl⟩) (fun b u l h k => ⟨l, ?_⟩) (by rw [eh]; exact Ext.refl _)
    rw [upd_ne (fun z => by rw [z, e4.at_] at h; cases h; exact k)]
    exact h
/-- given up: data from now on -/
theorem ES.frz (s : ES κ c H L δ σ) {i : Nat} {ds : List PyData} (ho : δ[i]? = some (.own ds)) : ∃ L', ES κ c H L' (δ.set i (.v (.p (.list ds)))) σ := by
  obtain ⟨a, xs, e1, la, ea, ra⟩ := s.own i ds ho
  let L' : Addr → Bool := fun b => L b && !decide (b = a)
  have sub : ∀ b, oor c.P L' b = true → oor c.P L b = true := fun b h => by
    unfold oor at h ⊢
    rw [Bool.or_eq_true] at h ⊢
    exact h.imp id fun z => by
      have z' : (L b && !decide (b = a)) = true := z
      rw [Bool.and_eq_true] at z'
      exact z'.1
  have hx : Ext (hide (oor c.P L) H) (hide (oor c.P L') H) := hide_less H sub
  have off : oor c.P L' a = false := by
    unfold oor
    have h1 : c.P a = false := by
      cases q : c.P a with
      | false => rfl
      | true =>
        rcases (s.ldom a la).2 with z | z
        · exact absurd z (s.pdom a q)
        · rw [s.mp a z] at q; cases q
    have h2 : L' a = false := by show (L a && !decide (a = a)) = false; rw [decide_eq_true rfl, Bool.not_true, Bool.and_false]
    rw [h1, h2]
    rfl
  refine ⟨L', by rw [List.length_set]; exact s.len, fun j d e => ?_, fun j es e => ?_, fun j k es fs b n h1 h2 h3 => ?_, s.psys, s.pdom, fun b hb => ?_, s.ext, s.kept.ext hx, s.ods.mono (fun j o e => ⟨(od_set (fun _ z => by cases z) e).2, rfl⟩) (fun b u l h k => ⟨by show (L b && !decide (b = a)) = true; rw [l, decide_eq_false (fun z => by rw [z, ea.at_] at h; cases h; exact k)]; rfl, h⟩) hx, s.mp⟩
  · rcases set_get_v e with ⟨rfl, z, _⟩ | ⟨_, z⟩
    · cases z
      exact ⟨.ref a, e1, a, xs, rfl, ⟨by rw [hide_at off]; exact ea.at_, ea.np⟩, ra.ext hx⟩
    · obtain ⟨v, q1, q2⟩ := s.val j d z
      exact ⟨v, q1, q2.ext hx⟩
  · rcases set_get_own e with ⟨_, z, _⟩ | ⟨nj, z⟩
    · cases z
    · obtain ⟨b, ys, q1, q2, q3, q4⟩ := s.own j es z
      have ne : b ≠ a := fun z2 => by
        subst z2
        exact s.sep i j ds es b (Ne.symm nj) ho z e1 q1
      exact ⟨b, ys, q1, by show (L b && !decide (b = a)) = true; rw [q2, decide_eq_false ne]; rfl, q3, q4.ext hx⟩
  · rcases set_get_own h1 with ⟨_, z, _⟩ | ⟨_, z1⟩
    · cases z
    · rcases set_get_own h2 with ⟨_, z, _⟩ | ⟨_, z2⟩
      · cases z
      · exact s.sep j k es fs b n z1 z2 h3
  · have hb' : (L b && !decide (b = a)) = true := hb
    rw [Bool.and_eq_true] at hb'
    exact s.ldom b hb'.1
/-- a new list in a slot -/
theorem ES.own1 {H' : Hp} (s : ES κ c H L δ σ) {i : Nat} {ds : List PyData} {p : Addr} {xs : List V} (x : Ext H H') (hp : H p = none) (ep : LstAt H' p xs) (r : RpA κ.K (hide (oor c.P (plus L p)) H') ds xs) :
    ES κ c H' (plus L p) (δ.set i (.own ds)) (σ.set i (some (.ref p))) := by
  have hp0 : c.H0 p = none := s.ext.none hp
  have xD : Ext (hide (oor c.P L) H) (hide (oor c.P (plus L p)) H') := fun a o e => by
    unfold hide at e ⊢
    split at e
    · cases e
    · rename_i n
      have ne : a ≠ p := ne_of_none e hp
      rw [oor_ne ne, if_neg n]
      exact x a o e
  have notp : ∀ {j : Nat} {es : List PyData} {a : Addr}, δ[j]? = some (Sl.own es) → σ[j]? = some (some (V.ref a)) → a ≠ p := fun {j es a} e1 e2 e3 => by
    obtain ⟨b, ys, q1, q2, q3, _⟩ := s.own j es e1
    rw [e2] at q1
    cases q1
    have q4 := q3.at_
    rw [e3, hp] at q4
    cases q4
  refine ⟨by rw [List.length_set, List.length_set]; exact s.len, fun j d e => ?_, fun j es e => ?_, fun j k es fs b n h1 h2 h3 => ?_, s.psys, s.pdom, fun b hb => ?_, s.ext.trans x, s.kept.ext xD, s.ods.mono (fun j o e => ⟨(od_set (fun _ z => by cases z) e).2, List.getElem?_set_ne (Ne.symm (od_set (fun _ z => by cases z) e).1)⟩) (fun b u l h k => ⟨plus_of l, x.keep h fun ⟨_, _, z, _⟩ => by rw [z] at k; exact k⟩) xD, s.mp⟩
  · rcases set_get_v e with ⟨_, z, _⟩ | ⟨nj, z⟩
    · cases z
    · obtain ⟨v, q1, q2⟩ := s.val j d z
      exact ⟨v, by rw [List.getElem?_set_ne (Ne.symm nj)]; exact q1, q2.ext xD⟩
  · rcases set_get_own e with ⟨rfl, z, hl⟩ | ⟨nj, z⟩
    · cases z
      exact ⟨p, xs, List.getElem?_set_self (by rw [← s.len]; exact hl), plus_at, ep, r⟩
    · obtain ⟨b, ys, q1, q2, q3, q4⟩ := s.own j es z
      refine ⟨b, ys, by rw [List.getElem?_set_ne (Ne.symm nj)]; exact q1, plus_of q2, x.lst q3, q4.ext xD⟩
  · rcases set_get_own h1 with ⟨rfl, z, hl⟩ | ⟨nj, z1⟩
    · rcases set_get_own h2 with ⟨rfl, _, _⟩ | ⟨nk, z2⟩
      · exact absurd rfl n
      · rw [List.getElem?_set_self (by rw [← s.len]; exact hl)] at h3
        cases h3
        rw [List.getElem?_set_ne (Ne.symm nk)]
        exact fun z3 => notp z2 z3 rfl
    · rw [List.getElem?_set_ne (Ne.symm nj)] at h3
      rcases set_get_own h2 with ⟨rfl, _, hl⟩ | ⟨nk, z2⟩
      · rw [List.getElem?_set_self (by rw [← s.len]; exact hl)]
        exact fun z3 => by
          cases z3
          exact notp z1 h3 rfl
      · rw [List.getElem?_set_ne (Ne.symm nk)]
        exact s.sep j k es fs b n z1 z2 h3
  · by_cases hb2 : b = p
    · rw [hb2, ep.at_]
      exact ⟨Option.some_ne_none _, .inl hp0⟩
    · rw [plus_ne hb2] at hb
      exact ⟨x.some (s.ldom b hb).1, (s.ldom b hb).2⟩
end
/-! ### expressions that make a new list -/
def upF (κ : Ky) (t : TD) : TE := fun σ H Q => ∃ δ R c L, ES κ c H L δ σ ∧ t δ R ∧ ∀ p H' ds xs, Ext H H' → H p = none → LstAt H' p xs → RpA κ.K (hide (oor c.P (plus L p)) H') ds xs → R (.p (.list ds)) → Q (.ref p) H'
/-- x = a new list -/
def dSetO (i : Nat) (t : TD) : TDS := fun E δ => t δ fun d => asL d fun ds => E.nx (δ.set i (.own ds))
/-- x.append(e) -/
def dApp (i : Nat) (t : TD) : TDS := fun E δ => match δ.getD i .un with
  | .own ds => t δ fun d => asP d fun z => ds.length < sizeLine ∧ nP (ds ++ [z]) = true ∧ E.nx (δ.set i (.own (ds ++ [z])))
  | _ => False
/-- from here on slot i is data -/
def dFrz (i : Nat) (t : TDS) : TDS := fun E δ => match δ.getD i .un with
  | .own ds => t E (δ.set i (.v (.p (.list ds))))
  | _ => False
theorem getD_own {δ : Dn} {i : Nat} {ds : List PyData} (h : δ.getD i .un = .own ds) : δ[i]? = some (.own ds) := by
  rw [List.getD_eq_getElem?_getD] at h
  cases e : δ[i]? with
  | none => rw [e] at h; cases h
  | some s => rw [e] at h; cases h; rfl
theorem xplus {κ : Ky} {c : Sc} {L : Addr → Bool} {H1 : Hp} {p : Addr} {o : HO} (hp : H1 p = none) : Ext (hide (oor c.P L) H1) (hide (oor c.P (plus L p)) (upd H1 p o)) := fun a u e => by
  unfold hide at e ⊢
  split at e
  · cases e
  · rename_i n
    have ne : a ≠ p := ne_of_none e hp
    rw [oor_ne ne, if_neg n, upd_ne ne]
    exact .inl e
section
variable {X : Cx} {e a b : Expr} {es : List Expr} {ta tb te : TD} {t : TL} {pos : Pos}
theorem df_lst (h : PA X es (upA (Cx.ky X) t)) : PE X (.List es pos) (upF (Cx.ky X) (dLst t)) := by
  refine PE.imp (pe_lst h) fun σ H Q ⟨δ, R, c, L, es, h, k⟩ => ⟨δ, _, c, L, es, h, fun vs H1 ds x1 r1 h1 => ?_⟩
  obtain ⟨xs, rfl, hz, np, h2⟩ := pyAll_of h1
  have rp := rvA_p r1
  exact ⟨by rw [← rp.len]; exact hz, fun p hp => k p _ xs vs (x1.trans (Ext.new hp)) (x1.none hp) ⟨upd_same, noP_of rp np⟩ (rp.ext (xplus (κ := Cx.ky X) (c := c) hp)) h2⟩
/-- xs + ys -/
def fCat : F2 := fun d e R => asL d fun xs => asL e fun ys => xs.length + ys.length ≤ sizeLine ∧ nP (xs ++ ys) = true ∧ R (.p (.list (xs ++ ys)))
theorem df_cat (ha : PE X a (up (Cx.ky X) ta)) (hb : PE X b (up (Cx.ky X) tb)) : PE X (.BinOp a .Add b pos) (upF (Cx.ky X) (dOp fCat ta tb)) := by
  refine PE.imp (pe_op op_cat ha hb) fun σ H Q ⟨δ, R, c, L, es, h, k⟩ => ⟨δ, _, c, L, es, h, fun v H1 d x1 r1 h1 => ⟨δ, _, c, L, es.on x1, h1, fun u H2 e x2 r2 h2 => ?_⟩⟩
  obtain ⟨xs, rfl, h3⟩ := asL_of h2
  obtain ⟨ys, rfl, hz, np, h4⟩ := asL_of h3
  obtain ⟨p, us, e1, q1, ra⟩ := r1
  obtain ⟨q, ws, e2, q2, rb⟩ := r2
  have q1' := (x2.hide (oor c.P L)).lst q1
  have ra' := ra.ext (x2.hide (oor c.P L))
  refine ⟨p, q, us, ws, e1, e2, ((hide_ext _ _).lst q1').at_, ((hide_ext _ _).lst q2).at_, by rw [← ra.len, ← rb.len]; exact hz, fun n hn => ?_⟩
  exact k n _ (xs ++ ys) (us ++ ws) (x1.trans (x2.trans (Ext.new hn))) ((x1.trans x2).none hn) ⟨upd_same, noP_of (ra'.app rb) np⟩ ((ra'.app rb).ext (xplus (κ := Cx.ky X) (c := c) hn)) h4
theorem ds_setO {i : Nat} {x : Str} {pos' : Pos} (hN : X.N.Nodup) (hi : X.N[i]? = some x) (hx : Loc X.env.scope x) (he : PE X e (upF (Cx.ky X) te)) (hs : swapsWith e (some (.Name x pos')) pos.line X.env = pure false := by rfl) (hf : X.fn x = true ∨ X.env.scope.names.lookup x = some .local := by first | exact .inl rfl | exact .inr rfl | assumption) : PS X (.Assign [.Name x pos'] e pos) (upS (Cx.ky X) (dSetO i te)) := by
  refine PS.imp (ps_set hN hi hx he hs hf) fun D σ H ⟨δ, E, c, L, es, h, f⟩ => ⟨δ, _, c, L, es, h, fun p H1 ds xs x1 hp ep r h1 => ?_⟩
  exact f.nx _ _ H1 _ (es.own1 x1 hp ep r) h1
theorem ds_app {i : Nat} {x : Str} {apos cpos npos : Pos} (hv : PE X (.Name x npos) (tVar i)) (he : PE X e (up (Cx.ky X) te))
    (h : ∀ {ta : TA}, PA X [e] ta → PS X (.Expr (.Call (.Attribute (.Name x npos) "append" apos) [e] [] cpos) pos) (tDrop (tBM X.K "list" rAppend (tVar i) ta)))
    (hs : starEach [e] X.env = (false, eval e X.env) :: starEach [] X.env := by rfl) : PS X (.Expr (.Call (.Attribute (.Name x npos) "append" apos) [e] [] cpos) pos) (upS (Cx.ky X) (dApp i te)) := by
  refine PS.imp (h (da_cons he da_nil hs)) fun D σ H ⟨δ, E, c, L, es, h, f⟩ => ?_
  unfold dApp at h
  cases q : δ.getD i .un with
  | un => rw [q] at h; exact h.elim
  | v d => rw [q] at h; exact h.elim
  | od o => rw [q] at h; exact h.elim
  | own ds =>
    rw [q] at h
    have ho := getD_own q
    obtain ⟨a, xs, e1, la, ea, ra⟩ := es.own i ds ho
    refine ⟨.ref a, e1, .inl ⟨rfl, _, .inl (.inl ea.at_)⟩, δ, fun ds' => (match ds' with | [d] => asP d fun z => ds.length < sizeLine ∧ nP (ds ++ [z]) = true ∧ E.nx (δ.set i (.own (ds ++ [z]))) | _ => False), c, L, es, h, fun vs H1 ds' x1 r1 h1 => ?_⟩
    · obtain ⟨z, rfl, hz, np, h2⟩ : ∃ z, ds' = [.p z] ∧ ds.length < sizeLine ∧ nP (ds ++ [z]) = true ∧ E.nx (δ.set i (.own (ds ++ [z]))) := by
        match ds', h1 with
        | [d], h1 =>
          obtain ⟨z, rfl, h2⟩ := asP_of h1
          exact ⟨z, rfl, h2⟩
      obtain ⟨v, rfl, rv⟩ := rvA1 r1
      have es1 := es.on x1
      exact ⟨a, xs, v, rfl, rfl, (x1.lst ea).at_, by rw [← ra.len]; exact hz, f.nx _ _ _ L (es1.put ho e1 ((ra.ext (x1.hide _)).app (show RpA X.K _ [z] [v] from ⟨v, [], rfl, rv, rfl⟩)) np) h2⟩
theorem ds_frz {i : Nat} {st : Stmt} {u : TDS} (h : PS X st (upS (Cx.ky X) u)) : PS X st (upS (Cx.ky X) (dFrz i u)) := by
  refine PS.imp h fun D σ H ⟨δ, E, c, L, es, h, f⟩ => ?_
  unfold dFrz at h
  cases q : δ.getD i .un with
  | un => rw [q] at h; exact h.elim
  | v d => rw [q] at h; exact h.elim
  | od o => rw [q] at h; exact h.elim
  | own ds =>
    rw [q] at h
    obtain ⟨L', es'⟩ := es.frz (getD_own q)
    exact ⟨_, E, c, L', es', h, f⟩
end
end MR

/-! list * int, max of a list of ints, tuples of texts as constants of a module. -/
namespace MR
open PySem PySem.Spec PyProof.Rows L2
def fRepL : F2 := fun d e R => asL d fun xs => asI e fun k => 0 ≤ k ∧ k ≤ 1000 ∧ xs.length ≤ 1000 ∧ nP (List.replicate k.toNat xs).flatten = true ∧ R (.p (.list (List.replicate k.toNat xs).flatten))
def fMaxL : FL := fun ds R => ∃ ns : List Int, ds = [.p (.list (ns.map .int))] ∧ 0 < ns.length ∧ ∀ m ∈ ns, (∀ y ∈ ns, y ≤ m) → R (.p (.int m))
def fMinL : FL := fun ds R => ∃ ns : List Int, ds = [.p (.list (ns.map .int))] ∧ 0 < ns.length ∧ ∀ m ∈ ns, (∀ y ∈ ns, m ≤ y) → R (.p (.int m))
theorem rpA_ints {K : PySem.W.Frag} {H : Hp} : ∀ {ns : List Int} {vs : List V}, RpA K H (ns.map .int) vs → vs = ns.map V.int
  | [], _, h => h
  | b :: bs, _, ⟨v, r, e, h, t⟩ => by rw [e, show v = .int b from h, rpA_ints t]; rfl
section
variable {X : Cx}
theorem od_repL : OpR X (binaryOp .Mult) (upO (Cx.ky X) fRepL) := by
  intro pins s σ H x y v u Q I rx ry ⟨d, e, R, P, dm, r1, r2, h, k⟩
  obtain ⟨ds, rfl, h0⟩ := asL_of h
  obtain ⟨i, rfl, h1, h2, h3, np, h4⟩ := asI_of h0
  obtain ⟨a, xs, ev, q, ra⟩ := r1
  refine op_rep pins s σ H x y v u Q I rx ry ⟨a, i, xs, ev, r2, ((hide_ext P H).lst q).at_, by omega, by omega, ?_, fun p hp => k _ _ (.p (.list (List.replicate i.toNat ds).flatten)) (Ext.new hp) (new_lst dm hp (ra.rep i.toNat) np) h4⟩
  rw [← ra.len]
  exact Nat.le_trans (Nat.mul_le_mul h3 (show i.toNat ≤ 1000 by omega)) (by decide)
theorem cd_maxL (hc : X.calm = true) : CallR X (.builtin "max") (upC (Cx.ky X) fMaxL) := CallR.imp (cr_max hc) fun xs H Q ⟨ds, R, P, dm, r, ⟨ns, e, h0, h⟩, k⟩ => by
  subst e
  obtain ⟨v, rfl, a, xs, e, q, ra⟩ := rvA1 r
  subst e
  have e2 := rpA_ints ra
  subst e2
  exact ⟨a, ns, rfl, SqL.of ((hide_ext P H).lst q).at_, h0, fun m hm hle => k _ H (.p (.int m)) (Ext.refl H) rfl (h m hm hle)⟩
theorem cd_minL (hc : X.calm = true) : CallR X (.builtin "min") (upC (Cx.ky X) fMinL) := CallR.imp (cr_min hc) fun xs H Q ⟨ds, R, P, dm, r, ⟨ns, e, h0, h⟩, k⟩ => by
  subst e
  obtain ⟨v, rfl, a, xs, e, q, ra⟩ := rvA1 r
  subst e
  have e2 := rpA_ints ra
  subst e2
  exact ⟨a, ns, rfl, SqL.of ((hide_ext P H).lst q).at_, h0, fun m hm hle => k _ H (.p (.int m)) (Ext.refl H) rfl (h m hm hle)⟩
end
/-- two texts in a tuple that the module wrote -/
def Wtn (K : PySem.W.Frag) (u : Value) (ys : List Str) : Prop := ∃ a, u = .ref a ∧ ∀ H, SqT K H a (ys.map V.str)
theorem wtn_rv {κ : Ky} {u : Value} {ys : List Str} (h : Wtn κ.K u ys) : ∃ v, RelV v u ∧ ∀ H, Rv κ H (.p (.tuple (ys.map .str))) v := by
  obtain ⟨a, rfl, h⟩ := h
  exact ⟨.ref a, rfl, fun H => ⟨a, ys.map V.str, rfl, h H, rpA_txt ys⟩⟩
theorem de_globT {X : Cx} {x : Str} {u : Value} {ys : List Str} {pos : Pos} (hg : Gl X x) (hm : X.mg x = some u) (h : Wtn X.K u ys) (hd : (x == ("__debug__" : Str)) = false := by decide) : PE X (.Name x pos) (up (Cx.ky X) (dC (.p (.tuple (ys.map .str))))) := by
  obtain ⟨v, r, q⟩ := wtn_rv (κ := Cx.ky X) h
  exact de_glob hg hm r q hd
end MR

/-! < of alike data, while, rstrip, index, displays with stars, lists turned round, pop, sorted lists of texts. -/
namespace MR
open PySem PySem.Spec PyProof.Rows L2
section
variable {X : Cx}
/-- a < b, alike data -/
def fLtA : F2 := fun d e R => asP d fun x => asP e fun y => PySem.W.alike x y = true ∧ x ≠ .none ∧ min x.depth y.depth ≤ 60 ∧ R (.p (.bool (PySem.W.dataLt x y)))
theorem od_ltA (hu : X.A.units + 64 < cLine) : OpR X (compareOp .Lt) (upO (Cx.ky X) fLtA) := by
  intro pins s σ H x y v u Q I rx ry ⟨d, e, R, P, dm, r1, r2, h, k⟩
  obtain ⟨a, rfl, h0⟩ := asP_of h
  obtain ⟨b, rfl, h1, h2, h3, h4⟩ := asP_of h0
  obtain ⟨as, ra, _⟩ := rp_reads dm.1 I r1 rx
  obtain ⟨bs, rb, _⟩ := rp_reads dm.1 I r2 ry
  exact PySem.W.lt_data ra rb h1 h2 (by omega) ⟨.bl _, H, I, rfl, k _ H (.p (.bool (PySem.W.dataLt a b))) (Ext.refl H) rfl h4⟩
end
/-! ### while -/
def dWhile (tc : TB) (tb : TDS) : TDS := fun E δ => ∃ W : Nat → Dn → Prop, (∃ m, W m δ) ∧ ∀ m δ, W m δ → tc δ fun b => if b = true then ∃ N : Dn → Prop, (∀ δ', N δ' → ∃ m', m' < m ∧ W m' δ') ∧ tb { E with nx := N, ct := N, bk := E.nx } δ else E.nx δ
section
variable {X : Cx} {c : Expr} {body : List Stmt} {tc : TB} {tb : TDS} {pos : Pos}
theorem ds_while (hp : PassesOwn (model X.prog X.w) X.A X.env X.xe) (hc : PT X c (upT (Cx.ky X) tc)) (hb : PSs X body (upS (Cx.ky X) tb)) : PS X (.While c body [] pos) (upS (Cx.ky X) (dWhile tc tb)) := by
  refine PS.imp (ps_while hp hc hb) fun D σ H ⟨δ, E, c, L, es, ⟨W, ⟨m0, w0⟩, turn⟩, f⟩ => ?_
  refine ⟨fun m σ H => ∃ δ L, ES (Cx.ky X) c H L δ σ ∧ W m δ, ⟨m0, δ, L, es, w0⟩, fun m σ1 H1 ⟨δ1, L1, es1, w1⟩ => ?_⟩
  refine ⟨δ1, _, c, L1, es1, turn m δ1 w1, fun b H2 x2 h2 => ?_⟩
  cases b with
  | true =>
    rw [if_pos rfl] at h2 ⊢
    obtain ⟨N, hN, h3⟩ := h2
    refine ⟨fun σ' H' => ∃ δ' L', ES (Cx.ky X) c H' L' δ' σ' ∧ N δ', fun σ' H' ⟨δ', L', es', n'⟩ => ?_, ?_⟩
    · obtain ⟨m', hm, w'⟩ := hN δ' n'
      exact ⟨m', hm, δ', L', es', w'⟩
    · exact ⟨δ1, _, c, L1, es1.on x2, h3, ⟨fun δ' σ' H' L' e' n' => ⟨δ', L', e', n'⟩, f.rt, fun δ' σ' H' L' e' n' => f.nx δ' σ' H' L' e' n', fun δ' σ' H' L' e' n' => ⟨δ', L', e', n'⟩, f.ro⟩⟩
  | false =>
    rw [if_neg Bool.false_ne_true] at h2 ⊢
    exact f.nx δ1 σ1 H2 L1 (es1.on x2) h2
end
/-! ### texts -/
section
variable {X : Cx} {o e : Expr} {to te : TD}
def fRst : F1S := fun a e R => asS e fun b => a.length ≤ sizeLine ∧ R (.p (.str (Txt.rstripChars a b)))
def fSix : F1S := fun a e R => asS e fun b => ∃ i rest, Builtin.Str.occurrences a b 0 a.length 1 = i :: rest ∧ R (.p (.int ((i : Nat) : Int)))
theorem de_rstrip {apos pos : Pos} (ho : PE X o (up (Cx.ky X) to)) (he : PE X e (up (Cx.ky X) te)) (hs : starEach [e] X.env = [(false, eval e X.env)] := by rfl) (hbase : attributeBase o "rstrip" X.env (eval o X.env) = eval o X.env := by rfl) (hline : (apos.endLine == pos.line) = true := by rfl) :
    PE X (.Call (.Attribute o "rstrip" apos) [e] [] pos) (up (Cx.ky X) (dM1 fRst to te)) :=
  de_m1 PySem.F.slot_str_rstrip PySem.F.type_str_rstrip mt_rstripChars (fun a y H Q h => by
    obtain ⟨d, e, R, P, dm, r1, r2, h1, k⟩ := h
    obtain ⟨a', rfl, h2⟩ := asS_of h1
    obtain ⟨b, rfl, hz, h3⟩ := asS_of h2
    have ea : V.str a = .str a' := r1
    cases ea
    exact ⟨a, b, rfl, by rw [show y = .str b from r2], hz, k _ H (.p (.str (Txt.rstripChars a b))) (Ext.refl H) rfl h3⟩) ho he hs hbase hline
theorem de_index {apos pos : Pos} (ho : PE X o (up (Cx.ky X) to)) (he : PE X e (up (Cx.ky X) te)) (hs : starEach [e] X.env = [(false, eval e X.env)] := by rfl) (hbase : attributeBase o "index" X.env (eval o X.env) = eval o X.env := by rfl) (hline : (apos.endLine == pos.line) = true := by rfl) :
    PE X (.Call (.Attribute o "index" apos) [e] [] pos) (up (Cx.ky X) (dM1 fSix to te)) :=
  de_m1 PySem.F.slot_str_index PySem.F.type_str_index mt_sindex (fun a y H Q h => by
    obtain ⟨d, e, R, P, dm, r1, r2, h1, k⟩ := h
    obtain ⟨a', rfl, h2⟩ := asS_of h1
    obtain ⟨b, rfl, i, rest, ho, h3⟩ := asS_of h2
    have ea : V.str a = .str a' := r1
    cases ea
    exact ⟨a, b, i, rest, rfl, by rw [show y = .str b from r2], ho, k _ H (.p (.int ((i : Nat) : Int))) (Ext.refl H) rfl h3⟩) ho he hs hbase hline
end
/-! ### displays with stars -/
theorem rvA_of {κ : Ky} {H : Hp} : ∀ {xs : List PyData} {vs : List V}, RpA κ.K H xs vs → RvA κ H (xs.map .p) vs
  | [], _, h => h
  | _ :: _, _, ⟨v, r, e, h, t⟩ => ⟨v, r, e, h, rvA_of t⟩
def dStar (te : TD) (t : TL) : TL := fun δ R => te δ fun d => asP d fun z => ∃ zs, (z = .tuple zs ∨ z = .list zs) ∧ t δ fun ds => R (zs.map .p ++ ds)
section
variable {X : Cx} {e : Expr} {es : List Expr} {te : TD} {t : TL} {p : Pos}
theorem da_star (he : PE X e (up (Cx.ky X) te)) (hr : PA X es (upA (Cx.ky X) t)) (hs : starEach (.Starred e p :: es) X.env = (true, eval e X.env) :: starEach es X.env := by rfl) : PA X (.Starred e p :: es) (upA (Cx.ky X) (dStar te t)) := by
  refine PA.imp (StX.pa_star he hr hs) fun σ H Q ⟨δ, R, c, L, es, h, k⟩ => ⟨δ, _, c, L, es, h, fun v H1 d x1 r1 h1 => ?_⟩
  obtain ⟨z, rfl, zs, hz, h2⟩ := asP_of h1
  have key : ∃ p xs, v = V.ref p ∧ (SqT X.K H1 p xs ∨ SqL X.K H1 p xs) ∧ RpA X.K (hide (oor c.P L) H1) zs xs := by
    rcases hz with rfl | rfl
    · obtain ⟨a, xs, e, q, ra⟩ := r1
      exact ⟨a, xs, e, .inl ((hide_ext _ _).seqT q), ra⟩
    · obtain ⟨a, xs, e, q, ra⟩ := r1
      exact ⟨a, xs, e, .inr (SqL.of ((hide_ext _ _).lst q).at_), ra⟩
  obtain ⟨a, xs, e, q, ra⟩ := key
  exact ⟨a, xs, e, q, δ, _, c, L, es.on x1, h2, fun vs H2 ds x2 r2 h3 => k _ H2 _ (x1.trans x2) ((rvA_of (ra.ext (x2.hide _))).app r2) h3⟩
end
/-! ### xs[::-1] -/
theorem RpA.rev {K : PySem.W.Frag} {H : Hp} : ∀ {ds : List PyData} {vs : List V}, RpA K H ds vs → RpA K H ds.reverse vs.reverse
  | [], vs, h => by rw [show vs = [] from h]; rfl
  | d :: ds, _, ⟨v, r, e, h, t⟩ => by
    rw [e, List.reverse_cons, List.reverse_cons]
    exact RpA.app (RpA.rev t) ⟨v, [], rfl, h, rfl⟩
theorem vals_rev : ∀ {xs : List V} {us : List Value}, Vals xs us → Vals xs.reverse us.reverse
  | _, _, .nil => .nil
  | _, _, .cons r t => by
    rw [List.reverse_cons, List.reverse_cons]
    exact (vals_rev t).append (.cons r .nil)
def dRev (te : TD) (ts : TDO) : TD := fun δ R => te δ fun d => asL d fun xs => ts δ fun o => o = some (-1) ∧ nP xs.reverse = true ∧ R (.p (.list xs.reverse))
section
variable {X : Cx} {e st : Expr} {te : TD} {ts : TDO} {p2 pos : Pos}
theorem de_rev (he : PE X e (up (Cx.ky X) te)) (hst : PO X (some st) (upP (Cx.ky X) ts)) : PE X (.Subscript e (.Slice none none (some st) p2) pos) (up (Cx.ky X) (dRev te ts)) := by
  refine ⟨fun pins s σ H Q I ⟨δ, R, c, L, es, h, k⟩ => ?_⟩
  refine Subscript_ (thn (he.run pins s σ H (fun x H1 => ∃ xs, Ext H H1 ∧ Rp X.K (hide (oor c.P L) H1) (.list xs) x ∧ ts δ fun o => o = some (-1) ∧ nP xs.reverse = true ∧ R (.p (.list xs.reverse))) I ⟨δ, _, c, L, es, h, fun v H1 d x1 r1 h1 => ?_⟩) fun v s1 ⟨x, H1, I1, r1, q1⟩ => ?_)
  · obtain ⟨xs, rfl, h2⟩ := asL_of h1
    exact ⟨xs, x1, r1, h2⟩
  obtain ⟨xs, x1, rx, h2⟩ := q1
  refine wpAny_Slice ?_
  rw [evalPart_none]
  refine wpAny_pure ?_
  refine wpAny_pure ?_
  refine thn (hst.run pins s1 σ H1 (fun o H2 => Ext H1 H2 ∧ o = some (-1) ∧ nP xs.reverse = true ∧ R (.p (.list xs.reverse))) I1 ⟨δ, _, c, L, es.on x1, h2, fun o H2 x2 h3 => ⟨x2, h3⟩⟩) fun vs s3 ⟨o, H3, I3, ps, x3, eo, np, q3⟩ => ?_
  subst eo
  have I4 : Inv X pins σ H3 { s3 with heap := s3.heap.push { cls := .type "slice", data := .fields #[.none, .none, vs] } } := I3.kept (t' := s3.toks) fun b ob q => Heap.get?_push_of_some _ q
  obtain ⟨a, us, e1, q, ra⟩ := rx.ext (x3.hide (oor c.P L))
  subst e1
  cases r1
  have q' : SqL X.K H3 a us := SqL.of ((hide_ext _ _).lst q).at_
  obtain ⟨its, rv, hl, hz⟩ := I4.list q'
  have hlen := rv.length
  show wpAny (model X.prog X.w) X.A (subscriptTail e (.Slice none none (some st) p2) (.ref a) (.ref s3.heap.objs.size)) (EP X pins σ Q) X.xe { s3 with heap := s3.heap.push { cls := .type "slice", data := .fields #[.none, .none, vs] } }
  refine tail_any (ops := [.ref a, .ref s3.heap.objs.size]) hl.isList.typeIs slot_list_getitem.lookup ?_ (by with_unfolding_all rfl)
  refine wpAny_getItem_list_slice hl.isList (Heap.IsSliceOf.new ..) .none .none ps (by decide) ?_ (by rw [List.size_toArray] <;> omega)
  rw [PySem.W.krv_pick]
  have hf : H3 { s3 with heap := s3.heap.push { cls := .type "slice", data := .fields #[.none, .none, vs] } }.heap.objs.size = none := I4.hok.fresh (Nat.le_refl _)
  refine ⟨.ref _, upd H3 _ (.lst us.reverse), I4.laid (t' := s3.toks) (o := .lst us.reverse) (fun b ob q => Heap.get?_push_of_some _ q) (Nat.le_refl _) ?_, rfl, ?_⟩
  · exact ⟨by rw [List.length_reverse]; exact hz, its.reverse, 0, vals_rev rv, Heap.get?_push_size _ rfl⟩
  · exact k _ _ (.p (.list xs.reverse)) (x1.trans (x3.trans (Ext.new hf))) (new_lst (es.on (x1.trans x3)).dom hf ra.rev np) q3
end
/-! ### sorted(xs), fewer than 64 texts -/
def fSortL : FL := fun ds R => ∃ xs : List Str, ds = [.p (.list (xs.map .str))] ∧ xs.length < 64 ∧ ∀ ys : List Str, ys.Perm xs → sortedS ys = true → R (.p (.list (ys.map .str)))
section
variable {X : Cx}
theorem cd_sortL : CallR X (.builtin "sorted") (upC (Cx.ky X) fSortL) := CallR.imp cr_sortedS fun xs H Q ⟨ds, R, P, dm, r, ⟨ys, e, hz, h⟩, k⟩ => by
  subst e
  obtain ⟨v, rfl, a, us, rfl, q, ra⟩ := rvA1 r
  have eu := rpA_strs ra
  subst eu
  exact ⟨a, ys, rfl, SqL.of ((hide_ext P H).lst q).at_, hz, fun zs p hp hs hn => k _ _ (.p (.list (zs.map .str))) (Ext.new hn) (new_lst dm hn (rpA_txt _) (nP_strs _)) (h zs hp hs)⟩
end
/-! ### lists of one slot: their length, joined, popped from -/
def dLenO (i : Nat) : TD := fun δ R => match δ.getD i .un with
  | .own ds => ds.length ≤ sizeLine ∧ R (.p (.int (ds.length : Int)))
  | _ => False
def dCatO (i : Nat) (tb : TD) : TD := fun δ R => match δ.getD i .un with
  | .own ds => tb δ fun e => asL e fun ys => ds.length + ys.length ≤ sizeLine ∧ nP (ds ++ ys) = true ∧ R (.p (.list (ds ++ ys)))
  | _ => False
def dPop (i : Nat) (t : TD) : TDS := fun E δ => match δ.getD i .un with
  | .own ds => t δ fun d => asI d fun z => ∃ k, seqIndex? z ds.length = some k ∧ k < ds.length ∧ 0 ≤ z ∧ z < 2 ^ 62 ∧ nP (ds.eraseIdx k) = true ∧ E.nx (δ.set i (.own (ds.eraseIdx k)))
  | _ => False
theorem RpA.erase {K : PySem.W.Frag} {H : Hp} : ∀ {ds : List PyData} {vs : List V} (n : Nat), RpA K H ds vs → RpA K H (ds.eraseIdx n) (vs.eraseIdx n)
  | [], vs, n, h => by rw [show vs = [] from h]; rfl
  | _ :: _, _, 0, ⟨v, r, e, h, t⟩ => by rw [e]; exact t
  | _ :: _, _, n + 1, ⟨v, r, e, h, t⟩ => by rw [e]; exact ⟨v, _, rfl, h, RpA.erase n t⟩
section
variable {X : Cx} {e a b : Expr} {ta tb te : TD} {pos p npos : Pos} {x y : Str} {i : Nat}
theorem de_lenO (hv : PE X (.Name x npos) (tVar i)) (hg : Gl X "len") (hm : X.mg "len" = none) : PE X (.Call (.Name "len" p) [.Name x npos] [] pos) (up (Cx.ky X) (dLenO i)) := by
  refine PE.imp (pe_callB call_len hg hm (by decide +kernel) (pa_cons hv pa_nil)) fun σ H Q ⟨δ, R, c, L, es, h, k⟩ => ?_
  unfold dLenO at h
  cases q : δ.getD i .un with
  | un => rw [q] at h; exact h.elim
  | v d => rw [q] at h; exact h.elim
  | od o => rw [q] at h; exact h.elim
  | own ds =>
    rw [q] at h
    obtain ⟨a, xs, e1, la, ea, ra⟩ := es.own i ds (getD_own q)
    exact ⟨.ref a, e1, .ref a, ds.length, rfl, .inl ⟨xs, SqL.of ea.at_, ra.len⟩, k _ H (.p (.int ds.length)) (Ext.refl H) rfl h.2⟩
theorem df_catO (ha : PE X a (tVar i)) (hb : PE X b (up (Cx.ky X) tb)) : PE X (.BinOp a .Add b pos) (upF (Cx.ky X) (dCatO i tb)) := by
  refine PE.imp (pe_op op_cat ha hb) fun σ H Q ⟨δ, R, c, L, es, h, k⟩ => ?_
  unfold dCatO at h
  cases q : δ.getD i .un with
  | un => rw [q] at h; exact h.elim
  | v d => rw [q] at h; exact h.elim
  | od o => rw [q] at h; exact h.elim
  | own ds =>
    rw [q] at h
    obtain ⟨a, xs, e1, la, ea, ra⟩ := es.own i ds (getD_own q)
    refine ⟨.ref a, e1, δ, _, c, L, es, h, fun u H2 e x2 r2 h2 => ?_⟩
    obtain ⟨ys, rfl, hz, np, h4⟩ := asL_of h2
    obtain ⟨q, ws, e2, q2, rb⟩ := r2
    have ra' := ra.ext (x2.hide (oor c.P L))
    refine ⟨a, q, xs, ws, rfl, e2, (x2.lst ea).at_, ((hide_ext _ _).lst q2).at_, by rw [← ra.len, ← rb.len]; exact hz, fun n hn => ?_⟩
    exact k n _ (ds ++ ys) (xs ++ ws) (x2.trans (Ext.new hn)) (x2.none hn) ⟨upd_same, noP_of (ra'.app rb) np⟩ ((ra'.app rb).ext (xplus (κ := Cx.ky X) (c := c) hn)) h4
theorem ds_pop {apos cpos : Pos} (hv : PE X (.Name x npos) (tVar i)) (he : PE X e (up (Cx.ky X) te))
    (h : ∀ {ta : TA}, PA X [e] ta → PS X (.Expr (.Call (.Attribute (.Name x npos) "pop" apos) [e] [] cpos) pos) (tDrop (tBM X.K "list" rPopAt (tVar i) ta)))
    (hs : starEach [e] X.env = (false, eval e X.env) :: starEach [] X.env := by rfl) : PS X (.Expr (.Call (.Attribute (.Name x npos) "pop" apos) [e] [] cpos) pos) (upS (Cx.ky X) (dPop i te)) := by
  refine PS.imp (h (da_cons he da_nil hs)) fun D σ H ⟨δ, E, c, L, es, h, f⟩ => ?_
  unfold dPop at h
  cases q : δ.getD i .un with
  | un => rw [q] at h; exact h.elim
  | v d => rw [q] at h; exact h.elim
  | od o => rw [q] at h; exact h.elim
  | own ds =>
    rw [q] at h
    have ho := getD_own q
    obtain ⟨a, xs, e1, la, ea, ra⟩ := es.own i ds ho
    refine ⟨.ref a, e1, .inl ⟨rfl, _, .inl (.inl ea.at_)⟩, δ, fun ds' => (match ds' with | [d] => asI d fun z => ∃ k, seqIndex? z ds.length = some k ∧ k < ds.length ∧ 0 ≤ z ∧ z < 2 ^ 62 ∧ nP (ds.eraseIdx k) = true ∧ E.nx (δ.set i (.own (ds.eraseIdx k))) | _ => False), c, L, es, h, fun vs H1 ds' x1 r1 h1 => ?_⟩
    obtain ⟨z, rfl, k, hk, hlt, h0, hz, np, h2⟩ : ∃ z, ds' = [.p (.int z)] ∧ ∃ k, seqIndex? z ds.length = some k ∧ k < ds.length ∧ 0 ≤ z ∧ z < 2 ^ 62 ∧ nP (ds.eraseIdx k) = true ∧ E.nx (δ.set i (.own (ds.eraseIdx k))) := by
      match ds', h1 with
      | [d], h1 =>
        obtain ⟨z, rfl, h2⟩ := asI_of h1
        exact ⟨z, rfl, h2⟩
    obtain ⟨v, rfl, rv⟩ := rvA1 r1
    have ev : v = .int z := rv
    subst ev
    have es1 := es.on x1
    have hl := ra.len
    obtain ⟨w, hw⟩ : ∃ w, xs[k]? = some w := ⟨_, List.getElem?_eq_getElem (by omega)⟩
    exact ⟨a, xs, z, k, w, rfl, rfl, (x1.lst ea).at_, by omega, by omega, by rw [← hl]; exact hk, hw, f.nx _ _ _ L (es1.put ho e1 ((ra.ext (x1.hide _)).erase k) np) h2⟩
end
end MR

/-! Own lists out of comprehensions, tests that read own lists, append of pop, tuples repeated, is, not in a text, fifth powers. -/
namespace MR
open PySem PySem.Spec PyProof.Rows L2
theorem up_lcF {κ : Ky} {ti : TDI} {g : TDG} {tt : TB} {te : TD} {vs : List Nat} {σ : Sg} {H : Hp} {Q : VK} (h : upF κ (dLc ti g tt te vs) σ H Q) : tLc (upI κ ti) (upG κ vs g) (upT κ tt) (up κ te) vs σ H Q := by
  obtain ⟨δ, R, c, L, es, h, k⟩ := h
  refine ⟨δ, _, c, L, es, h, fun J H1 ds bs us x1 kb itk ⟨hz, h1⟩ D nD => ?_⟩
  have hl := kb.len
  have LD : L D = false := by
    cases q : L D with
    | false => rfl
    | true => exact absurd nD ((es.on x1).ldom D q).1
  have HD : H D = none := x1.none nD
  have H0D : c.H0 D = none := es.ext.none HD
  have PD : c.P D = false := by
    cases q : c.P D with
    | false => rfl
    | true => exact absurd H0D (es.pdom D q)
  -- the private lists, the new one besides
  have hsub : ∀ a, oor c.P L a = true → oor c.P (plus L D) a = true := fun a q => by
    unfold oor at q ⊢
    rw [Bool.or_eq_true] at q ⊢
    rcases q with q | q
    · exact .inl q
    · exact .inr (plus_of q)
  have xD : Ext (hide (oor c.P L) H1) (hide (oor c.P (plus L D)) (upd H1 D (.lst []))) := fun a o e => by
    unfold hide at e ⊢
    split at e
    · cases e
    · rename_i n
      have ne : a ≠ D := ne_of_none e nD
      rw [oor_ne ne, if_neg n, upd_ne ne]
      exact .inl e
  have ownD : ∀ (i : Nat) (xs : List PyData) (a : Addr), δ[i]? = some (Sl.own xs) → σ[i]? = some (some (V.ref a)) → a ≠ D := fun i xs a e1 e2 e3 => by
    obtain ⟨b, ys, q1, q2, q3, _⟩ := es.own i xs e1
    rw [e2] at q1
    cases q1
    rw [e3] at q2
    rw [q2] at LD
    cases LD
  have fresh : ∀ {Hc : Hp} {o : HO}, (∃ ys, Hc D = some (.lst ys)) → ES κ { c with bs := bs ++ c.bs, us := us ++ c.us } Hc (plus L D) δ σ → ES κ { c with bs := bs ++ c.bs, us := us ++ c.us } (upd Hc D o) (plus L D) δ σ := fun {Hc o} ⟨ys, hD⟩ s => by
    have eD : oor c.P (plus L D) D = true := oor_plus
    have eh : hide (oor c.P (plus L D)) (upd Hc D o) = hide (oor c.P (plus L D)) Hc := hide_same eD
    refine ⟨s.len, fun i d e => ?_, fun i xs e => ?_, s.sep, s.psys, s.pdom, fun a e => ⟨?_, (s.ldom a e).2⟩, fun a o' e => ?_, ?_, ?_, s.mp⟩
    · show ∃ v, _ ∧ Rv κ (hide (oor c.P (plus L D)) (upd Hc D o)) d v
      rw [eh]
      exact s.val i d e
    · obtain ⟨a, ys, q1, q2, q3, q4⟩ := s.own i xs e
      refine ⟨a, ys, q1, q2, ⟨by rw [upd_ne (ownD i xs a e q1)]; exact q3.at_, q3.np⟩, ?_⟩
      show RpA κ.K (hide (oor c.P (plus L D)) (upd Hc D o)) xs ys
      rw [eh]
      exact q4
    · by_cases ha : a = D
      · rw [ha, upd_same]
        exact Option.some_ne_none _
      · rw [upd_ne ha]
        exact (s.ldom a e).1
    · rw [upd_ne (ne_of_none e H0D)]
      exact s.ext a o' e
    · show RvA κ (hide (oor c.P (plus L D)) (upd Hc D o)) _ _
      rw [eh]
      exact s.kept
    · refine s.ods.mono (fun _ _ e => ⟨e, rfl⟩) (fun b u l h k => ⟨l, ?_⟩) ?_
      · rw [upd_ne (fun z => by rw [z, hD] at h; cases h; exact k)]
        exact h
      · show Ext _ (hide (oor c.P (plus L D)) (upd Hc D o))
        rw [eh]
        exact Ext.refl _
  have s0 : ES κ { c with bs := bs ++ c.bs, us := us ++ c.us } (upd H1 D (.lst [])) (plus L D) δ σ := by
    have s := (es.on x1).more kb
    refine ⟨s.len, fun i d e => ?_, fun i xs e => ?_, s.sep, s.psys, s.pdom, fun a e => ?_, s.ext.trans (Ext.new nD), s.kept.ext xD, s.ods.mono (fun _ _ e => ⟨e, rfl⟩) (fun b u l h _ => ⟨plus_of l, by rw [upd_ne (fun z => by rw [z] at l; rw [LD] at l; cases l)]; exact h⟩) xD, s.mp⟩
    · obtain ⟨v, q1, q2⟩ := s.val i d e
      exact ⟨v, q1, q2.ext xD⟩
    · obtain ⟨a, ys, q1, q2, q3, q4⟩ := s.own i xs e
      exact ⟨a, ys, q1, plus_of q2, ⟨by rw [upd_ne (ownD i xs a e q1)]; exact q3.at_, q3.np⟩, q4.ext xD⟩
    · by_cases ha : a = D
      · rw [ha, upd_same]
        exact ⟨Option.some_ne_none _, .inl H0D⟩
      · rw [plus_ne ha] at e
        rw [upd_ne ha]
        exact s.ldom a e
  refine ⟨fun i m Hc => i + m = ds.length ∧ ∃ accD acc, ES κ { c with bs := bs ++ c.bs, us := us ++ c.us } Hc (plus L D) δ σ ∧ Ext H Hc ∧ LstAt Hc D acc ∧ RpA κ.K (hide (oor c.P (plus L D)) Hc) accD acc ∧ accD.length ≤ i ∧ lcL g tt te (wipeD δ vs) (fun acc => R (.p (.list acc))) (ds.drop i) accD,
    ⟨ds.length, by omega, [], [], s0, x1.trans (Ext.new nD), ⟨upd_same, trivial⟩, rfl, Nat.le_refl 0, h1⟩, fun i m Hc ⟨em, accD, acc, s, xc, eD, ra, hlen, hh⟩ => ?_⟩
  obtain ⟨s2, kb2⟩ := s.less hl
  by_cases hi : i < ds.length
  · rw [List.drop_eq_getElem_cons hi] at hh
    refine .inr ⟨itk.go Hc _ i s2.dom kb2 hi, fun H' => ∃ accD acc, ES κ { c with bs := bs ++ c.bs, us := us ++ c.us } H' (plus L D) δ σ ∧ Ext H H' ∧ LstAt H' D acc ∧ RpA κ.K (hide (oor c.P (plus L D)) H') accD acc ∧ accD.length ≤ i + 1 ∧ lcL g tt te (wipeD δ vs) (fun acc => R (.p (.list acc))) (ds.drop (i + 1)) accD,
      fun H' ⟨accD, acc, a1, a2, a3, a4, a5, a6⟩ => ⟨m - 1, by omega, by omega, accD, acc, a1, a2, a3, a4, a5, a6⟩, fun x H2 hy => ?_⟩
    obtain ⟨y, ey, x2, ry⟩ := itk.yld Hc _ i x H2 s2.dom kb2 hi hy
    rw [List.getElem?_eq_getElem hi] at ey
    cases ey
    refine ⟨.p ds[i], wipeD δ vs, _, _, _, (s.on x2).wipe vs, ry, hh, fun δ3 σ3 s3 ew h3 => ⟨?_, ⟨δ3, _, _, _, s3, h3, fun b H3 x3 h4 => ?_⟩⟩⟩
    · rw [ew]
      apply List.ext_getElem?
      intro j
      have two : ∀ (ws : List Nat) (τ : Sg), (∀ v ∈ ws, v ∈ vs) → L2.wipe (L2.wipe τ vs) ws = L2.wipe τ vs := by
        intro ws
        induction ws with
        | nil => intro τ _; rfl
        | cons w ws ih =>
          intro τ hw
          show (L2.wipe (L2.wipe τ vs) ws).set w none = L2.wipe τ vs
          rw [ih τ fun v hv => hw v (List.mem_cons_of_mem _ hv)]
          have hwv := hw w List.mem_cons_self
          apply List.ext_getElem?
          intro j
          by_cases hj : j = w
          · subst hj
            by_cases hlt : j < τ.length
            · rw [List.getElem?_set_self (by rw [wipe_length]; exact hlt), List.getElem?_eq_getElem (by rw [wipe_length]; exact hlt)]
              cases e : (L2.wipe τ vs)[j]'(by rw [wipe_length]; exact hlt) with
              | none => rfl
              | some v =>
                have q := wipe_some (σ := τ) (vs := vs) (i := j) (x := v) (by rw [List.getElem?_eq_getElem (by rw [wipe_length]; exact hlt), e])
                exact absurd hwv q.2
            · rw [List.getElem?_eq_none (by rw [List.length_set, wipe_length]; omega), List.getElem?_eq_none (by rw [wipe_length]; omega)]
          · rw [List.getElem?_set_ne (Ne.symm hj)]
      rw [two vs σ fun _ h => h]
    · have done : ∀ {H' : Hp}, Ext H2 H' → lcL g tt te (wipeD δ vs) (fun acc => R (.p (.list acc))) (ds.drop (i + 1)) accD → ∃ accD acc, ES κ { c with bs := bs ++ c.bs, us := us ++ c.us } H' (plus L D) δ σ ∧ Ext H H' ∧ LstAt H' D acc ∧ RpA κ.K (hide (oor c.P (plus L D)) H') accD acc ∧ accD.length ≤ i + 1 ∧ lcL g tt te (wipeD δ vs) (fun acc => R (.p (.list acc))) (ds.drop (i + 1)) accD :=
        fun {H'} x h => ⟨accD, acc, s.on (x2.trans x), xc.trans (x2.trans x), (x2.trans x).lst eD, ra.ext ((x2.trans x).hide _), Nat.le_succ_of_le hlen, h⟩
      cases b with
      | false => exact done x3 h4
      | true =>
        show up κ te σ3 H3 _
        refine ⟨δ3, _, _, _, s3.on x3, h4, fun v H4 d x4 r4 h5 => ?_⟩
        obtain ⟨z, rfl, hnp, h6⟩ := asP_of h5
        have xx := x2.trans (x3.trans x4)
        have rr : RpA κ.K (hide (oor c.P (plus L D)) H4) (accD ++ [z]) (acc ++ [v]) := RpA.app (ra.ext (xx.hide _)) ⟨v, [], rfl, r4, rfl⟩
        refine ⟨acc, (xx.lst eD).at_, by rw [← ra.len]; omega, accD ++ [z], acc ++ [v], fresh ⟨_, (xx.lst eD).at_⟩ (s.on xx), fun a o e => ?_, ⟨upd_same, noP_of rr hnp⟩, ?_, by rw [List.length_append, List.length_singleton]; omega, h6⟩
        · have ne : a ≠ D := ne_of_none e HD
          rw [upd_ne ne]
          exact (xc.trans xx) a o e
        · rw [hide_same oor_plus]
          exact RpA.app (ra.ext (xx.hide _)) ⟨v, [], rfl, r4, rfl⟩
  · rw [List.drop_eq_nil_of_le (by omega)] at hh
    exact .inl ⟨itk.stop Hc _ i s2.dom kb2 (by omega), k D Hc accD acc xc HD eD ra hh⟩

section
variable {X : Cx} {elt tg iter : Expr} {ifs : List Expr} {scope : Scope} {own : List (Str × Nat)} {pos : Pos} {ti : TDI} {g : TDG} {tt : TB} {te : TD}
theorem ds_setLcO {i : Nat} {y : Str} {py spos : Pos} (hc : X.calm = true) (hN : X.N.Nodup) (hy : X.N[i]? = some y) (hyl : X.env.scope.names.lookup y = some .local)
    (hsw : swapsWith (.ListComp elt [⟨tg, iter, ifs, 0⟩] scope pos) (some (.Name y py)) spos.line X.env = pure true) (hi : PI X tg iter (upI (Cx.ky X) ti)) (ok : BlkOk X.N X.env.scope scope own)
    (hg : ∀ (s : Shared) (H : Hp) (C : Addr) (cl : List (Str × Addr)) (fp : List Addr), PG (X.blk s H scope (compEnvC scope cl C X.env) fp) tg (upG (Cx.ky X) (own.map (·.2)) g)) (ht : ∀ (s : Shared) (H : Hp) (C : Addr) (cl : List (Str × Addr)) (fp : List Addr), PTs (X.blk s H scope (compEnvC scope cl C X.env) fp) ifs (upT (Cx.ky X) tt))
    (he : ∀ (s : Shared) (H : Hp) (C : Addr) (cl : List (Str × Addr)) (fp : List Addr), PE (X.blk s H scope (compEnvC scope cl C X.env) fp) elt (up (Cx.ky X) te)) (hs : ∀ x, foldedSetIterable iter X.env x = pure x := by intro _; rfl) :
    PS X (.Assign [.Name y py] (.ListComp elt [⟨tg, iter, ifs, 0⟩] scope pos) spos) (upS (Cx.ky X) (dSetO i (dLc ti g tt te (own.map (·.2))))) := by
  refine PS.imp (ps_setLc hc hN hy hyl hsw hi ok hg ht he hs) fun D σ H ⟨δ, E, c, L, es, h, f⟩ => ?_
  exact up_lcF ⟨δ, _, c, L, es, h, fun p H1 ds xs x1 hp ep r h1 => f.nx _ _ H1 _ (es.own1 x1 hp ep r) h1⟩
end
/-! ### tests that read an own list -/
def dFrzT (i : Nat) (t : TB) : TB := fun δ R => match δ.getD i .un with
  | .own ds => t (δ.set i (.v (.p (.list ds)))) R
  | _ => False
theorem dt_frz {X : Cx} {c : Expr} {t : TB} {i : Nat} (h : PT X c (upT (Cx.ky X) t)) : PT X c (upT (Cx.ky X) (dFrzT i t)) := by
  refine PT.imp h fun σ H Q ⟨δ, R, c, L, es, h, k⟩ => ?_
  unfold dFrzT at h
  cases q : δ.getD i .un with
  | un => rw [q] at h; exact h.elim
  | v d => rw [q] at h; exact h.elim
  | od o => rw [q] at h; exact h.elim
  | own ds =>
    rw [q] at h
    obtain ⟨L', es'⟩ := es.frz (getD_own q)
    exact ⟨_, R, c, L', es', h, k⟩
/-! ### xs.append(ys.pop(e)) -/
def dAppPop (i j : Nat) (t : TD) : TDS := fun E δ => match δ.getD i .un, δ.getD j .un with
  | .own ds, .own es => t δ fun d => asI d fun z => ∃ k y, seqIndex? z es.length = some k ∧ es[k]? = some y ∧ 0 ≤ z ∧ z < 2 ^ 62 ∧ nP (es.eraseIdx k) = true ∧ ds.length < sizeLine ∧ nP (ds ++ [y]) = true ∧ E.nx ((δ.set j (.own (es.eraseIdx k))).set i (.own (ds ++ [y])))
  | _, _ => False
section
variable {X : Cx} {e o1 o2 : Expr} {te : TD} {st : Stmt} {i j : Nat}
theorem ds_appPop (hij : i ≠ j) (he : PE X e (up (Cx.ky X) te)) (h : ∀ {ta : TA}, PA X [e] ta → PS X st (tDrop (tBM X.K "list" rAppend (tVar i) (tCons (tBM X.K "list" rPopAt (tVar j) ta) tNil))))
    (hs : starEach [e] X.env = (false, eval e X.env) :: starEach [] X.env := by rfl) : PS X st (upS (Cx.ky X) (dAppPop i j te)) := by
  refine PS.imp (h (da_cons he da_nil hs)) fun D σ H ⟨δ, E, c, L, es, h, f⟩ => ?_
  unfold dAppPop at h
  cases q : δ.getD i .un with
  | un => rw [q] at h; exact h.elim
  | v d => rw [q] at h; exact h.elim
  | od o => rw [q] at h; exact h.elim
  | own ds =>
    cases q2 : δ.getD j .un with
    | un => rw [q, q2] at h; exact h.elim
    | v d => rw [q, q2] at h; exact h.elim
    | od o => rw [q, q2] at h; exact h.elim
    | own ls =>
      rw [q, q2] at h
      have ho := getD_own q
      have ho2 := getD_own q2
      obtain ⟨a, xs, e1, la, ea, ra⟩ := es.own i ds ho
      obtain ⟨b, ys, f1, lb, eb, rb⟩ := es.own j ls ho2
      have hab : a ≠ b := fun z => by
        subst z
        exact es.sep i j ds ls a hij ho ho2 e1 f1
      refine ⟨.ref a, e1, .inl ⟨rfl, _, .inl (.inl ea.at_)⟩, .ref b, f1, .inl ⟨rfl, _, .inl (.inl eb.at_)⟩, δ, fun ds' => (match ds' with | [d] => asI d fun z => ∃ k y, seqIndex? z ls.length = some k ∧ ls[k]? = some y ∧ 0 ≤ z ∧ z < 2 ^ 62 ∧ nP (ls.eraseIdx k) = true ∧ ds.length < sizeLine ∧ nP (ds ++ [y]) = true ∧ E.nx ((δ.set j (.own (ls.eraseIdx k))).set i (.own (ds ++ [y]))) | _ => False), c, L, es, h, fun vs H1 ds' x1 r1 h1 => ?_⟩
      obtain ⟨z, rfl, k, y, hk, hy, h0, hz, np1, hl, np2, h2⟩ : ∃ z, ds' = [.p (.int z)] ∧ ∃ k y, seqIndex? z ls.length = some k ∧ ls[k]? = some y ∧ 0 ≤ z ∧ z < 2 ^ 62 ∧ nP (ls.eraseIdx k) = true ∧ ds.length < sizeLine ∧ nP (ds ++ [y]) = true ∧ E.nx ((δ.set j (.own (ls.eraseIdx k))).set i (.own (ds ++ [y]))) := by
        match ds', h1 with
        | [d], h1 =>
          obtain ⟨z, rfl, h2⟩ := asI_of h1
          exact ⟨z, rfl, h2⟩
      obtain ⟨v, rfl, rv⟩ := rvA1 r1
      have ev : v = .int z := rv
      subst ev
      have es1 := es.on x1
      have rb1 := rb.ext (x1.hide (oor c.P L))
      have ra1 := ra.ext (x1.hide (oor c.P L))
      obtain ⟨w, hw, rw1⟩ := rb1.get hy
      have es2 := es1.put ho2 f1 (rb1.erase k) np1
      have oL : oor c.P L b = true := by unfold oor; rw [lb, Bool.or_true]
      have eh : hide (oor c.P L) (upd H1 b (.lst (ys.eraseIdx k))) = hide (oor c.P L) H1 := hide_same oL
      have ho3 : (δ.set j (.own (ls.eraseIdx k)))[i]? = some (.own ds) := by rw [List.getElem?_set_ne (Ne.symm hij)]; exact ho
      refine ⟨b, ys, z, k, w, rfl, rfl, (x1.lst eb).at_, by omega, by omega, by rw [← rb.len]; exact hk, hw, a, xs, w, rfl, rfl, ?_, by rw [← ra.len]; exact hl, f.nx _ _ _ L (es2.put ho3 e1 (by rw [eh]; exact ra1.app (show RpA X.K _ [y] [w] from ⟨w, [], rfl, rw1, rfl⟩)) np2) h2⟩
      rw [upd_ne hab]
      exact (x1.lst ea).at_
end
/-! ### operations -/
section
variable {X : Cx}
def fNotInS : F2 := fun d e R => asS d fun x => asS e fun y => R (.p (.bool (!inS x y)))
theorem od_notinS : OpR X (compareOp .NotIn) (upO (Cx.ky X) fNotInS) := OpR.imp op_notIn_str fun x y H Q ⟨d, e, R, P, dm, r1, r2, h1, k⟩ => by
  obtain ⟨a, rfl, h2⟩ := asS_of h1
  obtain ⟨b, rfl, h3⟩ := asS_of h2
  exact ⟨a, b, r1, r2, k _ H (.p (.bool (!inS a b))) (Ext.refl H) rfl h3⟩
def fIsB : F2 := fun d e R => asB d fun x => asB e fun y => R (.p (.bool (decide (x = y))))
theorem od_isB : OpR X (compareOp .Is) (upO (Cx.ky X) fIsB) := OpR.imp op_isBl fun x y H Q ⟨d, e, R, P, dm, r1, r2, h1, k⟩ => by
  obtain ⟨a, rfl, h2⟩ := asB_of h1
  obtain ⟨b, rfl, h3⟩ := asB_of h2
  exact ⟨a, b, r1, r2, k _ H (.p (.bool (decide (a = b)))) (Ext.refl H) rfl h3⟩
abbrev CPw5 (i j : Int) : Prop := 0 ≤ j ∧ j ≤ 60 ∧ Bd 2000000 i
theorem od_pow5 : OpR X (binaryOp .Pow) (upO (Cx.ky X) (fI CPw5 fun i j => i ^ j.toNat)) := OpR.imp (opI (C := fun i j => CPw5 i j) (g := fun i j => i ^ j.toNat) fun i j t u s Q E hc q => pow_int hc.1 (by
    have b := hc.2.2.bits
    have h1 := hc.1
    have h2 := hc.2.1
    have : (Builtin.Int.intBits i : Int) * j ≤ 2000000 * 60 := Int.mul_le_mul (by omega) h2 h1 (by decide)
    omega) q) fun x y H Q h => up_I h
end
/-! ### tuples repeated, any number of times -/
theorem tuple_mul1 (l : Addr) (items : Array Value) (n : Nat) (dd : Option Addr) (sl : Array (Option Value)) (x : Int) (u : Tok) (c0 : (decide (x < -(2 ^ 63)) || decide (x ≥ 2 ^ 63)) = false) (c1 : (items.isEmpty || x == 1) = true) :
    Meets (Builtin.«tuple.__mul__» ⟨[.ref l, .int x u], []⟩) (fun _ R s => s.heap.get? l = some { cls := .type "tuple", dict := dd, data := .seq items n, slots := sl } ∧
      R (.ok (.ret (Value.ref l))) s) :=
  .of_wp fun prog w A R s h => by
    obtain ⟨hp, g, d, tk, os⟩ := s
    obtain ⟨hl, h⟩ := h
    have f1 := AutoSeq1.idx_int
    wp_walk using AutoSeq1.wpAny_loadPart' hl
    repeat (first
      | (refine wpAny_ite_false (decide_eq_false (by rw [c0]; exact Bool.false_ne_true)) ?_; wp_walk using AutoSeq1.wpAny_loadPart' hl)
      | (refine wpAny_ite_true (decide_eq_true c1) ?_; wp_walk using AutoSeq1.wpAny_loadPart' hl))
    exact ⟨_, rfl, h⟩
theorem op_repT1 {X : Cx} : OpR X (binaryOp .Mult) (fun x y H Q => ∃ l xs k, x = .ref l ∧ y = .int k ∧ SqT X.K H l xs ∧ (xs = [] ∨ k = 1) ∧ 0 ≤ k ∧ k < 2 ^ 62 ∧ Q (.ref l) H) := by
  intro pins s σ H x y v u Q I rx ry h
  obtain ⟨l, xs, k, rfl, rfl, hT, hne, hk0, hk1, q⟩ := h
  cases rx
  obtain ⟨t, rfl⟩ := ry
  obtain ⟨its, r, ⟨⟨cls, dd, data, sl⟩, ho, hc, n, hd⟩, hs⟩ := I.tuple hT
  simp only at hc hd
  subst hc hd
  have hle : its.length = xs.length := r.length.symm
  have c0 : (decide (k < -(2 ^ 63)) || decide (k ≥ 2 ^ 63)) = false := by
    rw [decide_eq_false (by omega), decide_eq_false (by omega)]
    rfl
  have c1 : (its.toArray.isEmpty || k == 1) = true := by
    rcases hne with e | e
    · have : its = [] := List.eq_nil_of_length_eq_zero (by rw [hle, e]; rfl)
      rw [this]
      rfl
    · rw [e]
      simp
  exact wpAny_binaryOp_repeat_ref (T := "tuple") (U := "int") (by decide) ⟨_, ho, rfl⟩ (fun s' => typeIs_int s' k t) noFill_tuple_mul F.fills_int_mul F.slot_int_rmul repeat_tuple F.slot_int_index.lookup
    (call_meets F.slot_int_rmul (typeIs_int s k t) F.entry_int_rmul (F.args_int_rmul_2 _ _) (int_rmul_tuple k t l its.toArray n dd sl)
      ⟨ho, rfl, ⟨_, ho, rfl⟩, call_meets F.slot_tuple_mul ⟨_, ho, rfl⟩ F.entry_tuple_mul (F.args_tuple_mul_2 _ _) (tuple_mul1 l its.toArray n dd sl k t c0 c1) ⟨ho, .ref l, H, I, rfl, q⟩⟩)
def fRepT1 : F2 := fun d e R => asU d fun xs => asI e fun k => 0 ≤ k ∧ k ≤ 1000 ∧ xs.length ≤ 1000 ∧ R (.p (.tuple (List.replicate k.toNat xs).flatten))
theorem od_repT1 {X : Cx} : OpR X (binaryOp .Mult) (upO (Cx.ky X) fRepT1) := by
  intro pins s σ H x y v u Q I rx ry ⟨d, e, R, P, dm, r1, r2, h, k⟩
  obtain ⟨ds, rfl, h0⟩ := asU_of h
  obtain ⟨i, rfl, h1, h2, h3, h4⟩ := asI_of h0
  obtain ⟨a, xs, ev, q, ra⟩ := id r1
  by_cases hs : ds = [] ∨ i = 1
  · have e2 : (List.replicate i.toNat ds).flatten = ds := by
      rcases hs with e | e
      · rw [e]
        induction i.toNat with
        | zero => rfl
        | succ n ih => rw [List.replicate_succ, List.flatten_cons, ih]; rfl
      · rw [e]
        simp
    rw [e2] at h4
    have xe : xs = [] ∨ i = 1 := hs.imp (fun z => List.eq_nil_of_length_eq_zero (by rw [← ra.len, z]; rfl)) id
    exact op_repT1 pins s σ H x y v u Q I rx ry ⟨a, xs, i, ev, r2, (hide_ext P H).seqT q, xe, h1, by omega, k _ H (.p (.tuple ds)) (Ext.refl H) (by rw [← ev]; exact r1) h4⟩
  · have ne : ds ≠ [] := fun z => hs (.inl z)
    have n1 : i ≠ 1 := fun z => hs (.inr z)
    exact od_repT pins s σ H x y v u Q I rx ry ⟨_, _, R, P, dm, r1, r2, ⟨ne, by omega, h2, h3, h4⟩, k⟩
end MR

/-! Two own lists at once. -/
namespace MR
open PySem PySem.Spec PyProof.Rows L2
def dListO (t : TD) : TD := fun δ R => t δ fun d => asP d fun z => ∃ zs, (z = .list zs ∨ z = .tuple zs) ∧ nP zs = true ∧ R (.p (.list zs))
def dParO (i j : Nat) (t : TD) : TDS := fun E δ => t δ fun d => asL d fun ds => E.nx ((δ.set i (.own ds)).set j (.own []))
section
variable {X : Cx} {e a b : Expr} {te ta : TD} {pos p : Pos} {x y : Str} {i j : Nat}
theorem df_listOf (he : PE X e (up (Cx.ky X) te)) (hg : Gl X "list") (hm : X.mg "list" = none) (hs : starEach [e] X.env = (false, eval e X.env) :: starEach [] X.env := by rfl) (hpl : (backTo pos (starEach [] X.env)).any (·.1) = false := by rfl) : PE X (.Call (.Name "list" p) [e] [] pos) (upF (Cx.ky X) (dListO te)) := by
  refine PE.imp (pe_callTy call_list_of hg hm (by decide +kernel) (pa_cons he pa_nil hs) (by decide) (by decide) hs hpl) fun σ H Q ⟨δ, R, c, L, es, h, k⟩ => ⟨δ, _, c, L, es, h, fun v H1 d x1 r1 h1 => ?_⟩
  obtain ⟨z, rfl, zs, hz, np, h2⟩ := asP_of h1
  have key : ∃ p xs, v = V.ref p ∧ (SqL X.K H1 p xs ∨ SqT X.K H1 p xs) ∧ RpA X.K (hide (oor c.P L) H1) zs xs := by
    rcases hz with rfl | rfl
    · obtain ⟨a, xs, e, q, ra⟩ := r1
      exact ⟨a, xs, e, .inl (SqL.of ((hide_ext _ _).lst q).at_), ra⟩
    · obtain ⟨a, xs, e, q, ra⟩ := r1
      exact ⟨a, xs, e, .inr ((hide_ext _ _).seqT q), ra⟩
  obtain ⟨a, xs, e, q, ra⟩ := key
  subst e
  exact ⟨a, xs, rfl, q, fun l hl => k l _ zs xs (x1.trans (Ext.new hl)) (x1.none hl) ⟨upd_same, noP_of ra np⟩ (ra.ext (xplus (κ := Cx.ky X) (c := c) hl)) h2⟩
theorem ds_parO {px py pt : Pos} {kt k2 pt2 pb} (hij : i ≠ j) (ha : PE X a (upF (Cx.ky X) ta)) (h : ∀ {t : TA}, PA X [a, .List [] pb] t → PS X (.Assign [.Tuple [.Name x px, .Name y py] kt pt] (.Tuple [a, .List [] pb] k2 pt2) pos) (tPar i j t))
    (hs : starEach [a, .List [] pb] X.env = (false, eval a X.env) :: starEach [.List [] pb] X.env := by rfl) : PS X (.Assign [.Tuple [.Name x px, .Name y py] kt pt] (.Tuple [a, .List [] pb] k2 pt2) pos) (upS (Cx.ky X) (dParO i j ta)) := by
  refine PS.imp (h (pa_cons ha (pa_cons (pe_lst pa_nil) pa_nil) hs)) fun D σ H ⟨δ, E, c, L, es, h, f⟩ => ⟨δ, _, c, L, es, h, fun p H1 ds xs x1 hp ep r h1 => ?_⟩
  refine ⟨by show 0 ≤ sizeLine; exact Nat.zero_le _, fun q hq => ⟨.ref p, .ref q, rfl, ?_⟩⟩
  have es1 := es.own1 x1 hp ep r (i := i)
  have es2 := es1.own1 (Ext.new hq) hq ⟨upd_same, trivial⟩ (show RpA X.K _ [] [] from rfl) (i := j)
  exact f.nx _ _ _ _ es2 h1
end
end MR

/-! Houses: lent to be read. -/
namespace MR
open PySem PySem.Spec PyProof.Rows L2

/-! ### what data is read from: no instance, no locked dict -/
def datK : HO → Prop
  | .lst _ => True
  | .tup _ => True
  | .frz _ (.tup _) => True
  | .dK _ => True
  | _ => False
def ExtD (H H' : Hp) : Prop := ∀ a o, H a = some o → datK o → H' a = some o
theorem ExtD.seqT {K : PySem.W.Frag} {H H' : Hp} {a : Addr} {xs : List V} (x : ExtD H H') (h : SqT K H a xs) : SqT K H' a xs := by
  rcases h with (h | ⟨o, h⟩) | h
  · exact .inl (.inl (x a _ h trivial))
  · exact .inl (.inr ⟨o, x a _ h trivial⟩)
  · exact .inr h
mutual
theorem Rp.extD {K : PySem.W.Frag} {H H' : Hp} (x : ExtD H H') : ∀ {d : PyData} {v : V}, Rp K H d v → Rp K H' d v
  | .none, _, h => h
  | .bool _, _, h => h
  | .int _, _, h => h
  | .str _, _, h => h
  | .list _, _, ⟨a, xs, e, q, r⟩ => ⟨a, xs, e, ⟨x a _ q.at_ trivial, q.np⟩, RpA.extD x r⟩
  | .tuple _, _, ⟨a, xs, e, q, r⟩ => ⟨a, xs, e, x.seqT q, RpA.extD x r⟩
  | .dict _, _, ⟨a, es, e, q, n, r⟩ => ⟨a, es, e, x a _ q trivial, n, RpK.extD x r⟩
theorem RpA.extD {K : PySem.W.Frag} {H H' : Hp} (x : ExtD H H') : ∀ {ds : List PyData} {vs : List V}, RpA K H ds vs → RpA K H' ds vs
  | [], _, h => h
  | _ :: _, _, ⟨v, r, e, h, t⟩ => ⟨v, r, e, Rp.extD x h, RpA.extD x t⟩
theorem RpK.extD {K : PySem.W.Frag} {H H' : Hp} (x : ExtD H H') : ∀ {ds : List (PyData × PyData)} {vs : List (Key × V)}, RpK K H ds vs → RpK K H' ds vs
  | [], _, h => h
  | (_, _) :: _, _, ⟨k, v, q, e, ek, h, t⟩ => ⟨k, v, q, e, ek, Rp.extD x h, RpK.extD x t⟩
end
theorem mem_t {as : List Addr} {b : Addr} : mem as b = true ↔ b ∈ as := by unfold mem; rw [decide_eq_true_iff]
theorem mem_f {as : List Addr} {b : Addr} : mem as b = false ↔ b ∉ as := by unfold mem; rw [decide_eq_false_iff_not]
def lessA (L : Addr → Bool) (as : List Addr) : Addr → Bool := fun b => L b && !mem as b
theorem lessA_t {L : Addr → Bool} {as : List Addr} {b : Addr} : lessA L as b = true ↔ L b = true ∧ b ∉ as := by
  unfold lessA
  rw [Bool.and_eq_true, Bool.not_eq_true', mem_f]
theorem lessA_f {L : Addr → Bool} {as : List Addr} {b : Addr} (h : b ∈ as) : lessA L as b = false := by
  unfold lessA
  rw [mem_t.mpr h, Bool.not_true, Bool.and_false]
theorem hide_f {P : Addr → Bool} {H : Hp} {a : Addr} {o : HO} (h : hide P H a = some o) : P a = false ∧ H a = some o := by
  unfold hide at h
  split at h
  · cases h
  · rename_i n
    exact ⟨Bool.eq_false_iff.mpr n, h⟩
theorem hide_t {P : Addr → Bool} {H : Hp} {a : Addr} {o : HO} (p : P a = false) (h : H a = some o) : hide P H a = some o := by rw [hide_at p]; exact h
theorem oor_f {P L : Addr → Bool} {b : Addr} : oor P L b = false ↔ P b = false ∧ L b = false := by unfold oor; rw [Bool.or_eq_false_iff]
section
variable {κ : Ky} {c : Sc} {H H' : Hp} {L : Addr → Bool} {δ : Dn} {σ : Sg} {i : Nat} {C a d : Addr} {es : Ents}
theorem ES.lp (s : ES κ c H L δ σ) {b : Addr} (h : L b = true) : c.P b = false := by
  cases q : c.P b with
  | false => rfl
  | true =>
    rcases (s.ldom b h).2 with z | z
    · exact absurd z (s.pdom b q)
    · rw [s.mp b z] at q; cases q
theorem ES.sys (s : ES κ c H L δ σ) {b : Addr} (h : L b = true) : b ≠ sysModules := fun z => by
  have := s.lp h
  rw [z, s.psys] at this
  cases this
theorem getD_od {o : OD} (h : δ.getD i .un = .od o) : δ[i]? = some (.od o) := by
  rw [List.getD_eq_getElem?_getD] at h
  cases e : δ[i]? with
  | none => rw [e] at h; cases h
  | some s => rw [e] at h; cases h; rfl
theorem own_not {a b : Addr} {xs : List V} {u : HO} (h : LstAt H b xs) (hu : H a = some u) (k : odK u) : b ≠ a := fun z => by
  have := h.at_
  rw [z, hu] at this
  cases this
  exact k
/-- lent to be read: its dict locked -/
theorem ES.lend (s : ES κ c H L δ σ) (ho : δ[i]? = some (.od (.hs C a d es))) : ∃ kvs, H d = some (.dK kvs) ∧ a ≠ d ∧ L a = true ∧ L d = true ∧ (∃ C dx fs, H a = some (.ins C dx fs)) ∧ ∀ od, ES κ c (upd H d (.frz od (.dK kvs))) (lessA L [a, d]) (δ.set i (.v (.hs C es))) σ := by
  obtain ⟨e1, ⟨dx, vm, kvs, h1, h2, r⟩, hl⟩ := s.ods.rd i _ ho
  have la : L a = true := hl a List.mem_cons_self
  have ld : L d = true := hl d (List.mem_cons_of_mem _ List.mem_cons_self)
  have ad : a ≠ d := fun z => by rw [z, h2] at h1; cases h1
  refine ⟨kvs, h2, ad, la, ld, ⟨_, _, _, h1⟩, fun od => ?_⟩
  have up_ : ∀ {b o}, H b = some o → b ≠ d → upd H d (.frz od (.dK kvs)) b = some o := fun h n => by rw [upd_ne n]; exact h
  have x : Ext (hide (oor c.P L) H) (hide (oor c.P (lessA L [a, d])) (upd H d (.frz od (.dK kvs)))) := fun b o e => by
    obtain ⟨p, h⟩ := hide_f e
    obtain ⟨p1, p2⟩ := oor_f.mp p
    refine .inl (hide_t (oor_f.mpr ⟨p1, ?_⟩) (up_ h fun z => by rw [z, ld] at p2; cases p2))
    unfold lessA
    rw [p2, Bool.false_and]
  have il : i < δ.length := (List.getElem?_eq_some_iff.mp ho).1
  refine ⟨by rw [List.length_set]; exact s.len, fun j e q => ?_, fun j ds q => ?_, fun j k ds fs b n q1 q2 q3 => ?_, s.psys, s.pdom, fun b hb => ?_, fun b o e => ?_, s.kept.ext x, ?_, s.mp⟩
  · rcases set_get_v q with ⟨rfl, z, _⟩ | ⟨_, z⟩
    · cases z
      refine ⟨.ref a, e1, a, d, dx, vm, od, kvs, rfl, hide_t (oor_f.mpr ⟨s.lp la, lessA_f List.mem_cons_self⟩) (up_ h1 ad), hide_t (oor_f.mpr ⟨s.lp ld, lessA_f (List.mem_cons_of_mem _ List.mem_cons_self)⟩) upd_same, r.ext x⟩
    · obtain ⟨v, q1, q2⟩ := s.val j e z
      exact ⟨v, q1, q2.ext x⟩
  · rcases set_get_own q with ⟨_, z, _⟩ | ⟨nj, z⟩
    · cases z
    · obtain ⟨b, ys, q1, q2, q3, q4⟩ := s.own j ds z
      have n1 := own_not q3 h1 trivial
      have n2 := own_not q3 h2 trivial
      exact ⟨b, ys, q1, lessA_t.mpr ⟨q2, fun m => (List.mem_cons.mp m).elim n1 fun m => n2 (List.mem_singleton.mp m)⟩, ⟨up_ q3.at_ n2, q3.np⟩, q4.ext x⟩
  · rcases set_get_own q1 with ⟨_, z, _⟩ | ⟨_, z1⟩
    · cases z
    · rcases set_get_own q2 with ⟨_, z, _⟩ | ⟨_, z2⟩
      · cases z
      · exact s.sep j k ds fs b n z1 z2 q3
  · obtain ⟨hb1, hb2⟩ := lessA_t.mp hb
    obtain ⟨q1, q2⟩ := s.ldom b hb1
    exact ⟨by rw [upd_ne (fun z => hb2 (by rw [z]; exact List.mem_cons_of_mem _ List.mem_cons_self))]; exact q1, q2⟩
  · by_cases z : b = d
    · subst z
      rcases (s.ldom b ld).2 with z | z
      · rw [z] at e; cases e
      · exact .inr ⟨z, by rw [upd_same]; exact Option.some_ne_none _⟩
    · rw [upd_ne z]
      exact s.ext b o e
  · refine ⟨fun j o q => ?_, fun j k o o' n q1 q2 => s.ods.dj j k o o' n (od_set (fun _ z => by cases z) q1).2 (od_set (fun _ z => by cases z) q2).2⟩
    obtain ⟨nj, q⟩ := od_set (fun _ z => by cases z) q
    obtain ⟨q1, q2, q3⟩ := s.ods.rd j o q
    have dj := s.ods.dj j i o _ nj q ho
    refine ⟨q1, q2.mono (fun b u m hb _ => up_ hb fun z => ?_) x, fun b m => lessA_t.mpr ⟨q3 b m, dj b m⟩⟩
    subst z
    exact dj b m (List.mem_cons_of_mem _ List.mem_cons_self)
def dLend (i : Nat) (t : TD) : TD := fun δ R => match δ.getD i .un with
  | .od (.hs C _ _ es) => t (δ.set i (.v (.hs C es))) fun r => asP r fun z => R (.p z)
  | _ => False
theorem de_lend {X : Cx} {e : Expr} {t : TD} (he : PE X e (up (Cx.ky X) t)) : PE X e (up (Cx.ky X) (dLend i t)) := by
  refine PE.imp (pe_lock he) fun σ H Q ⟨δ, R, c, L, s, h, k⟩ => ?_
  unfold dLend at h
  cases q : δ.getD i .un with
  | un => rw [q] at h; exact h.elim
  | v _ => rw [q] at h; exact h.elim
  | own _ => rw [q] at h; exact h.elim
  | od o =>
    rw [q] at h
    cases o with
    | dc _ _ => exact h.elim
    | hs C a d es =>
      obtain ⟨kvs, hd, ad, la, ld, ⟨C', dx, fs, ha⟩, hes⟩ := s.lend (getD_od q)
      refine ⟨d, .dK kvs, hd, trivial, fun od => ⟨_, _, c, _, hes od, h, fun v H' r x rr h2 => ?_⟩⟩
      obtain ⟨z, rfl, h3⟩ := asP_of h2
      have fd : H' d = some (.frz od (.dK kvs)) := x.keep upd_same fun ⟨_, _, z, _⟩ => by cases z
      have fa : H' a = some (.ins C' dx fs) := x.keep (by rw [upd_ne ad]; exact ha) fun ⟨_, _, z, _⟩ => by cases z
      refine ⟨fd, k v _ (.p z) (fun b o e => ?_) (Rp.extD (fun b o e dk => ?_) rr) h3⟩
      · by_cases zb : b = d
        · subst zb
          rw [hd] at e
          cases e
          exact .inl upd_same
        · rw [upd_ne zb]
          exact x b o (by rw [upd_ne zb]; exact e)
      · obtain ⟨p, hb⟩ := hide_f e
        obtain ⟨p1, p2⟩ := oor_f.mp p
        have nd : b ≠ d := fun z => by rw [z, fd] at hb; cases hb; exact dk
        have na : b ≠ a := fun z => by rw [z, fa] at hb; cases hb; exact dk
        refine hide_t (oor_f.mpr ⟨p1, ?_⟩) (by rw [upd_ne nd]; exact hb)
        cases lb : L b with
        | false => rfl
        | true =>
          have : lessA L [a, d] b = true := lessA_t.mpr ⟨lb, fun m => (List.mem_cons.mp m).elim na fun m => nd (List.mem_singleton.mp m)⟩
          rw [this] at p2
          cases p2
end
end MR

/-! Houses: lent to be changed; defs that change one. -/
namespace MR
open PySem PySem.Spec PyProof.Rows L2
def OD.like : OD → OD → Prop
  | .hs C a d _, .hs C' a' d' _ => C' = C ∧ a' = a ∧ d' = d
  | .dc d _, .dc d' _ => d' = d
  | _, _ => False
theorem OD.like.as {o o' : OD} (h : o.like o') : o'.as = o.as := by
  cases o <;> cases o' <;> first | exact h.elim | (obtain ⟨_, h1, h2⟩ := h; subst h1 h2; rfl) | (have h : _ = _ := h; subst h; rfl)
theorem OD.like.at_ {o o' : OD} (h : o.like o') : o'.at_ = o.at_ := by
  cases o <;> cases o' <;> first | exact h.elim | (obtain ⟨_, h1, h2⟩ := h; subst h1 h2; rfl) | (have h : _ = _ := h; subst h; rfl)
theorem OD.like.refl (o : OD) : o.like o := by cases o <;> first | exact ⟨rfl, rfl, rfl⟩ | exact rfl
theorem OD.like.trans {o1 o2 o3 : OD} (h : o1.like o2) (k : o2.like o3) : o1.like o3 := by
  cases o1 <;> cases o2 <;> first | exact h.elim | (cases o3 <;> first | exact k.elim | (obtain ⟨a1, a2, a3⟩ := h; obtain ⟨b1, b2, b3⟩ := k; exact ⟨b1.trans a1, b2.trans a2, b3.trans a3⟩) | exact (show _ = _ from k).trans (show _ = _ from h))
abbrev FH := OD → List DV → (PyData → OD → Prop) → Prop
/-- what a def asks that is lent something to be changed (as the object itself among its arguments) -/
def spH (κ : Ky) (g : FH) : Sp := fun vs H Q _ => ∃ o ds R P, Dom P H ∧ (∀ b ∈ o.as, P b = true ∧ b ≠ sysModules) ∧ OdRd κ (hide P H) H o ∧ RvA κ (hide P H) ds vs ∧ g o ds R ∧
  ∀ v H' z o', o.like o' → ExtM (mem o.as) H H' → OdRd κ (hide P H') H' o' → Rp κ.K (hide P H') z v → R z o' → Q v H'
section
variable {κ : Ky} {c : Sc} {H H' : Hp} {L : Addr → Bool} {δ : Dn} {σ : Sg} {i : Nat} {o o' : OD}
/-- the slots behind a change of what a slot owns -/
theorem ES.meth (s : ES κ c H L δ σ) (ho : δ[i]? = some (.od o)) (lk : o.like o') (x : ExtM (mem o.as) H H') (r : OdRd κ (hide (oor c.P L) H') H' o') : ES κ c H' L (δ.set i (.od o')) σ := by
  obtain ⟨e1, r0, hl⟩ := s.ods.rd i _ ho
  have nb : ∀ {b : Addr} {u : HO}, H b = some u → b ∉ o.as → H' b = some u ∨ (Well u ∧ ∃ u', H' b = some u' ∧ Well u') := fun {b u} h n => by
    rcases x b u h with ⟨_, z⟩ | ⟨z, _⟩
    · exact z
    · rw [mem_f.mpr n] at z; cases z
  have hx : Ext (hide (oor c.P L) H) (hide (oor c.P L) H') := fun b u e => by
    obtain ⟨p, h⟩ := hide_f e
    have n : b ∉ o.as := fun m => by
      have := hl b m
      rw [(oor_f.mp p).2] at this
      cases this
    rcases nb h n with z | ⟨w, u', z, w'⟩
    · exact .inl (hide_t p z)
    · exact .inr ⟨w, u', hide_t p z, w'⟩
  have il : i < δ.length := (List.getElem?_eq_some_iff.mp ho).1
  have nown : ∀ {j : Nat} {ds : List PyData}, (δ.set i (.od o'))[j]? = some (Sl.own ds) → δ[j]? = some (Sl.own ds) := fun {j ds} q => by
    rcases set_get_own q with ⟨_, z, _⟩ | ⟨_, z⟩
    · cases z
    · exact z
  refine ⟨by rw [List.length_set]; exact s.len, fun j e q => ?_, fun j ds q => ?_, fun j k ds fs b n q1 q2 q3 => s.sep j k ds fs b n (nown q1) (nown q2) q3, s.psys, s.pdom, fun b hb => ?_, fun b u e => ?_, s.kept.ext hx, ⟨fun j p q => ?_, fun j k p p' n q1 q2 => ?_⟩, s.mp⟩
  · rcases set_get_v q with ⟨_, z, _⟩ | ⟨_, z⟩
    · cases z
    · obtain ⟨v, q1, q2⟩ := s.val j e z
      exact ⟨v, q1, q2.ext hx⟩
  · obtain ⟨b, ys, q1, q2, q3, q4⟩ := s.own j ds (nown q)
    have n : b ∉ o.as := fun m => by
      obtain ⟨u, hu, k⟩ := r0.kinds m
      exact own_not q3 hu k rfl
    refine ⟨b, ys, q1, q2, ⟨?_, q3.np⟩, q4.ext hx⟩
    rcases nb q3.at_ n with z | ⟨⟨i', j', z, _, _, _, _, f⟩, _⟩
    · exact z
    · cases z
      exact f.elim
  · obtain ⟨q1, q2⟩ := s.ldom b hb
    exact ⟨x.some q1, q2⟩
  · rcases s.ext b u e with ⟨m, z⟩ | ⟨m, z⟩
    · have n : b ∉ o.as := fun mm => by
        rcases (s.ldom b (hl b mm)).2 with q | q
        · rw [q] at e; cases e
        · rw [q] at m; cases m
      refine .inl ⟨m, ?_⟩
      rcases z with z | ⟨w, u', z, w'⟩
      · exact nb z n
      · rcases nb z n with k | ⟨_, u2, k, w2⟩
        · exact .inr ⟨w, u', k, w'⟩
        · exact .inr ⟨w, u2, k, w2⟩
    · exact .inr ⟨m, x.some z⟩
  · by_cases hj : j = i
    · subst hj
      rw [List.getElem?_set_self il] at q
      cases q
      exact ⟨by rw [lk.at_]; exact e1, r, fun b m => hl b (by rw [← lk.as]; exact m)⟩
    · rw [List.getElem?_set_ne (Ne.symm hj)] at q
      obtain ⟨q1, q2, q3⟩ := s.ods.rd j p q
      have dj := s.ods.dj j i p o hj q ho
      refine ⟨q1, q2.mono (fun b u m hb k => ?_) hx, q3⟩
      rcases nb hb (dj b m) with z | ⟨⟨_, _, z, _⟩, _⟩
      · exact z
      · rw [z] at k; exact k.elim
  · have back : ∀ {j : Nat} {p : OD}, (δ.set i (.od o'))[j]? = some (Sl.od p) → ∃ p0, δ[j]? = some (Sl.od p0) ∧ p.as = p0.as := fun {j p} q => by
      by_cases hj : j = i
      · subst hj
        rw [List.getElem?_set_self il] at q
        cases q
        exact ⟨o, ho, lk.as⟩
      · rw [List.getElem?_set_ne (Ne.symm hj)] at q
        exact ⟨p, q, rfl⟩
    obtain ⟨p0, b1, b2⟩ := back q1
    obtain ⟨p1, b3, b4⟩ := back q2
    rw [b2, b4]
    exact s.ods.dj j k p0 p1 n b1 b3
/-- the object itself, as a value -/
theorem ES.rawed (s : ES κ c H L δ σ) (ho : δ[i]? = some (.od o)) : ES κ c H L (δ.set i (.v (.raw (.ref o.at_)))) σ := by
  obtain ⟨e1, r0, hl⟩ := s.ods.rd i _ ho
  have nown : ∀ {j : Nat} {ds : List PyData}, (δ.set i (.v (.raw (.ref o.at_))))[j]? = some (Sl.own ds) → δ[j]? = some (Sl.own ds) := fun {j ds} q => by
    rcases set_get_own q with ⟨_, z, _⟩ | ⟨_, z⟩
    · cases z
    · exact z
  refine ⟨by rw [List.length_set]; exact s.len, fun j e q => ?_, fun j ds q => s.own j ds (nown q), fun j k ds fs b n q1 q2 q3 => s.sep j k ds fs b n (nown q1) (nown q2) q3, s.psys, s.pdom, s.ldom, s.ext, s.kept, s.ods.mono (fun j p q => ⟨(od_set (fun _ z => by cases z) q).2, rfl⟩) (fun _ _ l h _ => ⟨l, h⟩) (Ext.refl _), s.mp⟩
  rcases set_get_v q with ⟨rfl, z, _⟩ | ⟨_, z⟩
  · cases z
    exact ⟨_, e1, rfl⟩
  · exact s.val j e z
theorem ES.odP (s : ES κ c H L δ σ) (ho : δ[i]? = some (.od o)) : ∀ b ∈ o.as, oor c.P L b = true ∧ b ≠ sysModules := fun b m => by
  have l := (s.ods.rd i _ ho).2.2 b m
  exact ⟨by unfold oor; rw [l, Bool.or_true], s.sys l⟩
end
/-! ### a def that is lent something at its parameter p -/
def endM (p : Nat) (o : OD) (R : PyData → OD → Prop) : DE where
  nx := fun δ => ∃ o', δ.getD p .un = .od o' ∧ o.like o' ∧ R .none o'
  rt := fun D => match D with
    | .rt o' (some z) => o.like o' ∧ R z o'
    | _ => False
theorem oor_lessA {P : Addr → Bool} {as : List Addr} (h : ∀ b ∈ as, P b = true) : oor (lessA P as) (mem as) = P := funext fun b => by
  unfold oor lessA
  by_cases m : b ∈ as
  · rw [mem_t.mpr m, Bool.or_true, h b m]
  · rw [mem_f.mpr m, Bool.not_false, Bool.and_true, Bool.or_false]
theorem es_startM {κ : Ky} {N : List Str} {H : Hp} {P : Addr → Bool} {ds : List DV} {vs : List V} {o : OD} {p : Nat} (d : Dom P H) (hp : ∀ b ∈ o.as, P b = true ∧ b ≠ sysModules) (r0 : OdRd κ (hide P H) H o) (r : RvA κ (hide P H) ds vs) (hd : ds[p]? = some (.raw (.ref o.at_))) :
    ES κ ⟨H, lessA P o.as, [], [], mem o.as⟩ H (mem o.as) ((startD N ds).set p (.od o)) (L2.start N vs) := by
  have s := es_start (N := N) d r
  have eP : oor (lessA P o.as) (mem o.as) = P := oor_lessA fun b m => (hp b m).1
  have eP0 : oor P (fun _ => false) = P := oor_off P
  have hl : p < ds.length := (List.getElem?_eq_some_iff.mp hd).1
  have hlN : p < (startD N ds).length := by
    unfold startD
    rw [List.length_append, List.length_map]
    omega
  have ep : (startD N ds)[p]? = some (.v (.raw (.ref o.at_))) := by
    unfold startD
    rw [List.getElem?_append_left (by rw [List.length_map]; exact hl), List.getElem?_map, hd]
    rfl
  obtain ⟨vp, ev, ev2⟩ := s.val p _ ep
  have ev2 : vp = .ref o.at_ := ev2
  subst ev2
  have nown : ∀ {j : Nat} {es : List PyData}, ((startD N ds).set p (.od o))[j]? = some (Sl.own es) → (startD N ds)[j]? = some (Sl.own es) := fun {j es} q => by
    rcases set_get_own q with ⟨_, z, _⟩ | ⟨_, z⟩
    · cases z
    · exact z
  have nod : ∀ {j : Nat} {q : OD}, (startD N ds)[j]? ≠ some (Sl.od q) := fun {j q} h => by
    unfold startD at h
    by_cases hi : j < ds.length
    · rw [List.getElem?_append_left (by rw [List.length_map]; exact hi), List.getElem?_map, List.getElem?_eq_getElem hi] at h
      cases h
    · rw [List.getElem?_append_right (by rw [List.length_map]; omega), List.getElem?_replicate] at h
      split at h <;> cases h
  have only : ∀ {j : Nat} {q : OD}, ((startD N ds).set p (.od o))[j]? = some (Sl.od q) → j = p ∧ q = o := fun {j q} h => by
    by_cases hj : j = p
    · subst hj
      rw [List.getElem?_set_self hlN] at h
      cases h
      exact ⟨rfl, rfl⟩
    · rw [List.getElem?_set_ne (Ne.symm hj)] at h
      exact absurd h nod
  refine ⟨by rw [List.length_set]; exact s.len, fun j e q => ?_, fun j es q => ?_, fun j k es fs b n q1 q2 q3 => s.sep j k es fs b n (nown q1) (nown q2) q3, ?_, fun b hb => ?_, fun b hb => ?_, ExtM.refl _ _, rfl, ⟨fun j q h => ?_, fun j k q q' n h1 h2 => absurd ((only h1).1.trans (only h2).1.symm) n⟩, fun b hb => lessA_f (mem_t.mp hb)⟩
  · rcases set_get_v q with ⟨_, z, _⟩ | ⟨_, z⟩
    · cases z
    · obtain ⟨v, q1, q2⟩ := s.val j e z
      refine ⟨v, q1, ?_⟩
      have q2 : Rv κ (hide (oor P fun _ => false) H) e v := q2
      show Rv κ (hide (oor (lessA P o.as) (mem o.as)) H) e v
      rw [eP]
      rw [eP0] at q2
      exact q2
  · obtain ⟨b, ys, _, q2, _⟩ := s.own j es (nown q)
    cases q2
  · exact lessA_t.mpr ⟨d.1, fun m => (hp _ m).2 rfl⟩
  · exact d.2 b (lessA_t.mp hb).1
  · exact ⟨d.2 b (hp b (mem_t.mp hb)).1, .inr hb⟩
  · obtain ⟨rfl, rfl⟩ := only h
    refine ⟨ev, ?_, fun b m => mem_t.mpr m⟩
    show OdRd κ (hide (oor (lessA P q.as) (mem q.as)) H) H q
    rw [eP]
    exact r0
section
variable {P : Program} {w : World} {K : PySem.W.Frag} {mg : Str → Option Value} {base : Heap}
theorem okM {x qual : Str} {st : Stmt} {f : Addr} {fd : FuncData} {N ps : List Str} {k : Nat} {g : FH} (p : Nat) (F : Fun K x qual st f fd) (S : FnScope N ps (defScope st)) (len : ∀ o ds R, g o ds R → ds.length = ps.length ∧ ds[p]? = some (.raw (.ref o.at_)))
    (hb : ∀ (cdv : Value) (A : Around), A.guards = some [] → ∀ (outer : List PySem.Env) (s : Shared) (H : Hp) (E : XK), Room k (A.deeper (envOfC qual (defScope st) s.heap.objs.size f cdv)) →
      ∃ t, PSs (cxOf CX0 P w K mg base N qual (defScope st) f cdv A outer s H E).nox (defBody st) (upS ⟨K, P, w⟩ t) ∧ ∀ o ds R, g o ds R → t (endM p o R) ((startD N ds).set p (.od o))) : FnG P w K mg base CX0 (k + 1) f fd ps (spH ⟨K, P, w⟩ g) := by
  refine fnG_of F S (fun vs H Q E ⟨o, ds, R, P, d, hp, r0, r, h, q⟩ => by rw [← r.len]; exact (len o ds R h).1) fun cdv A gd outer s H vs Q E room ⟨o, ds, R, P', d, hp, r0, r, h, q⟩ => ?_
  obtain ⟨t, ht, hr⟩ := hb cdv A gd outer s H E room
  refine ⟨_, ht.nox, _, _, ⟨H, lessA P' o.as, [], [], mem o.as⟩, _, es_startM d hp r0 r (len o ds R h).2, hr o ds R h, ⟨fun δ σ H' L es ⟨o', e, lk, h'⟩ => ?_, fun v H' d' x r' h' => ?_, fun _ _ _ _ _ z => z.elim, fun _ _ _ _ _ z => z.elim, fun _ _ _ _ _ _ _ z => z.elim⟩⟩
  · obtain ⟨_, r1, hl⟩ := es.ods.rd p o' (getD_od e)
    refine q .non H' .none o' lk es.ext ?_ rfl h'
    refine r1.mono (fun _ _ _ h _ => h) (hide_less H' fun b hb => ?_)
    unfold oor
    by_cases m : b ∈ o.as
    · rw [hl b (by rw [lk.as]; exact m), Bool.or_true]
    · show (lessA P' o.as b || L b) = true
      rw [show lessA P' o.as b = true from lessA_t.mpr ⟨hb, m⟩, Bool.true_or]
  · cases d' with
    | rt o' z =>
      cases z with
      | none => exact h'.elim
      | some z =>
        obtain ⟨lk, h2⟩ := h'
        obtain ⟨r1, r2⟩ := r'
        have eh : hide (mem o'.as) (hide (lessA P' o.as) H') = hide P' H' := funext fun b => by
          rw [lk.as]
          by_cases m : b ∈ o.as
          · unfold hide
            rw [mem_t.mpr m, if_pos rfl, (hp b m).1, if_pos rfl]
          · unfold hide
            rw [mem_f.mpr m, if_neg Bool.false_ne_true]
            cases pb : P' b with
            | true => rw [show lessA P' o.as b = true from lessA_t.mpr ⟨pb, m⟩]
            | false => rw [show lessA P' o.as b = false from by unfold lessA; rw [pb, Bool.false_and]]
        refine q v H' z o' lk x (r1.mono (fun b u m h _ => (hide_f h).2) (by rw [eh]; exact Ext.refl _)) ?_ h2
        have r2 : Rp K (hide (mem o'.as) (hide (lessA P' o.as) H')) z v := r2
        rw [eh] at r2
        exact r2
    | _ => exact h'.elim
end
/-- return e, in a def that is lent what is at slot p -/
def dRetM (p : Nat) (t : TD) : TDS := fun E δ => t δ fun r => asP r fun z => match δ.getD p .un with
  | .od o => E.rt (.rt o (some z))
  | _ => False
theorem ds_retM {X : Cx} {e : Expr} {te : TD} {pos : Pos} {p : Nat} (he : PE X e (up (Cx.ky X) te)) : PS X (.Return (some e) pos) (upS (Cx.ky X) (dRetM p te)) :=
  PS.imp (ps_ret he) fun D σ H ⟨δ, E, c, L, es, h, f⟩ => ⟨δ, _, c, L, es, h, fun v H1 d x1 r1 h1 => by
    obtain ⟨z, rfl, h2⟩ := asP_of h1
    cases q : δ.getD p .un with
    | od o =>
      rw [q] at h2
      have es1 := es.on x1
      obtain ⟨_, r2, hl⟩ := es1.ods.rd p o (getD_od q)
      have hle : Ext (hide (oor c.P L) H1) (hide (mem o.as) (hide c.P H1)) := fun b u e => by
        obtain ⟨pb, hb⟩ := hide_f e
        obtain ⟨p1, p2⟩ := oor_f.mp pb
        refine .inl (hide_t (mem_f.mpr fun m => ?_) (hide_t p1 hb))
        rw [hl b m] at p2
        cases p2
      refine f.rt v H1 (.rt o (some z)) (es.ext.trans x1) ⟨r2.mono (fun b u m h _ => hide_t (es1.lp (hl b m)) h) hle, Rp.ext hle r1⟩ h2
    | un => rw [q] at h2; exact h2.elim
    | v _ => rw [q] at h2; exact h2.elim
    | own _ => rw [q] at h2; exact h2.elim⟩
end MR

/-! Houses: entries; fields, methods, changes. -/
namespace MR
open PySem PySem.Spec PyProof.Rows L2
/-! ### entries -/
def getE (es : Ents) (n : Str) : Option PyData := (es.find? fun e => decide (e.1 = n)).map (·.2)
def putE (es : Ents) (n : Str) (z : PyData) : Ents := if (es.any fun e => decide (e.1 = n)) = true then es.map (fun e => if e.1 = n then (e.1, z) else e) else es ++ [(n, z)]
def dropE (es : Ents) (n : Str) : Ents := es.filter fun e => decide (e.1 ≠ n)
theorem inr_eq {n m : Str} : ((Sum.inr n : Key) = Sum.inr m) = (n = m) := by
  apply propext
  exact ⟨fun h => by cases h; rfl, fun h => by rw [h]⟩
section
variable {K : PySem.W.Frag} {H : Hp}
theorem RpE.len : ∀ {es : Ents} {kvs : List (Key × V)}, RpE K H es kvs → es.length = kvs.length
  | [], kvs, h => by rw [show kvs = [] from h]; rfl
  | (_, _) :: _, _, ⟨v, q, e, _, t⟩ => by rw [e, List.length_cons, List.length_cons, RpE.len t]
theorem RpE.val {n : Str} : ∀ {es : Ents} {kvs : List (Key × V)}, RpE K H es kvs → (getE es n = none → valV kvs (.inr n) = none) ∧ ∀ z, getE es n = some z → ∃ v, valV kvs (.inr n) = some v ∧ Rp K H z v
  | [], kvs, h => by
    rw [show kvs = [] from h]
    exact ⟨fun _ => rfl, fun _ z => by cases z⟩
  | (m, d) :: es, _, ⟨v, q, e, h, t⟩ => by
    subst e
    have ih := RpE.val (n := n) t
    by_cases z : m = n
    · subst z
      rw [valV_pos (p := (Sum.inr m, v)) rfl]
      unfold getE
      rw [List.find?_cons_of_pos (by simp)]
      refine ⟨fun z => ?_, fun y z => ?_⟩
      · have z : (some d : Option PyData) = none := z
        cases z
      · have z : some d = some y := z
        cases z
        exact ⟨v, rfl, h⟩
    · rw [valV_neg (p := (Sum.inr m, v)) (fun q => z (by cases q; rfl))]
      unfold getE at ih ⊢
      rw [List.find?_cons_of_neg (by simpa using z)]
      exact ih
theorem RpE.any {n : Str} : ∀ {es : Ents} {kvs : List (Key × V)}, RpE K H es kvs → (kvs.any fun kv => decide (kv.1 = Sum.inr n)) = es.any fun e => decide (e.1 = n)
  | [], kvs, h => by rw [show kvs = [] from h]; rfl
  | (m, d) :: es, _, ⟨v, q, e, h, t⟩ => by
    subst e
    rw [List.any_cons, List.any_cons, RpE.any t]
    congr 1
    exact decide_eq_decide.mpr ⟨fun h => by cases h; rfl, fun h => by rw [show m = n from h]⟩
theorem RpE.app : ∀ {es fs : Ents} {kvs lvs : List (Key × V)}, RpE K H es kvs → RpE K H fs lvs → RpE K H (es ++ fs) (kvs ++ lvs)
  | [], _, kvs, _, h, g => by rw [show kvs = [] from h]; exact g
  | (m, d) :: es, _, _, _, ⟨v, q, e, h, t⟩, g => by
    subst e
    exact ⟨v, _, rfl, h, RpE.app t g⟩
theorem RpE.map {n : Str} {z : PyData} {y : V} (r : Rp K H z y) : ∀ {es : Ents} {kvs : List (Key × V)}, RpE K H es kvs → RpE K H (es.map fun e => if e.1 = n then (e.1, z) else e) (kvs.map fun kv => if kv.1 = Sum.inr n then (kv.1, y) else kv)
  | [], kvs, h => by rw [show kvs = [] from h]; rfl
  | (m, d) :: es, _, ⟨v, q, e, h, t⟩ => by
    subst e
    have ih := RpE.map (n := n) r t
    rw [List.map_cons, List.map_cons]
    by_cases w : m = n
    · subst w
      rw [if_pos rfl, if_pos rfl]
      exact ⟨y, _, rfl, r, ih⟩
    · rw [if_neg w, if_neg (fun q => w (by cases q; rfl))]
      exact ⟨v, _, rfl, h, ih⟩
theorem RpE.put {n : Str} {z : PyData} {y : V} {es : Ents} {kvs : List (Key × V)} (h : RpE K H es kvs) (r : Rp K H z y) : RpE K H (putE es n z) (putK kvs (.inr n) y) := by
  unfold putE putK
  rw [h.any]
  by_cases q : (es.any fun e => decide (e.1 = n)) = true
  · rw [if_pos q, if_pos q]
    exact h.map r
  · rw [if_neg q, if_neg q]
    exact h.app ⟨y, [], rfl, r, rfl⟩
theorem RpE.drop {n : Str} : ∀ {es : Ents} {kvs : List (Key × V)}, RpE K H es kvs → RpE K H (dropE es n) (dropK kvs (.inr n))
  | [], kvs, h => by rw [show kvs = [] from h]; rfl
  | (m, d) :: es, _, ⟨v, q, e, h, t⟩ => by
    subst e
    have ih := RpE.drop (n := n) t
    unfold dropE dropK at ih ⊢
    by_cases w : m = n
    · rw [List.filter_cons_of_neg (by simpa using w), List.filter_cons_of_neg (by simpa using w)]
      exact ih
    · rw [List.filter_cons_of_pos (by simpa using w), List.filter_cons_of_pos (by simpa using w)]
      exact ⟨v, _, rfl, h, ih⟩
end
/-! ### a house that is read -/
def asH (C : Addr) (d : DV) (K : Ents → Prop) : Prop := match d with
  | .hs C' es => C' = C ∧ K es
  | _ => False
theorem asH_of {C : Addr} {d : DV} {K : Ents → Prop} (h : asH C d K) : ∃ es, d = .hs C es ∧ K es := by
  cases d with
  | hs C' es => obtain ⟨rfl, h⟩ := h; exact ⟨es, rfl, h⟩
  | _ => exact h.elim
def asD (d : DV) (K : Ents → Prop) : Prop := match d with
  | .hd es => K es
  | _ => False
theorem asD_of {d : DV} {K : Ents → Prop} (h : asD d K) : ∃ es, d = .hd es ∧ K es := by
  cases d with
  | hd es => exact ⟨es, rfl, h⟩
  | _ => exact h.elim
/-- e._entries -/
def dEnts (C : Addr) (te : TD) : TD := fun δ R => te δ fun d => asH C d fun es => R (.hd es)
def dInH (tk td : TD) : TD := fun δ R => tk δ fun k => asS k fun n => td δ fun d => asD d fun es => R (.p (.bool (getE es n).isSome))
def dLenH (td : TD) : TD := fun δ R => td δ fun d => asD d fun es => R (.p (.int es.length))
def dGetH (td tk : TD) : TD := fun δ R => td δ fun d => asD d fun es => tk δ fun k => asS k fun n => R (.p ((getE es n).getD .none))
section
variable {X : Cx} {e o i : Expr} {te td tk : TD} {C : Addr} {pos p : Pos}
theorem de_ents (c : Cls X.K C) (n : NoAttr X.K C "_entries") (he : PE X e (up (Cx.ky X) te)) (hb : attributeBase e "_entries" X.env (eval e X.env) = eval e X.env := by rfl) : PE X (.Attribute e "_entries" pos) (up (Cx.ky X) (dEnts C te)) := by
  refine PE.imp (pe_fld he hb) fun σ H Q ⟨δ, R, cc, L, s, h, k⟩ => ⟨δ, _, cc, L, s, h, fun v H1 d x1 r1 h1 => ?_⟩
  obtain ⟨es, rfl, h2⟩ := asH_of h1
  obtain ⟨a, dd, dx, vm, od, kvs, rfl, e1, e2, r⟩ := r1
  exact ⟨a, C, dx, _, .ref dd, rfl, (hide_f e1).2, c, n, rfl, k (.ref dd) H1 (.hd es) x1 ⟨dd, od, kvs, rfl, e2, r⟩ h2⟩
theorem rd_hd {κ : Ky} {H : Hp} {P : Addr → Bool} {es : Ents} {v : V} (h : Rv κ (hide P H) (.hd es) v) : ∃ d kvs, v = .ref d ∧ Rd H d (.dK kvs) ∧ RpE κ.K (hide P H) es kvs := by
  obtain ⟨d, od, kvs, rfl, e, r⟩ := h
  exact ⟨d, kvs, rfl, .inr ⟨od, (hide_f e).2⟩, r⟩
theorem dget_of {κ : Ky} {H : Hp} {P : Addr → Bool} {es : Ents} {d : Addr} {kvs : List (Key × V)} {n : Str} (e : Rd H d (.dK kvs)) : DGet H d (.str n) (valV kvs (.inr n)) := .inl ⟨kvs, .inr n, e, rfl, rfl⟩
theorem isSome_of {K : PySem.W.Frag} {H : Hp} {es : Ents} {kvs : List (Key × V)} {n : Str} (r : RpE K H es kvs) : (valV kvs (.inr n)).isSome = (getE es n).isSome := by
  obtain ⟨h1, h2⟩ := r.val (n := n)
  cases q : getE es n with
  | none => rw [h1 q]; rfl
  | some z =>
    obtain ⟨v, e, _⟩ := h2 z q
    rw [e]; rfl
theorem dt_inH (hu : X.A.units + 1 < cLine) (hk : PE X e (up (Cx.ky X) tk)) (hd : PE X o (up (Cx.ky X) td)) (h1 : behindInMarks .In o = false := by first | exact nobehind _ (by decide) (by decide) | rfl) : PT X (.Compare e [.In] [o] pos) (upT (Cx.ky X) (dB (dInH tk td))) := by
  refine PT.imp (pt_cmp (pc_din hu hk hd) h1) fun σ H Q ⟨δ, R, cc, L, s, h, k⟩ => ⟨δ, _, cc, L, s, h, fun v H1 d x1 r1 h1 => ?_⟩
  obtain ⟨n, rfl, h2⟩ := asS_of h1
  refine ⟨δ, _, cc, L, s.on x1, h2, fun v2 H2 d2 x2 r2 h3 => ?_⟩
  obtain ⟨es, rfl, h4⟩ := asD_of h3
  obtain ⟨dd, kvs, rfl, e1, r⟩ := rd_hd r2
  refine ⟨dd, _, rfl, by rw [show v = .str n from r1]; exact dget_of (κ := Cx.ky X) (P := oor cc.P L) (es := es) e1, _, rfl, ?_⟩
  rw [isSome_of r]
  exact k _ H2 (x1.trans x2) h4
theorem cr_lenH : CallR X (.builtin "len") (fun xs H Q => ∃ a kvs, xs = [V.ref a] ∧ Rd H a (.dK kvs) ∧ Q (.int kvs.length) H) := by
  intro pins s σ H xs us Q I r h
  obtain ⟨a, kvs, rfl, ha, q⟩ := h
  obtain ⟨u, rfl, ru⟩ := Vals.one r
  cases ru
  exact d_len I ha fun t s' I' => ⟨.int kvs.length, H, I', ⟨t, rfl⟩, q⟩
theorem de_lenH (hd : PE X o (up (Cx.ky X) td)) (hg : Gl X "len") (hm : X.mg "len" = none) (he : starEach [o] X.env = [(false, eval o X.env)] := by rfl) : PE X (.Call (.Name "len" p) [o] [] pos) (up (Cx.ky X) (dLenH td)) := by
  refine PE.imp (pe_callB cr_lenH hg hm (by decide +kernel) (pa_cons hd pa_nil he) (by decide) (by decide) he rfl) fun σ H Q ⟨δ, R, cc, L, s, h, k⟩ => ⟨δ, _, cc, L, s, h, fun v H1 d x1 r1 h1 => ?_⟩
  obtain ⟨es, rfl, h2⟩ := asD_of h1
  obtain ⟨dd, kvs, rfl, e1, r⟩ := rd_hd r1
  exact ⟨dd, kvs, rfl, e1, k _ H1 (.p (.int kvs.length)) x1 rfl (by rw [← r.len]; exact h2)⟩
theorem de_getH {apos cpos : Pos} (hu : X.A.units + 1 < cLine) (hd : PE X o (up (Cx.ky X) td)) (hk : PE X e (up (Cx.ky X) tk)) (m : M1 X o "get" apos e cpos) : PE X (.Call (.Attribute o "get" apos) [e] [] cpos) (up (Cx.ky X) (dGetH td tk)) := by
  refine PE.imp (pe_dget1 hu hd hk m) fun σ H Q ⟨δ, R, cc, L, s, h, k⟩ => ⟨δ, _, cc, L, s, h, fun v H1 d x1 r1 h1 => ?_⟩
  obtain ⟨es, rfl, h2⟩ := asD_of h1
  obtain ⟨dd, kvs, rfl, e1, r⟩ := rd_hd r1
  refine ⟨dd, rfl, .inl ⟨kvs, e1⟩, δ, _, cc, L, s.on x1, h2, fun v2 H2 d2 x2 r2 h3 => ?_⟩
  obtain ⟨n, rfl, h4⟩ := asS_of h3
  obtain ⟨dd2, kvs2, e3, e2, rr⟩ := rd_hd (r1.ext (x2.hide _))
  cases e3
  refine ⟨_, by rw [show v2 = .str n from r2]; exact dget_of (κ := Cx.ky X) (P := oor cc.P L) (es := es) e2, ?_⟩
  obtain ⟨h1, hv⟩ := rr.val (n := n)
  cases q : getE es n with
  | none =>
    rw [h1 q]
    rw [q] at h4
    exact k .non H2 (.p .none) (x1.trans x2) rfl h4
  | some z =>
    obtain ⟨y, e, ry⟩ := hv z q
    rw [e]
    rw [q] at h4
    exact k y H2 (.p z) (x1.trans x2) ry h4
end
end MR

/-! Houses: methods called, changes, new ones. -/
namespace MR
open PySem PySem.Spec PyProof.Rows L2
/-- o.m(es, kws): gV puts the values in the parameters' order (the object first) -/
def tMethK (C : Addr) (m : Str) (sp : Sp) (gV : List V → List V → List V) (E : XK) (ta : TE) (t tk : TA) : TE := fun σ H Q => ta σ H fun x H1 => ∃ a dx fs, x = .ref a ∧ H1 a = some (.ins C dx fs) ∧ fs.lookup m = none ∧
  t σ H1 fun vs H2 => tk σ H2 fun zs H3 => sp (gV (x :: vs) zs) H3 Q E
def gPlain (dvs : List V) : List V → List V → List V := fun vs _ => vs ++ dvs
section
variable {X : Cx} {CX : CXT} {k : Nat} {f C : Addr} {fd : FuncData} {ps ks : List Str} {sp : Sp} {dvs : List V} {ds : List Value} {E : XK} {x m : Str} {p pos apos : Pos} {e o : Expr} {es : List Expr} {kws : List Keyword} {ta : TE} {t tk : TA}
  {g : List Value → List Value → List Value} {gV : List V → List V → List V}
theorem goesK {pins : List (Addr × Obj)} {σ : Sg} {H : Hp} {s : Shared} {Q : VK} {us ws : List Value} {vs zs : List V} (F : FnG X.prog X.w X.K X.mg X.base CX k f fd ps sp) (gd : X.A.guards = some []) (room : Room k X.A) (hb : KBinds X.K fd ps ks g gV) (hx : Passes CX X E)
    (I : Inv X pins σ H s) (r : Vals vs us) (rz : Vals zs ws) (h : sp (gV vs zs) H Q E) : wpAny (model X.prog X.w) X.A (call (.ref f) us (ks.zip ws)) (EP X pins σ Q) X.xe s := by
  have r2 := hb.rel r rz
  have hl : (g us ws).length = ps.length := by rw [← r2.length]; exact F.len _ _ _ _ h
  refine wpAny_call (codeAny_mono (F.go X.A gd X.stack s H ⟨us, ks.zip ws⟩ (g us ws) (gV vs zs) Q E room I.env0 (hb.to s us ws I.kIn hl) r2 h) fun r s' hq => ?_)
  cases r with
  | error e => exact hx pins σ H s e s' I hq
  | ok fl =>
    cases fl with
    | ret u => exact I.after hq
    | next => exact False.elim hq
    | brk => exact False.elim hq
    | cont => exact False.elim hq
theorem pe_methG {pl : Sem Bool} (he : PE X o ta) (c : Cls X.K C) (hm : Meth X.K C m f) (F : FnG X.prog X.w X.K X.mg X.base CX k f fd ps sp) (gd : X.A.guards = some []) (hr : Room k X.A) (hb : L2.Binds X.K fd ps ds) (hd : Vals dvs ds) (hx : Passes CX X E) (ha : PA X (e :: es) t)
    (hst : starEach (e :: es) X.env = (false, eval e X.env) :: starEach es X.env := by rfl) (hpl : (backTo pos (starEach es X.env)).any (·.1) = false := by rfl)
    (ht : eval (.Call (.Attribute o m apos) (e :: es) [] pos) X.env = (do
      let ov ← eval o X.env
      standAt apos.atName
      let (f, first) ← holding [ov] (getMethod ov m pl)
      callWith pos f first (backTo pos (starEach (e :: es) X.env)) (backToKw pos (keywordEach [] X.env))) := by rfl) :
    PE X (.Call (.Attribute o m apos) (e :: es) [] pos) (tMethK C m sp (gPlain dvs) E ta t tNil) := by
  refine ⟨fun pins s σ H Q I h => ?_⟩
  refine PySem.W.methodCall_KW (pl := pl) (thn (he.run pins s σ H _ I h) fun u s1 ⟨x, H1, I1, rx, a, dx, fs, ex, ea, l, q⟩ => ?_) ht
  subst ex
  obtain rfl : u = Value.ref a := rx
  refine getmeth_ok I1 ea c hm l ?_
  refine PySem.W.callWith_K (first := [.ref a]) (h₀ := X.base) I.ok.mod.kin hm.kp (thn (ha.run pos pins s1 σ H1 _ I1 q) fun us s2 ⟨vs, H2, I2, r, q2⟩ => ⟨I2.kIn, ?_⟩) hst hpl
  exact goes (us := .ref a :: us) (vs := .ref a :: vs) F gd hr hb hd hx I2 (.cons rfl r) q2
theorem pe_methG0 {pl : Sem Bool} (he : PE X o ta) (c : Cls X.K C) (hm : Meth X.K C m f) (F : FnG X.prog X.w X.K X.mg X.base CX k f fd ps sp) (gd : X.A.guards = some []) (hr : Room k X.A) (hb : L2.Binds X.K fd ps ds) (hd : Vals dvs ds) (hx : Passes CX X E)
    (ht : eval (.Call (.Attribute o m apos) [] [] pos) X.env = (do
      let ov ← eval o X.env
      standAt apos.atName
      let (f, first) ← holding [ov] (getMethod ov m pl)
      callWith pos f first (backTo pos (starEach [] X.env)) (backToKw pos (keywordEach [] X.env))) := by rfl) :
    PE X (.Call (.Attribute o m apos) [] [] pos) (tMethK C m sp (gPlain dvs) E ta tNil tNil) := by
  refine ⟨fun pins s σ H Q I h => ?_⟩
  refine PySem.W.methodCall_KW (pl := pl) (thn (he.run pins s σ H _ I h) fun u s1 ⟨x, H1, I1, rx, a, dx, fs, ex, ea, l, q⟩ => ?_) ht
  subst ex
  obtain rfl : u = Value.ref a := rx
  refine getmeth_ok I1 ea c hm l ?_
  exact PySem.W.callWith_K0 (first := [.ref a]) I1.kIn hm.kp (goes (us := [.ref a]) (vs := [.ref a]) F gd hr hb hd hx I1 (.cons rfl .nil) q)
theorem pe_methGK {pl : Sem Bool} (he : PE X o ta) (c : Cls X.K C) (hm : Meth X.K C m f) (F : FnG X.prog X.w X.K X.mg X.base CX k f fd ps sp) (gd : X.A.guards = some []) (hr : Room k X.A) (hb : KBinds X.K fd ps ks g gV) (hx : Passes CX X E) (ha : PA X (e :: es) t) (hkw : PK X kws tk)
    (hall : (backToKw pos (keywordEach kws X.env)).all (·.1.isSome) = true := by rfl) (hks : (backToKw pos (keywordEach kws X.env)).filterMap (·.1) = ks := by rfl)
    (hst : starEach (e :: es) X.env = (false, eval e X.env) :: starEach es X.env := by rfl) (hpl : ((backTo pos (starEach (e :: es) X.env)).any (·.1) || (backToKw pos (keywordEach kws X.env)).any (·.1.isNone)) = false := by rfl)
    (ht : eval (.Call (.Attribute o m apos) (e :: es) kws pos) X.env = (do
      let ov ← eval o X.env
      standAt apos.atName
      let (f, first) ← holding [ov] (getMethod ov m pl)
      callWith pos f first (backTo pos (starEach (e :: es) X.env)) (backToKw pos (keywordEach kws X.env))) := by rfl) :
    PE X (.Call (.Attribute o m apos) (e :: es) kws pos) (tMethK C m sp gV E ta t tk) := by
  refine ⟨fun pins s σ H Q I h => ?_⟩
  refine PySem.W.methodCall_KW (pl := pl) (thn (he.run pins s σ H _ I h) fun u s1 ⟨x, H1, I1, rx, a, dx, fs, ex, ea, l, q⟩ => ?_) ht
  subst ex
  obtain rfl : u = Value.ref a := rx
  refine getmeth_ok I1 ea c hm l ?_
  refine PySem.W.callWith_KW (first := [.ref a]) (h₀ := X.base) I.ok.mod.kin hm.kp hall (thn (ha.run pos pins s1 σ H1 _ I1 q) fun us s2 ⟨vs, H2, I2, r, q2⟩ => ?_) hpl hst
  refine thn (hkw.run pos pins s2 σ H2 _ I2 q2) fun ws s3 ⟨zs, H3, I3, rz, q3⟩ => ⟨I3.kIn, ?_⟩
  rw [hks]
  exact goesK (us := .ref a :: us) (vs := .ref a :: vs) F gd hr hb hx I3 (.cons rfl r) rz q3
end
/-! ### a method of a house that is read -/
def dMethR (C : Addr) (g : FL) (to : TD) (ta : TL) (ddv : List DV) : TD := fun δ R => to δ fun h => asH C h fun es => ta δ fun ds => g (.hs C es :: (ds ++ ddv)) R
section
variable {X : Cx} {k : Nat} {f C : Addr} {fd : FuncData} {ps : List Str} {m : Str} {pos apos : Pos} {e o : Expr} {es : List Expr} {to : TD} {ta : TL} {gf : FL} {te : TE}
theorem up_methR {κ : Ky} {E : XK} {σ : Sg} {H : Hp} {Q : VK} (nm : m ≠ "_entries") (nm2 : m ≠ "memory") {t : TA} (htt : ∀ σ H Q, upA κ ta σ H Q → t σ H Q) (h : up κ (dMethR C gf to ta []) σ H Q) : tMethK C m (spD κ gf) (gPlain []) E (up κ to) t tNil σ H Q := by
  obtain ⟨δ, R, c, L, s, h, k⟩ := h
  refine ⟨δ, _, c, L, s, h, fun v H1 d x1 r1 h1 => ?_⟩
  obtain ⟨es, rfl, h2⟩ := asH_of h1
  obtain ⟨a, dd, dx, vm, od, kvs, rfl, e1, e2, r⟩ := id r1
  refine ⟨a, dx, _, rfl, (hide_f e1).2, ?_, htt _ _ _ ⟨δ, _, c, L, s.on x1, h2, fun vs H2 ds x2 r2 h3 => ?_⟩⟩
  · rw [List.lookup_cons, beq_eq_false_iff_ne.mpr nm, List.lookup_cons, beq_eq_false_iff_ne.mpr nm2]
    rfl
  · show spD κ gf ((V.ref a :: vs) ++ []) H2 Q E
    rw [List.append_nil]
    rw [List.append_nil] at h3
    exact ⟨.hs C es :: ds, R, _, (s.on (x1.trans x2)).dom, ⟨_, vs, rfl, r1.ext (x2.hide _), r2⟩, h3, fun v H3 d x3 q1 q2 => k v H3 d (x1.trans (x2.trans x3)) q1 q2⟩
theorem de_methR {pl : Sem Bool} (nm : m ≠ "_entries") (nm2 : m ≠ "memory") (he : PE X o (up (Cx.ky X) to)) (c : Cls X.K C) (hm : Meth X.K C m f) (F : FnG X.prog X.w X.K X.mg X.base CX0 k f fd ps (spD (Cx.ky X) gf)) (gd : X.A.guards = some []) (hr : Room k X.A) (hb : L2.Binds X.K fd ps []) {E : XK} (hx : Passes CX0 X E)
    (ha : PA X (e :: es) (upA (Cx.ky X) ta)) (hst : starEach (e :: es) X.env = (false, eval e X.env) :: starEach es X.env := by rfl) (hpl : (backTo pos (starEach es X.env)).any (·.1) = false := by rfl)
    (ht : eval (.Call (.Attribute o m apos) (e :: es) [] pos) X.env = (do
      let ov ← eval o X.env
      standAt apos.atName
      let (f, first) ← holding [ov] (getMethod ov m pl)
      callWith pos f first (backTo pos (starEach (e :: es) X.env)) (backToKw pos (keywordEach [] X.env))) := by rfl) : PE X (.Call (.Attribute o m apos) (e :: es) [] pos) (up (Cx.ky X) (dMethR C gf to ta [])) :=
  PE.imp (pe_methG (pl := pl) he c hm F gd hr hb .nil hx ha hst hpl ht) fun _ _ _ h => up_methR nm nm2 (fun _ _ _ z => z) h
theorem de_methR0 {pl : Sem Bool} (nm : m ≠ "_entries") (nm2 : m ≠ "memory") (he : PE X o (up (Cx.ky X) to)) (c : Cls X.K C) (hm : Meth X.K C m f) (F : FnG X.prog X.w X.K X.mg X.base CX0 k f fd ps (spD (Cx.ky X) gf)) (gd : X.A.guards = some []) (hr : Room k X.A) (hb : L2.Binds X.K fd ps []) {E : XK} (hx : Passes CX0 X E)
    (ht : eval (.Call (.Attribute o m apos) [] [] pos) X.env = (do
      let ov ← eval o X.env
      standAt apos.atName
      let (f, first) ← holding [ov] (getMethod ov m pl)
      callWith pos f first (backTo pos (starEach [] X.env)) (backToKw pos (keywordEach [] X.env))) := by rfl) : PE X (.Call (.Attribute o m apos) [] [] pos) (up (Cx.ky X) (dMethR C gf to dNil [])) :=
  PE.imp (pe_methG0 (pl := pl) he c hm F gd hr hb .nil hx ht) fun _ _ _ h => up_methR nm nm2 (fun _ H Q ⟨δ, R, c, L, es, h, k⟩ => k [] H [] (Ext.refl _) rfl h) h
end
/-! ### a method that changes its house; a def that changes what it is lent -/
/-- how the keywords' data stand in the parameters' order -/
def KOk (κ : Ky) (gV : List V → List V → List V) (gD : List DV → List DV → List DV) : Prop := ∀ (H : Hp) (ds ks : List DV) (vs zs : List V), RvA κ H ds vs → RvA κ H ks zs → RvA κ H (gD ds ks) (gV vs zs)
/-- slot i's house changed by a method; n: what is done with the answer -/
def dMethM (i : Nat) (g : FH) (gD : List DV → List DV → List DV) (ts tk : TL) (n : DE → PyData → Dn → Prop) : TDS := fun E δ => match δ.getD i .un with
  | .od o => ts (δ.set i (.v (.raw (.ref o.at_)))) fun ds => tk (δ.set i (.v (.raw (.ref o.at_)))) fun ks => g o (gD (.raw (.ref o.at_) :: ds) ks) fun z o' => n E z (δ.set i (.od o'))
  | _ => False
def nDrop : DE → PyData → Dn → Prop := fun E _ δ => E.nx δ
section
variable {X : Cx} {i : Nat} {C : Addr} {m : Str} {g : FH} {gV : List V → List V → List V} {gD : List DV → List DV → List DV} {ts tk : TL} {n : DE → PyData → Dn → Prop} {t tkk : TA} {E' : XK}
theorem up_methM {κ : Ky} (nm : m ≠ "_entries") (nm2 : m ≠ "memory") (hk : KOk κ gV gD) (htt : ∀ σ H Q, upA κ ts σ H Q → t σ H Q) (htk : ∀ σ H Q, upA κ tk σ H Q → tkk σ H Q) {σ : Sg} {H : Hp} {δ : Dn} {E : DE} {c : Sc} {L : Addr → Bool} {Q : VK} {a d : Addr} {es : Ents}
    (s : ES κ c H L δ σ) (q : δ.getD i .un = .od (.hs C a d es)) (h : dMethM i g gD ts tk n E δ)
    (fin : ∀ v H' z δ', ES κ c H' L δ' σ → Rp κ.K (hide (oor c.P L) H') z v → n E z δ' → Q v H') : tMethK C m (spH κ g) gV E' (tVar i) t tkk σ H Q := by
  unfold dMethM at h
  rw [q] at h
  have ho := getD_od q
  obtain ⟨e1, ⟨dx, vm, kvs, h1, h2, r⟩, hl⟩ := s.ods.rd i _ ho
  have s1 := s.rawed ho
  refine ⟨.ref a, e1, a, dx, _, rfl, h1, ?_, htt _ _ _ ⟨_, _, c, L, s1, h, fun vs H2 ds x2 r2 h3 => htk _ _ _ ⟨_, _, c, L, s1.on x2, h3, fun zs H3 ks x3 r3 h4 => ?_⟩⟩⟩
  · rw [List.lookup_cons, beq_eq_false_iff_ne.mpr nm, List.lookup_cons, beq_eq_false_iff_ne.mpr nm2]
    rfl
  · have s3 := s.on (x2.trans x3)
    refine ⟨.hs C a d es, _, _, oor c.P L, s3.dom, s3.odP ho, (s3.ods.rd i _ ho).2.1, hk _ _ ks _ zs (show RvA κ (hide (oor c.P L) H3) (.raw (.ref a) :: ds) (.ref a :: vs) from ⟨_, vs, rfl, rfl, r2.ext (x3.hide _)⟩) r3, h4, fun v H' z o' lk x r' rz h5 => ?_⟩
    exact fin v H' z _ (s3.meth ho lk x r') rz h5
end
end MR

/-! Houses: statements; new ones. -/
namespace MR
open PySem PySem.Spec PyProof.Rows L2
/-- the house in a slot, of the class C -/
def asO (C : Addr) (s : Sl) (K : Addr → Addr → Ents → Prop) : Prop := match s with
  | .od (.hs C' a d es) => C' = C ∧ K a d es
  | _ => False
theorem asO_of {C : Addr} {s : Sl} {K : Addr → Addr → Ents → Prop} (h : asO C s K) : ∃ a d es, s = .od (.hs C a d es) ∧ K a d es := by
  cases s with
  | od o => cases o with
    | hs C' a d es => obtain ⟨rfl, h⟩ := h; exact ⟨a, d, es, rfl, h⟩
    | dc _ _ => exact h.elim
  | _ => exact h.elim
def dMeth (C : Addr) (i : Nat) (g : FH) (gD : List DV → List DV → List DV) (ts tk : TL) : TDS := fun E δ => asO C (δ.getD i .un) fun _ _ _ => dMethM i g gD ts tk nDrop E δ
section
variable {X : Cx} {k : Nat} {f C : Addr} {fd : FuncData} {ps ks : List Str} {m x : Str} {pos apos npos spos : Pos} {e : Expr} {es : List Expr} {kws : List Keyword} {i : Nat} {g : FH} {gD : List DV → List DV → List DV} {ts tk : TL} {dvs : List V} {dsd : List Value}
  {gg : List Value → List Value → List Value} {gV : List V → List V → List V}
theorem ds_meth {pl : Sem Bool} (hv : PE X (.Name x npos) (tVar i)) (nm : m ≠ "_entries") (nm2 : m ≠ "memory") (c : Cls X.K C) (hm : Meth X.K C m f) (F : FnG X.prog X.w X.K X.mg X.base CX0 k f fd ps (spH (Cx.ky X) g)) (gd : X.A.guards = some []) (hr : Room k X.A)
    (hb : L2.Binds X.K fd ps dsd) (hdv : Vals dvs dsd) {E : XK} (hx : Passes CX0 X E) (hk : KOk (Cx.ky X) (gPlain dvs) gD) (ha : PA X (e :: es) (upA (Cx.ky X) ts)) (hst : starEach (e :: es) X.env = (false, eval e X.env) :: starEach es X.env := by rfl) (hpl : (backTo pos (starEach es X.env)).any (·.1) = false := by rfl)
    (ht : eval (.Call (.Attribute (.Name x npos) m apos) (e :: es) [] pos) X.env = (do
      let ov ← eval (.Name x npos) X.env
      standAt apos.atName
      let (f, first) ← holding [ov] (getMethod ov m pl)
      callWith pos f first (backTo pos (starEach (e :: es) X.env)) (backToKw pos (keywordEach [] X.env))) := by rfl)
    (hs : swapsWith (.Call (.Attribute (.Name x npos) m apos) (e :: es) [] pos) none spos.line X.env = pure false := by rfl) :
    PS X (.Expr (.Call (.Attribute (.Name x npos) m apos) (e :: es) [] pos) spos) (upS (Cx.ky X) (dMeth C i g gD ts dNil)) := by
  refine PS.imp (ps_expr (pe_methG (pl := pl) hv c hm F gd hr hb hdv hx ha hst hpl ht) hs) fun D σ H ⟨δ, E, cc, L, s, h, ff⟩ => ?_
  obtain ⟨a, d, ents, q, h⟩ := asO_of h
  exact up_methM nm nm2 hk (fun _ _ _ z => z) (fun _ H Q ⟨δ, R, c, L, es, h, k⟩ => k [] H [] (Ext.refl _) rfl h) s q h fun v H' z δ' s' _ h' => ff.nx δ' σ H' L s' h'
theorem ds_methK {pl : Sem Bool} {tkk : TA} (hv : PE X (.Name x npos) (tVar i)) (nm : m ≠ "_entries") (nm2 : m ≠ "memory") (c : Cls X.K C) (hm : Meth X.K C m f) (F : FnG X.prog X.w X.K X.mg X.base CX0 k f fd ps (spH (Cx.ky X) g)) (gd : X.A.guards = some []) (hr : Room k X.A)
    (hb : KBinds X.K fd ps ks gg gV) {E : XK} (hx : Passes CX0 X E) (hk : KOk (Cx.ky X) gV gD) (ha : PA X (e :: es) (upA (Cx.ky X) ts)) (hkw : PK X kws tkk) (htk : ∀ σ H Q, upA (Cx.ky X) tk σ H Q → tkk σ H Q)
    (hall : (backToKw pos (keywordEach kws X.env)).all (·.1.isSome) = true := by rfl) (hks : (backToKw pos (keywordEach kws X.env)).filterMap (·.1) = ks := by rfl)
    (hst : starEach (e :: es) X.env = (false, eval e X.env) :: starEach es X.env := by rfl) (hpl : ((backTo pos (starEach (e :: es) X.env)).any (·.1) || (backToKw pos (keywordEach kws X.env)).any (·.1.isNone)) = false := by rfl)
    (ht : eval (.Call (.Attribute (.Name x npos) m apos) (e :: es) kws pos) X.env = (do
      let ov ← eval (.Name x npos) X.env
      standAt apos.atName
      let (f, first) ← holding [ov] (getMethod ov m pl)
      callWith pos f first (backTo pos (starEach (e :: es) X.env)) (backToKw pos (keywordEach kws X.env))) := by rfl)
    (hs : swapsWith (.Call (.Attribute (.Name x npos) m apos) (e :: es) kws pos) none spos.line X.env = pure false := by rfl) :
    PS X (.Expr (.Call (.Attribute (.Name x npos) m apos) (e :: es) kws pos) spos) (upS (Cx.ky X) (dMeth C i g gD ts tk)) := by
  refine PS.imp (ps_expr (pe_methGK (pl := pl) hv c hm F gd hr hb hx ha hkw hall hks hst hpl ht) hs) fun D σ H ⟨δ, E, cc, L, s, h, ff⟩ => ?_
  obtain ⟨a, d, ents, q, h⟩ := asO_of h
  exact up_methM nm nm2 hk (fun _ _ _ z => z) htk s q h fun v H' z δ' s' _ h' => ff.nx δ' σ H' L s' h'
end
/-- the values of keywords, by data -/
theorem dk_cons {X : Cx} {nm : Option Str} {e : Expr} {kpos : Pos} {kws : List Keyword} {te : TD} {tk : TL} (he : PE X e (up (Cx.ky X) te)) (h : ∃ t, PK X kws t ∧ ∀ σ H Q, upA (Cx.ky X) tk σ H Q → t σ H Q) :
    ∃ t, PK X (⟨nm, e, kpos⟩ :: kws) t ∧ ∀ σ H Q, upA (Cx.ky X) (dCons te tk) σ H Q → t σ H Q := by
  obtain ⟨t, h1, h2⟩ := h
  refine ⟨_, pk_cons he h1, fun σ H Q ⟨δ, R, c, L, es, h, k⟩ => ?_⟩
  refine ⟨δ, _, c, L, es, h, fun v H1 d x1 r1 h3 => h2 _ _ _ ⟨δ, _, c, L, es.on x1, h3, fun us H2 ds x2 r2 h4 => ?_⟩⟩
  exact k _ H2 (d :: ds) (x1.trans x2) ⟨v, us, rfl, r1.ext (x2.hide _), r2⟩ h4
theorem dk_nil {X : Cx} : ∃ t, PK X [] t ∧ ∀ σ H Q, upA (Cx.ky X) dNil σ H Q → t σ H Q := ⟨_, pk_nil, fun σ H Q ⟨δ, R, c, L, es, h, k⟩ => k [] H [] (Ext.refl _) rfl h⟩

/-! ### self._entries[k] = v, self.memory = {} -/
def dHput (C : Addr) (i : Nat) (tk tv : TD) : TDS := fun E δ => asO C (δ.getD i .un) fun a d es => tv δ fun v => asP v fun z => tk δ fun k => asS k fun n => es.length < sizeLine ∧ E.nx (δ.set i (.od (.hs C a d (putE es n z))))
def dHmem (C : Addr) (i : Nat) : TDS := fun E δ => asO C (δ.getD i .un) fun _ _ _ => E.nx δ
theorem extM_upd {H : Hp} {as : List Addr} {b : Addr} {u : HO} (m : b ∈ as) : ExtM (mem as) H (upd H b u) := fun c o e => by
  by_cases h : c ∈ as
  · refine .inr ⟨mem_t.mpr h, ?_⟩
    by_cases z : c = b
    · rw [z, upd_same]; exact Option.some_ne_none _
    · rw [upd_ne z, e]; exact Option.some_ne_none _
  · exact .inl ⟨mem_f.mpr h, .inl (by rw [upd_ne (fun z => h (by rw [z]; exact m))]; exact e)⟩
theorem hide_upd {P : Addr → Bool} {H : Hp} {b : Addr} {u : HO} (h : P b = true) : hide P (upd H b u) = hide P H := hide_same h
section
variable {X : Cx} {C : Addr} {i : Nat} {x : Str} {e value : Expr} {tk tv : TD} {pos pos' apos npos : Pos}
theorem set_same {δ : Dn} {i : Nat} {s : Sl} (h : δ[i]? = some s) : δ.set i s = δ := by
  apply List.ext_getElem?
  intro j
  by_cases hj : j = i
  · subst hj
    rw [List.getElem?_set_self (List.getElem?_eq_some_iff.mp h).1, h]
  · rw [List.getElem?_set_ne (Ne.symm hj)]
theorem ds_hput (hu : X.A.units + 1 < cLine) (c : Cls X.K C) (na : NoAttr X.K C "_entries") (hv : PE X (.Name x npos) (tVar i)) (hk : PE X e (up (Cx.ky X) tk)) (hval : PE X value (up (Cx.ky X) tv))
    (hs : swapsWith value (some (.Subscript (.Attribute (.Name x npos) "_entries" apos) e pos')) pos.line X.env = pure false := by rfl) (hb : attributeBase (.Name x npos) "_entries" X.env (eval (.Name x npos) X.env) = eval (.Name x npos) X.env := by rfl) :
    PS X (.Assign [.Subscript (.Attribute (.Name x npos) "_entries" apos) e pos'] value pos) (upS (Cx.ky X) (dHput C i tk tv)) := by
  refine PS.imp (ps_dput hu (pe_fld hv hb) hk hval hs) fun D σ H ⟨δ, E, cc, L, s, h, ff⟩ => ?_
  obtain ⟨a, d, es, q, h⟩ := asO_of h
  have ho := getD_od q
  refine ⟨δ, _, cc, L, s, h, fun v H1 dv x1 r1 h1 => ?_⟩
  obtain ⟨z, rfl, h2⟩ := asP_of h1
  have s1 := s.on x1
  obtain ⟨e1, ⟨dx, vm, kvs, g1, g2, r⟩, hl⟩ := s1.ods.rd i _ ho
  refine ⟨.ref a, e1, a, C, dx, _, .ref d, rfl, g1, c, na, rfl, δ, _, cc, L, s1, h2, fun v2 H2 d2 x2 r2 h3 => ?_⟩
  obtain ⟨n, rfl, hlen, h5⟩ := asS_of h3
  have s2 := s1.on x2
  obtain ⟨_, ⟨dx2, vm2, kvs2, g3, g4, r3⟩, _⟩ := s2.ods.rd i _ ho
  refine ⟨d, _, rfl, by rw [show v2 = .str n from r2]; exact DPut.k (k := Sum.inr n) g4 (by rw [← r3.len]; exact hlen), ?_⟩
  have ld : L d = true := hl d (List.mem_cons_of_mem _ List.mem_cons_self)
  have ad : a ≠ d := fun z => by rw [z, g4] at g3; cases g3
  have eh : hide (oor cc.P L) (upd H2 d (.dK (putK kvs2 (.inr n) v))) = hide (oor cc.P L) H2 := hide_upd (by unfold oor; rw [ld, Bool.or_true])
  refine ff.nx _ σ _ L (s2.meth (o' := .hs C a d (putE es n z)) ho ⟨rfl, rfl, rfl⟩ (extM_upd (List.mem_cons_of_mem _ List.mem_cons_self)) ⟨dx2, vm2, _, by rw [upd_ne ad]; exact g3, upd_same, ?_⟩) h5
  rw [eh]
  exact r3.put (Rp.ext (x2.hide _) r1)
theorem ds_hmem (c : Cls X.K C) (na : NoAttr X.K C "memory") (hv : PE X (.Name x npos) (tVar i)) (hs : swapsWith (.Dict [] [] pos') (some (.Attribute (.Name x npos) "memory" apos)) pos.line X.env = pure false := by rfl) :
    PS X (.Assign [.Attribute (.Name x npos) "memory" apos] (.Dict [] [] pos') pos) (upS (Cx.ky X) (dHmem C i)) := by
  refine PS.imp (ps_fld hv pe_dnewK hs) fun D σ H ⟨δ, E, cc, L, s, h, ff⟩ => ?_
  obtain ⟨a, d, es, q, h⟩ := asO_of h
  have ho := getD_od q
  refine fun p hp => ?_
  have s1 := s.on (Ext.new (o := .dK []) hp)
  obtain ⟨e1, ⟨dx, vm, kvs, g1, g2, r⟩, hl⟩ := s1.ods.rd i _ ho
  refine ⟨.ref a, e1, a, C, dx, _, rfl, g1, c, na, (show 2 < 1000 by decide), ?_⟩
  have la : L a = true := hl a List.mem_cons_self
  have ad : d ≠ a := fun z => by rw [z, g1] at g2; cases g2
  have eh : hide (oor cc.P L) (upd (upd H p (.dK [])) a (.ins C dx (putF "memory" (.ref p) [("_entries", .ref d), ("memory", vm)]))) = hide (oor cc.P L) (upd H p (.dK [])) := hide_upd (by unfold oor; rw [la, Bool.or_true])
  have := s1.meth (o' := .hs C a d es) ho ⟨rfl, rfl, rfl⟩ (extM_upd (u := .ins C dx (putF "memory" (.ref p) [("_entries", .ref d), ("memory", vm)])) List.mem_cons_self) ⟨dx, .ref p, kvs, upd_same, by rw [upd_ne ad]; exact g2, by rw [eh]; exact r⟩
  rw [set_same ho] at this
  exact ff.nx _ σ _ L this h
end
end MR

/-! New houses: made, returned, put into slots. -/
namespace MR
open PySem PySem.Spec PyProof.Rows L2
abbrev TDN := Dn → (OD → Prop) → Prop
def plusL (L : Addr → Bool) (as : List Addr) : Addr → Bool := fun b => L b || mem as b
theorem plusL_t {L : Addr → Bool} {as : List Addr} {b : Addr} : plusL L as b = true ↔ L b = true ∨ b ∈ as := by unfold plusL; rw [Bool.or_eq_true, mem_t]
/-- an expression that makes a new owned thing -/
def upN (κ : Ky) (t : TDN) : TE := fun σ H Q => ∃ δ R c L, ES κ c H L δ σ ∧ t δ R ∧ ∀ o H', Ext H H' → (∀ b ∈ o.as, H b = none) → OdRd κ (hide (oor c.P (plusL L o.as)) H') H' o → R o → Q (.ref o.at_) H'
section
variable {κ : Ky} {c : Sc} {H H' : Hp} {L : Addr → Bool} {δ : Dn} {σ : Sg} {i : Nat} {o : OD}
theorem ES.newOd (s : ES κ c H L δ σ) (x : Ext H H') (fr : ∀ b ∈ o.as, H b = none) (r : OdRd κ (hide (oor c.P (plusL L o.as)) H') H' o) : ES κ c H' (plusL L o.as) (δ.set i (.od o)) (σ.set i (some (.ref o.at_))) := by
  have hx : Ext (hide (oor c.P L) H) (hide (oor c.P (plusL L o.as)) H') := fun b u e => by
    obtain ⟨p, h⟩ := hide_f e
    obtain ⟨p1, p2⟩ := oor_f.mp p
    have n : b ∉ o.as := fun m => by rw [fr b m] at h; cases h
    have p' : oor c.P (plusL L o.as) b = false := oor_f.mpr ⟨p1, by unfold plusL; rw [p2, mem_f.mpr n]; rfl⟩
    rcases x b u h with z | ⟨w, u', z, w'⟩
    · exact .inl (hide_t p' z)
    · exact .inr ⟨w, u', hide_t p' z, w'⟩
  have nown : ∀ {j : Nat} {ds : List PyData}, (δ.set i (.od o))[j]? = some (Sl.own ds) → j ≠ i ∧ δ[j]? = some (Sl.own ds) := fun {j ds} q => by
    rcases set_get_own q with ⟨_, z, _⟩ | ⟨n, z⟩
    · cases z
    · exact ⟨n, z⟩
  refine ⟨by rw [List.length_set, List.length_set]; exact s.len, fun j e q => ?_, fun j ds q => ?_, fun j k ds fs b n q1 q2 q3 => ?_, s.psys, s.pdom, fun b hb => ?_, s.ext.trans x, s.kept.ext hx, ⟨fun j p q => ?_, fun j k p p' n q1 q2 => ?_⟩, s.mp⟩
  · rcases set_get_v q with ⟨_, z, _⟩ | ⟨nj, z⟩
    · cases z
    · obtain ⟨v, q1, q2⟩ := s.val j e z
      exact ⟨v, by rw [List.getElem?_set_ne (Ne.symm nj)]; exact q1, q2.ext hx⟩
  · obtain ⟨nj, z⟩ := nown q
    obtain ⟨b, ys, q1, q2, q3, q4⟩ := s.own j ds z
    exact ⟨b, ys, by rw [List.getElem?_set_ne (Ne.symm nj)]; exact q1, plusL_t.mpr (.inl q2), x.lst q3, q4.ext hx⟩
  · obtain ⟨n1, z1⟩ := nown q1
    obtain ⟨n2, z2⟩ := nown q2
    rw [List.getElem?_set_ne (Ne.symm n1)] at q3
    rw [List.getElem?_set_ne (Ne.symm n2)]
    exact s.sep j k ds fs b n z1 z2 q3
  · rcases plusL_t.mp hb with l | m
    · obtain ⟨q1, q2⟩ := s.ldom b l
      exact ⟨x.some q1, q2⟩
    · obtain ⟨u, hu, _⟩ := r.kinds m
      exact ⟨by rw [hu]; exact Option.some_ne_none _, .inl (s.ext.none (fr b m))⟩
  · by_cases hj : j = i
    · subst hj
      have il : j < δ.length := by
        have := (List.getElem?_eq_some_iff.mp q).1
        rw [List.length_set] at this
        exact this
      rw [List.getElem?_set_self il] at q
      cases q
      exact ⟨List.getElem?_set_self (by rw [← s.len]; exact il), r, fun b m => plusL_t.mpr (.inr m)⟩
    · rw [List.getElem?_set_ne (Ne.symm hj)] at q
      obtain ⟨q1, q2, q3⟩ := s.ods.rd j p q
      exact ⟨by rw [List.getElem?_set_ne (Ne.symm hj)]; exact q1, q2.mono (fun b u _ h k => x.keep h fun ⟨_, _, z, _⟩ => by rw [z] at k; exact k) hx, fun b m => plusL_t.mpr (.inl (q3 b m))⟩
  · have il : ∀ {p : OD}, (δ.set i (.od o))[i]? = some (Sl.od p) → p = o := fun {p} q => by
      have il : i < δ.length := by
        have := (List.getElem?_eq_some_iff.mp q).1
        rw [List.length_set] at this
        exact this
      rw [List.getElem?_set_self il] at q
      cases q
      rfl
    have old : ∀ {j : Nat} {p : OD}, δ[j]? = some (Sl.od p) → ∀ b ∈ p.as, b ∉ o.as := fun {j p} q b m m2 => by
      have l := (s.ods.rd j p q).2.2 b m
      exact (s.ldom b l).1 (fr b m2)
    by_cases hj : j = i
    · subst hj
      rw [il q1]
      rw [List.getElem?_set_ne n] at q2
      exact fun b m m2 => old q2 b m2 m
    · rw [List.getElem?_set_ne (Ne.symm hj)] at q1
      by_cases hk : k = i
      · subst hk
        rw [il q2]
        exact old q1
      · rw [List.getElem?_set_ne (Ne.symm hk)] at q2
        exact s.ods.dj j k p p' n q1 q2
end
def dSetN (i : Nat) (t : TDN) : TDS := fun E δ => t δ fun o => E.nx (δ.set i (.od o))
theorem ds_setN {X : Cx} {i : Nat} {x : Str} {e : Expr} {t : TDN} {pos pos' : Pos} (hN : X.N.Nodup) (hi : X.N[i]? = some x) (hx : Loc X.env.scope x) (he : PE X e (upN (Cx.ky X) t)) (hs : swapsWith e (some (.Name x pos')) pos.line X.env = pure false := by rfl)
    (hf : X.fn x = true ∨ X.env.scope.names.lookup x = some .local := by first | exact .inl rfl | exact .inr rfl | assumption) : PS X (.Assign [.Name x pos'] e pos) (upS (Cx.ky X) (dSetN i t)) :=
  PS.imp (ps_set hN hi hx he hs hf) fun D σ H ⟨δ, E, c, L, es, h, f⟩ => ⟨δ, _, c, L, es, h, fun o H1 x1 fr r h1 => f.nx _ _ H1 _ (es.newOd x1 fr r) h1⟩
/-! ### House() -/
def spInit (C : Addr) : Sp := fun vs H Q _ => ∃ a dx, vs = [.ref a] ∧ H a = some (.ins C dx []) ∧ ∀ d m, H d = none → upd (upd H d (.dK [])) a (.ins C dx [("_entries", .ref d)]) m = none →
  Q .non (upd (upd (upd (upd H d (.dK [])) a (.ins C dx [("_entries", .ref d)])) m (.dK [])) a (.ins C dx [("_entries", .ref d), ("memory", .ref m)]))
theorem ok_hinit {P : Program} {w : World} {K : PySem.W.Frag} {mg : Str → Option Value} {base : Heap} {qual : Str} {st : Stmt} {f C : Addr} {fd : FuncData} {p1 p2 p3 p4 q1 q2 q3 q4 : Pos} (F : Fun K "__init__" qual st f fd) (S : FnScope [("self" : Str)] [("self" : Str)] (defScope st)) (hv : ∀ (X : Cx) (p : Pos), X.env.scope = defScope st → X.N = [("self" : Str)] → PE X (.Name "self" p) (tVar 0))
    (hst : defBody st = [.Assign [.Attribute (.Name "self" p1) "_entries" p2] (.Dict [] [] p3) p4, .Assign [.Attribute (.Name "self" q1) "memory" q2] (.Dict [] [] q3) q4])
    (c : Cls K C) (nE : NoAttr K C "_entries") (nM : NoAttr K C "memory") : FnOk P w K mg base CX0 1 f fd [("self" : Str)] (spInit C) := by
  refine F.ok S (fun vs H Q E ⟨a, dx, e, _⟩ => by rw [e]; rfl) (fun cdv A outer s H vs Q E hr ⟨a, dx, e, ha, k⟩ => ?_)
  subst e
  rw [hst]
  refine ⟨_, pss_cons (ps_fld (hv _ _ rfl rfl) pe_dnewK rfl) (pss_one (ps_fld (hv _ _ rfl rfl) pe_dnewK rfl)), ?_⟩
  intro d hd
  have ad : a ≠ d := ne_of_none ha hd
  refine ⟨_, rfl, a, C, dx, [], rfl, by rw [upd_ne ad]; exact ha, c, nE, (show 0 < 1000 by decide), ?_⟩
  intro m hm
  have am : a ≠ m := fun z => by rw [← z, upd_same] at hm; cases hm
  refine ⟨_, rfl, a, C, dx, [("_entries", .ref d)], rfl, by rw [upd_ne am]; exact upd_same, c, nM, (show 1 < 1000 by decide), ?_⟩
  exact k d m hd hm
def dNewH (C : Addr) : TDN := fun _ R => ∀ a d, R (.hs C a d [])
theorem de_newH {X : Cx} {C f : Addr} {fd : FuncData} {x : Str} {p pos : Pos} {k : Nat} {E : XK} (M : Mk X.K C f) (F : FnOk X.prog X.w X.K X.mg X.base CX0 k f fd [("self" : Str)] (spInit C)) (hr : Room (k + 1) X.A) (hg : Gl X x) (hm : X.mg x = some (.ref C)) (hb : L2.Binds X.K fd [("self" : Str)] []) (hx : Passes CX0 X E)
    (hdb : (x == ("__debug__" : Str)) = false := by decide) : PE X (.Call (.Name x p) [] [] pos) (upN (Cx.ky X) (dNewH C)) := by
  refine PE.imp (pe_make0 M F hr hg hm hb .nil hx hdb) fun σ H Q ⟨δ, R, c, L, s, h, k⟩ => ?_
  intro a dx na ndx nad
  show spInit C [.ref a] _ _ _
  refine ⟨a, dx, rfl, upd_same, fun d m nd nm => ⟨rfl, ?_⟩⟩
  have ad : a ≠ d := fun z => by rw [← z, upd_same] at nd; cases nd
  have am : a ≠ m := fun z => by rw [← z, upd_same] at nm; cases nm
  have dm : d ≠ m := fun z => by rw [← z, upd_ne ad.symm, upd_same] at nm; cases nm
  have dxd : d ≠ dx := fun z => by rw [z, upd_ne nad, upd_same] at nd; cases nd
  have nd0 : H d = none := by rw [upd_ne ad.symm, upd_ne dxd] at nd; exact nd
  refine k (.hs C a d []) _ (fun b u e => .inl ?_) (fun b mm => ?_) ⟨dx, .ref m, [], upd_same, ?_, rfl⟩ (h a d)
  · have nb : ∀ {c : Addr}, H c = none → b ≠ c := fun {c} z w => by rw [w, z] at e; cases e
    have nbm : b ≠ m := fun w => by
      have : upd (upd (upd (upd H dx (.own a)) a (.ins C dx [])) d (.dK [])) a (.ins C dx [("_entries", .ref d)]) b = some u := by
        rw [upd_ne (nb na), upd_ne (nb nd0), upd_ne (nb na), upd_ne (nb ndx)]; exact e
      rw [w, nm] at this
      cases this
    rw [upd_ne (nb na), upd_ne nbm, upd_ne (nb na), upd_ne (nb nd0), upd_ne (nb na), upd_ne (nb ndx)]
    exact e
  · rcases List.mem_cons.mp mm with z | z
    · rw [z]; exact na
    · rw [List.mem_singleton.mp z]; exact nd0
  · rw [upd_ne ad.symm, upd_ne dm, upd_ne ad.symm, upd_same]
/-! ### a def that returns what it made -/
def spN (κ : Ky) (g : List DV → (OD → Prop) → Prop) : Sp := fun vs H Q _ => ∃ ds R P, Dom P H ∧ RvA κ (hide P H) ds vs ∧ g ds R ∧ ∀ o H', Ext H H' → (∀ b ∈ o.as, H b = none) → OdRd κ (hide (fun b => P b || mem o.as b) H') H' o → R o → Q (.ref o.at_) H'
def dCallN (g : List DV → (OD → Prop) → Prop) (ta : TL) : TDN := fun δ R => ta δ fun ds => g ds R
theorem de_callN {X : Cx} {k : Nat} {f : Addr} {fd : FuncData} {ps : List Str} {g : List DV → (OD → Prop) → Prop} {ta : TL} {x : Str} {p pos : Pos} {a : Expr} {es : List Expr} {E : XK} (F : FnG X.prog X.w X.K X.mg X.base CX0 k f fd ps (spN (Cx.ky X) g)) (gd : X.A.guards = some []) (hr : Room k X.A) (hg : Gl X x) (hm : X.mg x = some (.ref f)) (hk : PySem.W.keepIn X.K (.ref f) = true)
    (hb : L2.Binds X.K fd ps []) (hx : Passes CX0 X E) (ha : PA X (a :: es) (upA (Cx.ky X) ta)) (hdb : (x == ("__debug__" : Str)) = false := by decide) (he : starEach (a :: es) X.env = (false, eval a X.env) :: starEach es X.env := by rfl)
    (hpl : (backTo pos (starEach es X.env)).any (·.1) = false := by rfl) : PE X (.Call (.Name x p) (a :: es) [] pos) (upN (Cx.ky X) (dCallN g ta)) := by
  refine PE.imp (pe_callG F gd hr hg hm hk hb .nil hx ha hdb he hpl) fun σ H Q ⟨δ, R, c, L, es, h, k1⟩ => ?_
  refine ⟨δ, _, c, L, es, h, fun vs H1 ds x1 r1 h1 => ?_⟩
  show spN (Cx.ky X) g (vs ++ []) H1 Q E
  rw [List.append_nil]
  refine ⟨ds, R, oor c.P L, (es.on x1).dom, r1, h1, fun o H' x2 fr rr h2 => k1 o H' (x1.trans x2) (fun b m => x1.none (fr b m)) (rr.mono (fun _ _ _ h _ => h) (hide_less H' fun b z => ?_)) h2⟩
  show (oor c.P L b || mem o.as b) = true
  have z : (c.P b || (L b || mem o.as b)) = true := z
  unfold oor
  rw [Bool.or_assoc]
  exact z
def dRetN0 (i : Nat) : TDS := fun E δ => match δ.getD i .un with
  | .od o => E.ro o
  | _ => False
theorem ds_retN0 {X : Cx} {i : Nat} {x : Str} {pos p : Pos} (hv : PE X (.Name x p) (tVar i)) : PS X (.Return (some (.Name x p)) pos) (upS (Cx.ky X) (dRetN0 i)) := by
  refine PS.imp (ps_ret hv) fun D σ H ⟨δ, E, c, L, s, h, f⟩ => ?_
  unfold dRetN0 at h
  cases q : δ.getD i .un with
  | od o =>
    rw [q] at h
    have ho := getD_od q
    exact ⟨_, (s.ods.rd i o ho).1, f.ro o δ σ H L s ⟨i, ho⟩ h⟩
  | un => rw [q] at h; exact h.elim
  | v _ => rw [q] at h; exact h.elim
  | own _ => rw [q] at h; exact h.elim
theorem okN {P : Program} {w : World} {K : PySem.W.Frag} {mg : Str → Option Value} {base : Heap} {x qual : Str} {st : Stmt} {f : Addr} {fd : FuncData} {N ps : List Str} {k : Nat} {g : List DV → (OD → Prop) → Prop} (F : Fun K x qual st f fd) (S : FnScope N ps (defScope st)) (len : ∀ ds R, g ds R → ds.length = ps.length)
    (hb : ∀ (cdv : Value) (A : Around), A.guards = some [] → ∀ (outer : List PySem.Env) (s : Shared) (H : Hp) (E : XK), Room k (A.deeper (envOfC qual (defScope st) s.heap.objs.size f cdv)) →
      ∃ t, PSs (cxOf CX0 P w K mg base N qual (defScope st) f cdv A outer s H E).nox (defBody st) (upS ⟨K, P, w⟩ t) ∧ ∀ ds R, g ds R → t { nx := fun _ => False, rt := fun _ => False, ro := R } (startD N ds)) : FnG P w K mg base CX0 (k + 1) f fd ps (spN ⟨K, P, w⟩ g) := by
  refine fnG_of F S (fun vs H Q E ⟨ds, R, P, d, r, h, q⟩ => by rw [← r.len]; exact len ds R h) fun cdv A gd outer s H vs Q E room ⟨ds, R, P', d, r, h, q⟩ => ?_
  obtain ⟨t, ht, hr⟩ := hb cdv A gd outer s H E room
  refine ⟨_, ht.nox, startD N ds, _, ⟨H, P', [], [], fun _ => false⟩, _, es_start d r, hr ds R h, ⟨fun δ σ H' L es h' => h'.elim, fun v H' d' x r' h' => h'.elim, fun _ _ _ _ _ z => z.elim, fun _ _ _ _ _ z => z.elim, fun o δ σ H' L es ⟨i, ho⟩ h' => ?_⟩⟩
  obtain ⟨_, r1, hl⟩ := es.ods.rd i o ho
  refine q o H' (es.ext.ext fun _ => rfl) (fun b m => ?_) (r1.mono (fun _ _ _ h _ => h) (hide_less H' fun b z => ?_)) h'
  · rcases (es.ldom b (hl b m)).2 with z | z
    · exact z
    · cases z
  · unfold oor
    have z : (P' b || mem o.as b) = true := z
    rcases (Bool.or_eq_true _ _).mp z with z | z
    · rw [show (⟨H, P', [], [], fun _ => false⟩ : Sc).P b = true from z, Bool.true_or]
    · rw [hl b (mem_t.mp z), Bool.or_true]
end MR

/-! Dicts with text keys as data; sorted of one; truth of texts; None asked; what is never reached. -/
namespace MR
open PySem PySem.Spec PyProof.Rows L2
def entsD (es : Ents) : List (PyData × PyData) := es.map fun e => (.str e.1, e.2)
theorem rpK_E {K : PySem.W.Frag} {H : Hp} : ∀ {es : Ents} {kvs : List (Key × V)}, RpK K H (entsD es) kvs ↔ RpE K H es kvs
  | [], kvs => Iff.rfl
  | (n, d) :: es, kvs => by
    constructor
    · rintro ⟨k, v, q, e, ek, h, t⟩
      cases k with
      | inl i => cases ek
      | inr m =>
        have ek : PyData.str n = .str m := ek
        cases ek
        exact ⟨v, q, e, h, rpK_E.mp t⟩
    · rintro ⟨v, q, e, h, t⟩
      exact ⟨.inr n, v, q, e, rfl, h, rpK_E.mpr t⟩
/-! ### sorted(d) -/
def kS (k : Key) : Str := match k with
  | .inr x => x
  | .inl _ => Str.empty
def sortK (ns : List Str) : List Str := ns.mergeSort (PySem.W.dataLe false PyData.str)
theorem eachIs_of {α β : Type} {R : α → β → Prop} : ∀ {vs : List α} {ws : List β}, vs.length = ws.length → (∀ (j : Nat) v, vs[j]? = some v → ∃ w, ws[j]? = some w ∧ R v w) → PySem.W.EachIs R vs ws
  | [], [], _, _ => .nil
  | [], _ :: _, h, _ => by cases h
  | _ :: _, [], h, _ => by cases h
  | v :: vs, w :: ws, h, f => by
    obtain ⟨w', e, r⟩ := f 0 v rfl
    cases e
    exact .cons r (eachIs_of (Nat.succ.inj h) fun j u e => f (j + 1) u e)
theorem kv_at : ∀ {kvs : List (Key × V)} {vs : List (Key × Value)}, KV kvs vs → ∀ {j : Nat} {k : Key} {x : Value}, vs[j]? = some (k, x) → ∃ p, kvs[j]? = some p ∧ p.1 = k ∧ RelV p.2 x
  | _, _, .nil, j, k, x, e => by cases j <;> cases e
  | _, _, .cons r t, 0, k, x, e => by
    cases e
    exact ⟨_, rfl, r.1, r.2⟩
  | _, _, .cons r t, j + 1, k, x, e => kv_at t (j := j) e
/-- what is collected from a dict, and that the heap has grown -/
theorem collect_src {prog : Program} {w : World} {A : Around} {E : Value → Shared → Prop} {s : Shared} {T : String} {r d : Addr} {n : Nat} {P : Nat → Value → Prop} {OK : Heap → Prop} {R : List Value → Shared → Prop} (src : PySem.W.KdlSrc prog w T r d n P OK) (hand : A.handled = none) (ok : OK s.heap) (small : n ≤ sizeLine)
    (fin : ∀ (g : Heap) (tk : Nat) (acc : Array Value), (∀ b o, s.heap.get? b = some o → g.get? b = some o) → s.heap.objs.size ≤ g.objs.size → ItemsOf P acc n → R acc.toList { s with heap := g, toks := tk }) : wpAny (model prog w) A (collect (.ref r)) R E s := by
  have far := src.there _ ok
  unfold collect
  refine wpAny_bind (wpAny_runValue (codeAny_builtin entry_proto_collect' ?_))
  rw [Around.under_plainId PySem.F.plain_proto_collect _]
  show wpAny _ A.in1 (newList [] >>= fun l => again (.builtin "list.__iadd__" ⟨[l, .ref r], []⟩)) _ _ s
  refine wpAny_bind (wpAny_newObj_type (wpAny_pure ⟨plainId_quiet PySem.F.plain_list_iadd _, codeAny_builtin entry_list_iadd' ?_⟩))
  rw [Around.under_plainId PySem.F.plain_list_iadd _]
  have here : (s.heap.push { cls := .type "list", data := .seq ([] : List Value).toArray }).get? s.heap.objs.size = some { cls := .type "list", data := .seq #[] } := Heap.get?_push_size _ rfl
  show wpAny _ A.in1 (Builtin.List.listExtendWith (.ref s.heap.objs.size) (.ref r) (.ref s.heap.objs.size)) _ _ _
  refine wpAny_mono (PySem.W.kdl_extend (A := A) (s := { s with heap := s.heap.push { cls := .type "list", data := .seq ([] : List Value).toArray } })
    (R := fun q s2 => ∃ (g : Heap) (tk : Nat) (acc : Array Value) (c : Nat), q = .ok (.ret (.ref s.heap.objs.size)) ∧ s2 = { s with heap := g, toks := tk } ∧ (∀ b o, s.heap.get? b = some o → g.get? b = some o) ∧
      g.get? s.heap.objs.size = some { cls := .type "list", dict := none, data := .seq acc c, slots := #[] } ∧ ItemsOf P acc n)
    src hand (src.keep _ _ ok fun _ _ _ e => Heap.get?_push_of_some _ e) s.heap.objs.size (Nat.ne_of_gt far.1) (Nat.ne_of_gt far.2) (.ref s.heap.objs.size) 0 here
    (fun g tk acc c k1 k2 k3 => ⟨g, tk, acc, c, rfl, rfl, fun b o e => k1 b o (Nat.ne_of_lt (Heap.lt_size e)) (Heap.get?_push_of_some _ e), k2, k3⟩) small) (fun f s2 x => ?_) fun e s2 x => ?_
  · cases f with
    | done v =>
      obtain ⟨g, tk, acc, c, e, rfl, k1, k2, k3⟩ := x
      cases e
      show wpAny _ A (load s.heap.objs.size >>= _) _ _ _
      exact wpAny_bind (wpAny_load k2 (wpAny_pure (fin g tk acc k1 (Nat.le_of_lt (Heap.lt_size k2)) k3)))
    | again v =>
      refine ⟨x.1, codeAny_mono x.2 fun q s3 y => ?_⟩
      obtain ⟨g, tk, acc, c, rfl, rfl, k1, k2, k3⟩ := y
      show wpAny _ A (load s.heap.objs.size >>= _) _ _ _
      exact wpAny_bind (wpAny_load k2 (wpAny_pure (fin g tk acc k1 (Nat.le_of_lt (Heap.lt_size k2)) k3)))
  · obtain ⟨_, _, _, _, e2, _⟩ := x
    cases e2
section
variable {X : Cx}
theorem cr_sortD (hc : X.calm = true) (hu : X.A.units + 64 < cLine) : CallR X (.builtin "sorted") (fun xs H Q => ∃ a kvs, xs = [V.ref a] ∧ Rd H a (.dK kvs) ∧ (∀ e ∈ kvs, ∃ n, e.1 = Sum.inr n) ∧ ∀ p, H p = none → Q (.ref p) (upd H p (.lst ((sortK (kvs.map fun e => kS e.1)).map V.str)))) := by
  intro pins s σ H xs us Q I r ⟨a, kvs, ea, rd, hk, q⟩
  subst ea
  obtain ⟨u, rfl, ru⟩ := Vals.one r
  cases ru
  obtain ⟨z, hd, vs, rel, dd⟩ := dk_rd I.hok rd
  obtain ⟨ep, hat⟩ := dd.dictAt
  have lenv : vs.length = kvs.length := by
    have rel' : KV kvs vs := rel
    unfold KV at rel'
    exact rel'.length.symm
  refine Calls.call_function_entry kind_sorted plain_sorted entry_sorted (args_sorted1 _) ?_
  unfold Builtin.«sorted»
  refine wpAny_bind (m := checkCount "sorted" 1 1 _) (wpAny_pure (wpAny_bind (collect_src (A := X.A.in1) (PySem.W.kdl_dict (knd := mixKind X.prog X.w) (kvs := vs) (ep := ep) hd) (I.ok.hd hc) hat (by rw [lenv]; exact z) fun h1 tk acc k1 hp io => ?_)))
  obtain ⟨al, ai⟩ := io
  have al' : acc.toList.length = kvs.length := by rw [Array.length_toList, al, lenv]
  have each : PySem.W.EachIs (fun v x => ∃ t, v = Value.str x t) acc.toList (kvs.map fun e => kS e.1) := by
    refine eachIs_of (by rw [List.length_map, al']) fun j v e => ?_
    obtain ⟨k, x, hv, hi⟩ := ai j v (by rw [← Array.getElem?_toList]; exact e)
    obtain ⟨p, hp, e1, _⟩ := kv_at rel hv
    obtain ⟨n, en⟩ := hk p (List.mem_of_getElem? hp)
    refine ⟨kS p.1, by rw [List.getElem?_map, hp]; rfl, ?_⟩
    have hi : keyIs k v = true := hi
    have e1 : p.1 = k := e1
    rcases keyIs_shape hi with ⟨i, t, e2, e3⟩ | ⟨y, t, e2, e3⟩
    · rw [en, e2] at e1
      cases e1
    · refine ⟨t, ?_⟩
      rw [e3, e1, e2]
      rfl
  have vl : acc.toList.length ≤ sizeLine := by rw [al']; exact z
  refine wpAny_bind (wpAny_newList ?_ vl)
  have at1 : (h1.push (seqObj "list" acc.toList.toArray 0)).get? h1.objs.size = some (seqObj "list" acc.toList.toArray 0) := Heap.get?_push_size _ rfl
  have er : PySem.W.EachIs (fun v x => ∃ as, Reads (h1.push (seqObj "list" acc.toList.toArray 0)) v (PyData.str x) as ∧ h1.objs.size ∉ as) acc.toList (kvs.map fun e => kS e.1) := each.mono fun v x ⟨t, e⟩ => by
    rw [e]
    exact ⟨[], .str x t, List.not_mem_nil⟩
  refine wpAny_bind (wpAny_holding (PySem.W.list_sort_data (A := X.A.in1) (s := { s with heap := h1.push (seqObj "list" acc.toList.toArray 0), toks := tk }) at1 each er (PySem.W.AllAlike.of fun _ _ => rfl) (PySem.W.Sortable.others fun _ => ⟨fun z => (nomatch z), fun _ z => (nomatch z)⟩)
    (by rw [List.length_map]; exact z) (fun x _ => by show X.A.units + 1 + 1 + 0 < cLine; omega) fun out hlen eo => ?_))
  obtain ⟨c, hc2⟩ := sortedHeap_at (vs := acc.toList) (out := out.toArray) at1
  have keep : ∀ b u, s.heap.get? b = some u → (sortedHeap (h1.push (seqObj "list" acc.toList.toArray 0)) h1.objs.size acc.toList out.toArray).get? b = some u := fun b u e => by
    have q := k1 b u e
    have lt := Heap.lt_size q
    rw [sortedHeap_old (Nat.ne_of_lt lt) (by rw [size_push']; exact Nat.lt_succ_of_lt lt)]
    exact Heap.get?_push_of_some _ q
  have hn : H h1.objs.size = none := I.hok.fresh hp
  have rv : Vals ((sortK (kvs.map fun e => kS e.1)).map V.str) out := each_vals eo
  have hl2 : ((sortK (kvs.map fun e => kS e.1)).map V.str).length ≤ sizeLine := by
    rw [List.length_map]
    unfold sortK
    rw [(List.mergeSort_perm _ _).length_eq, List.length_map]
    exact z
  refine wpAny_pure ⟨_, rfl, .ref h1.objs.size, _, I.laid (t' := tk) (o := .lst ((sortK (kvs.map fun e => kS e.1)).map V.str)) keep hp ⟨hl2, out, c, rv, by rw [← hc2]⟩, rfl, q _ hn⟩
end
/-! ### by data -/
def keysE (es : Ents) : List Str := es.map (·.1)
def fSortD : FL := fun ds R => ∃ es : Ents, ds = [.p (.dict (entsD es))] ∧ R (.p (.list ((sortK (keysE es)).map .str)))
theorem rpE_keys {K : PySem.W.Frag} {H : Hp} : ∀ {es : Ents} {kvs : List (Key × V)}, RpE K H es kvs → (∀ e ∈ kvs, ∃ n, e.1 = Sum.inr n) ∧ (kvs.map fun e => kS e.1) = keysE es
  | [], kvs, h => by
    rw [show kvs = [] from h]
    exact ⟨fun _ m => absurd m List.not_mem_nil, rfl⟩
  | (n, d) :: es, _, ⟨v, q, e, h, t⟩ => by
    subst e
    obtain ⟨h1, h2⟩ := rpE_keys t
    refine ⟨fun x m => ?_, ?_⟩
    · rcases List.mem_cons.mp m with z | z
      · rw [z]; exact ⟨n, rfl⟩
      · exact h1 x z
    · rw [List.map_cons, h2]; rfl
section
variable {X : Cx}
theorem cd_sortD (hc : X.calm = true) (hu : X.A.units + 64 < cLine) : CallR X (.builtin "sorted") (upC (Cx.ky X) fSortD) := CallR.imp (cr_sortD hc hu) fun xs H Q ⟨ds, R, P, dm, r, ⟨es, e, h⟩, k⟩ => by
  subst e
  obtain ⟨v, rfl, a, kvs, rfl, q, nw, ra⟩ := rvA1 r
  obtain ⟨h1, h2⟩ := rpE_keys (rpK_E.mp ra)
  refine ⟨a, kvs, rfl, .inl (hide_f q).2, h1, fun p hn => ?_⟩
  rw [h2]
  exact k _ _ (.p (.list ((sortK (keysE es)).map .str))) (Ext.new hn) (new_lst dm hn (rpA_txt _) (nP_strs _)) h
end
/-- d[k], there -/
def dDGet (td tk : TD) : TD := fun δ R => td δ fun d => asP d fun y => ∃ es : Ents, y = .dict (entsD es) ∧ tk δ fun k => asS k fun n => ∃ z, getE es n = some z ∧ R (.p z)
section
variable {X : Cx} {e o i : Expr} {te td tk : TD} {pos p : Pos}
theorem de_dgetD (hu : X.A.units + 1 < cLine) (hd : PE X o (up (Cx.ky X) td)) (hk : PE X i (up (Cx.ky X) tk)) (hs : NoSl i := by exact fun _ _ => rfl) : PE X (.Subscript o i pos) (up (Cx.ky X) (dDGet td tk)) := by
  refine PE.imp (pe_dget hu hd hk hs) fun σ H Q ⟨δ, R, cc, L, s, h, k⟩ => ⟨δ, _, cc, L, s, h, fun v H1 d x1 r1 h1 => ?_⟩
  obtain ⟨y, rfl, es, rfl, h2⟩ := asP_of h1
  refine ⟨δ, _, cc, L, s.on x1, h2, fun v2 H2 d2 x2 r2 h3 => ?_⟩
  obtain ⟨n, rfl, z, hz, h4⟩ := asS_of h3
  obtain ⟨a, kvs, rfl, q, nw, ra⟩ := r1.ext (x2.hide _)
  obtain ⟨y, e, ry⟩ := (rpK_E.mp ra).val.2 z hz
  refine ⟨a, y, rfl, ?_, k y H2 (.p z) (x1.trans x2) ry h4⟩
  rw [show v2 = .str n from r2, ← e]
  exact .inl ⟨kvs, .inr n, .inl (hide_f q).2, rfl, rfl⟩
/-! {k: v, ..} with text keys -/
def dPairs : List (TD × TD) → Dn → (Ents → Prop) → Prop
  | [], _, R => R []
  | (tk, tv) :: r, δ, R => tk δ fun k => asS k fun n => tv δ fun v => asP v fun z => dPairs r δ fun es => R ((n, z) :: es)
def mergeE (es more : Ents) : Ents := more.foldl (fun acc e => putE acc e.1 e.2) es
def dDispS (ps : List (TD × TD)) : TD := fun δ R => dPairs ps δ fun es => es.length ≤ 15 ∧ R (.p (.dict (entsD (mergeE [] es))))
theorem RpE.merge {K : PySem.W.Frag} {H : Hp} : ∀ {more : Ents} {mkvs : List (Key × V)} {es : Ents} {kvs : List (Key × V)}, RpE K H more mkvs → RpE K H es kvs → RpE K H (mergeE es more) (mergeK kvs mkvs)
  | [], mkvs, es, kvs, h, g => by rw [show mkvs = [] from h]; exact g
  | (n, d) :: more, _, es, kvs, ⟨v, q, e, h, t⟩, g => by
    subst e
    exact RpE.merge (more := more) (mkvs := q) (es := putE es n d) (kvs := putK kvs (.inr n) v) t (g.put h)
theorem up_pairs {κ : Ky} {P : Addr → Bool} : ∀ {ps : List (TD × TD)} {σ : Sg} {H : Hp} {Q : List (V × V) → Hp → Prop} {δ : Dn} {c : Sc} {L : Addr → Bool} {R : Ents → Prop}, ES κ c H L δ σ → dPairs ps δ R →
    (∀ kvs H' es, Ext H H' → RpE κ.K (hide (oor c.P L) H') es kvs → R es → Q (kvs.map fun kv => (kV kv.1, kv.2)) H') → tPairs (ps.map fun p => (up κ p.1, up κ p.2)) σ H Q
  | [], σ, H, Q, δ, c, L, R, s, h, k => k [] H [] (Ext.refl H) rfl h
  | (tk, tv) :: ps, σ, H, Q, δ, c, L, R, s, h, k => by
    refine ⟨δ, _, c, L, s, h, fun v H1 d x1 r1 h1 => ?_⟩
    obtain ⟨n, rfl, h2⟩ := asS_of h1
    refine ⟨δ, _, c, L, s.on x1, h2, fun v2 H2 d2 x2 r2 h3 => ?_⟩
    obtain ⟨z, rfl, h4⟩ := asP_of h3
    refine up_pairs (P := P) ((s.on x1).on x2) h4 fun kvs H3 es x3 r3 h5 => ?_
    have ev : v = .str n := r1
    subst ev
    exact k ((.inr n, v2) :: kvs) H3 ((n, z) :: es) (x1.trans (x2.trans x3)) ⟨v2, kvs, rfl, Rp.ext (x3.hide _) r2, r3⟩ h5
theorem ES.newPriv {κ : Ky} {c : Sc} {H : Hp} {L : Addr → Bool} {δ : Dn} {σ : Sg} {D : Addr} (s : ES κ c H L δ σ) (nD : H D = none) (o : HO) : ES κ c (upd H D o) (plus L D) δ σ ∧ Ext (hide (oor c.P L) H) (hide (oor c.P (plus L D)) (upd H D o)) := by
  have LD : L D = false := by
    cases q : L D with
    | false => rfl
    | true => exact absurd nD (s.ldom D q).1
  have H0D : c.H0 D = none := s.ext.none nD
  have xD : Ext (hide (oor c.P L) H) (hide (oor c.P (plus L D)) (upd H D o)) := fun a u e => by
    obtain ⟨p, h⟩ := hide_f e
    have ne : a ≠ D := ne_of_none h nD
    exact .inl (hide_t (by rw [oor_ne ne]; exact p) (by rw [upd_ne ne]; exact h))
  have ne_ : ∀ {a : Addr} {u : HO}, H a = some u → a ≠ D := fun h => ne_of_none h nD
  refine ⟨⟨s.len, fun i d e => ?_, fun i xs e => ?_, s.sep, s.psys, s.pdom, fun a e => ?_, s.ext.trans (Ext.new nD), s.kept.ext xD, s.ods.mono (fun _ _ e => ⟨e, rfl⟩) (fun b u l h _ => ⟨plus_of l, by rw [upd_ne (ne_ h)]; exact h⟩) xD, s.mp⟩, xD⟩
  · obtain ⟨v, q1, q2⟩ := s.val i d e
    exact ⟨v, q1, q2.ext xD⟩
  · obtain ⟨a, ys, q1, q2, q3, q4⟩ := s.own i xs e
    exact ⟨a, ys, q1, plus_of q2, ⟨by rw [upd_ne (ne_ q3.at_)]; exact q3.at_, q3.np⟩, q4.ext xD⟩
  · by_cases ha : a = D
    · rw [ha, upd_same]
      exact ⟨Option.some_ne_none _, .inl H0D⟩
    · rw [plus_ne ha] at e
      rw [upd_ne ha]
      exact s.ldom a e
theorem de_dispS {keys : List (Option Expr)} {values : List Expr} {ps : List (TD × TD)} (h : PPs X pos keys values (ps.map fun p => (up (Cx.ky X) p.1, up (Cx.ky X) p.2))) (hall : keys.all (·.isSome) = true := by rfl) (hl : keys.length = values.length := by rfl) (h0 : keys ≠ [] := by exact fun z => by cases z)
    (h15 : keys.length ≤ 15 := by decide) : PE X (.Dict keys values pos) (up (Cx.ky X) (dDispS ps)) := by
  refine PE.imp (pe_disp h hall hl h0 h15) fun σ H Q ⟨δ, R, c, L, s, h, k⟩ => ?_
  intro p np
  obtain ⟨s1, xD⟩ := s.newPriv np (.dK [])
  refine up_pairs (P := c.P) s1 h fun kvs H2 es x2 r2 ⟨hz, h2⟩ => ?_
  have hp : H2 p = some (.dK []) := x2.keep upd_same fun ⟨_, _, z, _⟩ => by cases z
  refine ⟨hp, kvs, rfl, by rw [← r2.len]; exact hz, ?_⟩
  have eh : hide (oor c.P (plus L p)) (upd H2 p (.dK (mergeK [] kvs))) = hide (oor c.P (plus L p)) H2 := hide_same oor_plus
  have off : oor c.P L p = false := by
    refine oor_f.mpr ⟨?_, ?_⟩
    · cases q : c.P p with
      | false => rfl
      | true => exact absurd (s.ext.none np) (s.pdom p q)
    · cases q : L p with
      | false => rfl
      | true => exact absurd np (s.ldom p q).1
  have rr : RpE (Cx.ky X).K (hide (oor c.P L) (upd H2 p (.dK (mergeK [] kvs)))) (mergeE [] es) (mergeK [] kvs) := by
    have : RpE (Cx.ky X).K (hide (oor c.P (plus L p)) (upd H2 p (.dK (mergeK [] kvs)))) (mergeE [] es) (mergeK [] kvs) := by
      rw [eh]
      exact RpE.merge r2 (show RpE _ _ [] [] from rfl)
    exact this.ext (hide_less _ fun b z => by
      unfold oor at z ⊢
      rw [Bool.or_eq_true] at z ⊢
      exact z.imp id fun z => plus_of z)
  refine k (.ref p) _ (.p (.dict (entsD (mergeE [] es)))) (fun b u e => ?_) ⟨p, _, rfl, hide_t off upd_same, (fun ⟨_, _, z, _⟩ => by cases z), rpK_E.mpr rr⟩ h2
  have ne : b ≠ p := ne_of_none e np
  rw [upd_ne ne]
  exact x2 b u (by rw [upd_ne ne]; exact e)
/-! ### None asked; truth of texts; what is never reached -/
def isN (z : PyData) : Bool := match z with | .none => true | _ => false
def fNotN : F2 := fun d e R => asP d fun z => e = .p .none ∧ R (.p (.bool (!isN z)))
def fIsN : F2 := fun d e R => asP d fun z => e = .p .none ∧ R (.p (.bool (isN z)))
theorem rp_isN {K : PySem.W.Frag} {H : Hp} {z : PyData} {v : V} (h : Rp K H z v) : decide (v = .non) = isN z := by
  cases z with
  | none => rw [show v = .non from h]; rfl
  | bool b => rw [show v = .bl b from h]; rfl
  | int i => rw [show v = .int i from h]; rfl
  | str x => rw [show v = .str x from h]; rfl
  | list _ => obtain ⟨a, xs, e, _⟩ := h; rw [e]; rfl
  | tuple _ => obtain ⟨a, xs, e, _⟩ := h; rw [e]; rfl
  | dict _ => obtain ⟨a, xs, e, _⟩ := h; rw [e]; rfl
theorem od_notN : OpR X (compareOp .IsNot) (upO (Cx.ky X) fNotN) := OpR.imp op_notN fun x y H Q ⟨d, e, R, P, dm, r1, r2, h, k⟩ => by
  obtain ⟨z, rfl, rfl, h2⟩ := asP_of h
  exact ⟨r2, k _ H (.p (.bool (!isN z))) (Ext.refl H) (by rw [rp_isN r1]; rfl) h2⟩
theorem od_isN : OpR X (compareOp .Is) (upO (Cx.ky X) fIsN) := OpR.imp op_isN fun x y H Q ⟨d, e, R, P, dm, r1, r2, h, k⟩ => by
  obtain ⟨z, rfl, rfl, h2⟩ := asP_of h
  exact ⟨r2, k _ H (.p (.bool (isN z))) (Ext.refl H) (by rw [rp_isN r1]; rfl) h2⟩
/-- if s: for a text -/
def dTruS (te : TD) : TB := fun δ R => te δ fun d => asS d fun x => x.length ≤ sizeLine ∧ R (!decide (x.length = 0))
theorem dt_truS (he : PE X e (up (Cx.ky X) te)) (ht : ∀ whole, isTrue e X.env whole = (do let v ← whole; standAt e.pos; holding [v] (truthy v)) := by intro _; rfl) : PT X e (upT (Cx.ky X) (dTruS te)) := by
  refine PT.imp (pt_truth he ht) fun σ H Q ⟨δ, R, c, L, es, h, k⟩ => ⟨δ, _, c, L, es, h, fun v H1 d x1 r1 h1 => ?_⟩
  obtain ⟨x, rfl, hz, h2⟩ := asS_of h1
  have ev : v = .str x := r1
  subst ev
  refine ⟨!decide (x.length = 0), ⟨hz, ?_⟩, k _ H1 x1 h2⟩
  cases q : decide (x.length = 0) with
  | true => rw [of_decide_eq_true q]; rfl
  | false =>
    have := of_decide_eq_false q
    show true = _
    exact (bne_iff_ne.mpr (by omega)).symm
def dNever : TDS := fun _ _ => False
theorem ds_never {st : Stmt} : PS X st (upS (Cx.ky X) dNever) := PS.imp ps_never fun D σ H ⟨δ, E, c, L, es, h, f⟩ => h
theorem dss_never {sts : List Stmt} : PSs X sts (upS (Cx.ky X) dNever) := PSs.imp pss_never fun D σ H ⟨δ, E, c, L, es, h, f⟩ => h
end
end MR

/-! Small words for houses. -/
namespace MR
open PySem PySem.Spec PyProof.Rows L2
theorem u66 {k : Nat} {A : Around} (hr : Room k A) : A.units + 66 < cLine := by
  have := hr.un
  omega
theorem u64 {k : Nat} {A : Around} (hr : Room k A) : A.units + 64 < cLine := by
  have := hr.un
  omega
theorem kok_plain {κ : Ky} : KOk κ (gPlain []) (fun ds _ => ds) := fun H ds ks vs zs r _ => by
  unfold gPlain
  rw [List.append_nil]
  exact r
theorem kok_app {κ : Ky} : KOk κ (fun vs zs => vs ++ zs) (fun ds ks => ds ++ ks) := fun H ds ks vs zs r rz => r.app rz
theorem pvS {X : Cx} {p : Pos} {st : Stmt} (h1 : X.env.scope = defScope st) (h2 : X.N = [("self" : Str)]) (hl : (defScope st).names.lookup ("self" : Str) = some PySem.NameKind.local := by rfl) : PE X (.Name "self" p) (tVar 0) :=
  pv 0 (by rw [h2]; rfl) (by rw [h1]; exact Or.inl hl) (by decide) (by decide)
section
variable {X : Cx} {k : Nat} {f C : Addr} {fd : FuncData} {ps ks : List Str} {m x : Str} {pos apos npos spos : Pos} {e : Expr} {es : List Expr} {kws : List Keyword} {i : Nat} {g : FH} {gD : List DV → List DV → List DV} {ts tk : TL}
  {gg : List Value → List Value → List Value} {gV : List V → List V → List V}
theorem ds_methKE {pl : Sem Bool} (hv : PE X (.Name x npos) (tVar i)) (nm : m ≠ "_entries") (nm2 : m ≠ "memory") (c : Cls X.K C) (hm : Meth X.K C m f) (F : FnG X.prog X.w X.K X.mg X.base CX0 k f fd ps (spH (Cx.ky X) g)) (gd : X.A.guards = some []) (hr : Room k X.A)
    (hb : KBinds X.K fd ps ks gg gV) {E : XK} (hx : Passes CX0 X E) (hk : KOk (Cx.ky X) gV gD) (ha : PA X (e :: es) (upA (Cx.ky X) ts)) (hkw : ∃ t, PK X kws t ∧ ∀ σ H Q, upA (Cx.ky X) tk σ H Q → t σ H Q)
    (hall : (backToKw pos (keywordEach kws X.env)).all (·.1.isSome) = true := by rfl) (hks : (backToKw pos (keywordEach kws X.env)).filterMap (·.1) = ks := by rfl)
    (hst : starEach (e :: es) X.env = (false, eval e X.env) :: starEach es X.env := by rfl) (hpl : ((backTo pos (starEach (e :: es) X.env)).any (·.1) || (backToKw pos (keywordEach kws X.env)).any (·.1.isNone)) = false := by rfl)
    (ht : eval (.Call (.Attribute (.Name x npos) m apos) (e :: es) kws pos) X.env = (do
      let ov ← eval (.Name x npos) X.env
      standAt apos.atName
      let (f, first) ← holding [ov] (getMethod ov m pl)
      callWith pos f first (backTo pos (starEach (e :: es) X.env)) (backToKw pos (keywordEach kws X.env))) := by rfl)
    (hs : swapsWith (.Call (.Attribute (.Name x npos) m apos) (e :: es) kws pos) none spos.line X.env = pure false := by rfl) :
    PS X (.Expr (.Call (.Attribute (.Name x npos) m apos) (e :: es) kws pos) spos) (upS (Cx.ky X) (dMeth C i g gD ts tk)) := by
  obtain ⟨t, h1, h2⟩ := hkw
  exact ds_methK (pl := pl) hv nm nm2 c hm F gd hr hb hx hk ha h1 h2 hall hks hst hpl ht hs
end
end MR

/-! len of a set of keys; keyword-only arguments. -/
namespace MR
open PySem PySem.Spec PyProof.Rows L2
/-- len of a set of keys -/
def fLenK : FL := fun ds R => ∃ ks : List Key, ds = [.set ks] ∧ ks.Nodup ∧ R (.p (.int ks.length))
theorem nodup_len {α : Type} : ∀ {xs ys : List α}, xs.Nodup → ys.Nodup → (∀ x, x ∈ xs ↔ x ∈ ys) → xs.length = ys.length := fun h1 h2 h => ((List.perm_ext_iff_of_nodup h1 h2).mpr h).length_eq
theorem nodup_some {ks : List Key} (h : ks.Nodup) : (ks.map some).Nodup := List.nodup_iff_pairwise_ne.mpr (List.pairwise_map.mpr ((List.nodup_iff_pairwise_ne.mp h).imp fun n e => n (Option.some.inj e)))
theorem cd_lenK {X : Cx} : CallR X (.builtin "len") (upC (Cx.ky X) fLenK) := by
  intro pins s σ H xs us Q I rx ⟨ds, R, P, dm, r, ⟨ks, e, nd, h⟩, kk⟩
  subst e
  obtain ⟨v, q, e1, ⟨a, n, ev, ha⟩, e2⟩ := r
  have e3 : q = [] := e2
  subst e1 e3 ev
  obtain ⟨u, rfl, ru⟩ := Vals.one rx
  obtain rfl : u = Value.ref a := ru
  obtain ⟨ob, el, ep, tb, ho, hx, hd, g, nd2, hm, hb, hf, hn, _⟩ := setG_get I (show H a = some (SetGO X.w a (hasK ks) n) from hide_some ha)
  have en : el.size = ks.length := by
    have e := nodup_len nd2 (nodup_some nd) fun x => by
      constructor
      · intro m
        obtain ⟨y, hy, rfl⟩ := List.mem_map.mp m
        obtain ⟨k, h1, h2⟩ := g y hy
        rw [h1]
        exact List.mem_map.mpr ⟨k, hasK_iff.mp ((hm k).mpr (by rw [← h1]; exact m)), rfl⟩
      · intro m
        obtain ⟨k, hk, rfl⟩ := List.mem_map.mp m
        exact (hm k).mp (hasK_iff.mpr hk)
    rw [List.length_map, List.length_map, Array.length_toList] at e
    exact e
  refine call_len_set ho hx hd hf ?_ ⟨.int ks.length, H, I.tok _, ⟨_, by rw [en]⟩, kk _ H (.p (.int ks.length)) (Ext.refl H) rfl h⟩
  have : el.size < 4096 := hb
  omega
/-! ### keyword-only arguments: n by place, m by name -/
def gK {α : Type} (n m : Nat) (us ws : List α) : List α := if us.length = n ∧ ws.length = m then us ++ ws else []
theorem gK_len {α : Type} {n m k : Nat} {us ws : List α} (h : (gK n m us ws).length = k + 1) : us.length = n ∧ ws.length = m := by
  unfold gK at h
  by_cases q : us.length = n ∧ ws.length = m
  · exact q
  · rw [if_neg q] at h; cases h
theorem gK_of {α : Type} {n m : Nat} {us ws : List α} (h1 : us.length = n) (h2 : ws.length = m) : gK n m us ws = us ++ ws := by
  unfold gK
  rw [if_pos ⟨h1, h2⟩]
theorem kok_gK {κ : Ky} {n m : Nat} : KOk κ (gK n m) (gK n m) := fun H ds ks vs zs r1 r2 => by
  unfold gK
  rw [← r1.len, ← r2.len]
  split
  · exact r1.app r2
  · exact rfl
theorem vals_gK {n m : Nat} {vs zs : List V} {us ws : List Value} (r1 : Vals vs us) (r2 : Vals zs ws) : Vals (gK n m vs zs) (gK n m us ws) := by
  unfold gK
  rw [r1.length, r2.length]
  split
  · exact r1.append r2
  · exact .nil
theorem kbinds_mk {K : PySem.W.Frag} {x qual : Str} {st : Stmt} {f : Addr} {fd : FuncData} {ps ks : List Str} {n m k : Nat} (F : Fun K x qual st f fd) (hl : ps.length = k + 1)
    (h : ∀ (kV doc pm : Value) (an : Option Addr) (cdv ct : Value) (us ws : List Value), us.length = n → ws.length = m → bindArgs (PySem.W.fnOf x qual (defArgs st) (defBody st) (defScope st) .none kV doc pm an cdv ct) ⟨us, ks.zip ws⟩ = pure (ps.zip (us ++ ws))) : KBinds K fd ps ks (gK n m) (gK n m) := by
  obtain ⟨oc, od, kV, doc, pm, an, cdv, ct, osl, rfl, lk, hcd⟩ := F.ex
  refine ⟨fun s us ws X hlen => ?_, vals_gK⟩
  rw [hl] at hlen
  obtain ⟨l1, l2⟩ := gK_len hlen
  rw [gK_of l1 l2]
  exact .of_eq (h kV doc pm an cdv ct us ws l1 l2)
end MR

/-! enumerate(a tuple). -/
namespace MR
open PySem PySem.Spec PyProof.Rows L2
open Sem (wp)
open AutoSeq1 (wpAny_loadPart')
set_option maxHeartbeats 1000000 in
theorem meets_enumU (l : Addr) (items : Array Value) (n : Nat) (dct : Option Addr) (sl : Array (Option Value)) :
    Meets (Builtin.«enumerate.__new__» ⟨[.type "enumerate", .ref l], []⟩) (fun _ R s => s.heap.get? l = some { cls := .type "tuple", dict := dct, data := .seq items n, slots := sl } ∧
      R (.ok (.ret (.ref (s.heap.push { cls := .type "tuple_iterator", data := .fields #[.ref l, .int 0 0] }).objs.size)))
        { s with heap := (s.heap.push { cls := .type "tuple_iterator", data := .fields #[.ref l, .int 0 0] }).push { cls := .type "enumerate", data := .fields #[.none, .bool false, .ref s.heap.objs.size, rawInt 0, .none, .none] } }) :=
  .of_wp fun prog w A R s h => by
    obtain ⟨hp, g, d, tk, os⟩ := s; obtain ⟨hl, h⟩ := h
    have hsub := sub_enumerate
    have hL : Heap.IsTuple (Shared.heap ⟨hp, g, d, tk, os⟩) l items := ⟨_, hl, rfl, n, rfl⟩
    wp_walk using wpAny_loadPart' hl
    refine wpAny_stack_any fun st => wpAny_pure ?_
    split
    · rename_i c _ _ _ _ _
      cases (c == Value.type "enumerate")
      · wp_walk using wpAny_loadPart' hl, wpAny_pyIter_tuple hL
        exact ⟨_, rfl, h⟩
      · wp_walk using wpAny_loadPart' hl, wpAny_pyIter_tuple hL
        exact ⟨_, rfl, h⟩
    · wp_walk using wpAny_loadPart' hl, wpAny_pyIter_tuple hL
      exact ⟨_, rfl, h⟩
theorem call_enumU {prog : Program} {w : World} {A : Around} {E : Value → Shared → Prop} {s : Shared} {l : Addr} {items : Array Value} {Q : Value → Shared → Prop} (hL : s.heap.IsTuple l items)
    (h : ∀ h', IsEnum h' (s.heap.objs.size + 1) s.heap.objs.size 0 .none → h'.IsTupleIter s.heap.objs.size l 0 → h'.objs.size = s.heap.objs.size + 2 →
      (∀ b o, s.heap.get? b = some o → h'.get? b = some o) → Q (.ref (s.heap.objs.size + 1)) { s with heap := h' }) :
    wpAny (model prog w) A (call (.type "enumerate") [.ref l]) Q E s := by
  obtain ⟨⟨c, dct, dt, sl⟩, hl, hc, n, hd⟩ := hL
  replace hc : c = .type "tuple" := hc
  replace hd : dt = .seq items n := hd
  subst hc hd
  refine callType_new F.called_enumerate (by decide) (F.typeCall_enumerate_1 _) (F.newCall_enumerate_1 _) (fun obj => F.args_object_init_2 obj _) F.entry_enumerate_new
    (meets_enumU l items n dct sl) ⟨hl, ?_⟩
  have hz : (s.heap.push { cls := .type "tuple_iterator", data := .fields #[.ref l, .int 0 0] }).objs.size = s.heap.objs.size + 1 := Heap.size_push ..
  show _ ∧ _
  rw [hz]
  have he : IsEnum ((s.heap.push { cls := .type "tuple_iterator", data := .fields #[.ref l, .int 0 0] }).push
      { cls := .type "enumerate", data := .fields #[.none, .bool false, .ref s.heap.objs.size, rawInt 0, .none, .none] }) (s.heap.objs.size + 1) s.heap.objs.size 0 .none := by
    have := Heap.get?_push_size (s.heap.push { cls := .type "tuple_iterator", data := .fields #[.ref l, .int 0 0] })
      (o := { cls := .type "enumerate", data := .fields #[.none, .bool false, .ref s.heap.objs.size, rawInt 0, .none, .none] }) rfl
    rw [hz] at this; exact this
  refine ⟨⟨_, he, rfl⟩, h _ he ⟨_, Heap.get?_push_of_some _ (Heap.get?_push_size _ rfl), rfl, rfl⟩ (by rw [Heap.size_push, hz]) fun b o x => Heap.get?_push_of_some _ (Heap.get?_push_of_some _ x)⟩
/-- a tuple's items, each with its place in a new pair -/
def IteU (K : PySem.W.Frag) (a : Addr) (n : Nat) : It :=
  ⟨fun i H => ∃ (xs : List V) (x : V), SqT K H a xs ∧ xs.length = n ∧ xs[i]? = some x, fun i H v H' => ∃ T x, v = .ref T ∧ H T = none ∧ H' = upd H T (.tup [.int (i : Nat), x]) ∧ ∀ xs, SqT K H a xs → xs[i]? = some x, fun i H => ∃ xs : List V, SqT K H a xs ∧ xs.length = n ∧ n ≤ i⟩
theorem turn_enumU {P : Program} {w : World} {K : PySem.W.Frag} {elts : List Expr} {kk : Nat} {tpos : Pos} (a e it : Addr) (n : Nat) :
    Turn P w K (.Tuple elts kk tpos) (IteU K a n) [e, it] e (fun i h => i ≤ n ∧ (∃ old, IsEnum h e it ((i : Nat) : Int) old) ∧ h.IsTupleIter it a i ∧ e ≠ it) where
  mem := by simp
  obj := fun i h st b hb => by
    obtain ⟨_, ⟨old, he⟩, ⟨o, ho, hc, hd⟩, _⟩ := st
    have e' : b = e ∨ b = it := by simpa using hb
    rcases e' with z | z
    · rw [z]; exact ⟨_, he, fun v q => nomatch q⟩
    · rw [z]; exact ⟨o, ho, fun v q => by rw [hd] at q; cases q⟩
  keep := fun i h h' st k => let ⟨hle, ⟨old, he⟩, hi, hne⟩ := st; ⟨hle, ⟨old, k e (by simp) _ he⟩, hi.at fun o q => k it (by simp) o q, hne⟩
  item := by
    intro X hP hw hK hc i pins s σ H E I hf st hg
    subst hP hw hK
    obtain ⟨hle, ⟨old, he⟩, hit, hne⟩ := st
    obtain ⟨xs, x, hq, hxn, hx⟩ := hg
    obtain ⟨its, rv, p, hz⟩ := I.tuple hq
    obtain ⟨u, hu, ru⟩ := rv.get hx
    have hel : e < s.heap.objs.size := Heap.lt_size he
    have hil : it < s.heap.objs.size := by obtain ⟨_, q, _⟩ := hit; exact Heap.lt_size q
    have pT : s.heap.IsTuple a its.toArray := p
    have ait : a ≠ it := fun z => by
      obtain ⟨o, ho, hc', _⟩ := hit
      obtain ⟨o', ho', hc2, _⟩ := pT
      rw [z, ho] at ho'
      cases ho'
      rw [hc'] at hc2
      exact absurd (Value.type.inj hc2) (by decide)
    have ae : e ≠ a := fun z => by
      obtain ⟨o', ho', hc2, _⟩ := pT
      have he' : s.heap.get? e = some _ := he
      rw [z, ho'] at he'
      cases he'
      exact absurd (Value.type.inj hc2) (by decide)
    have D := Draws.tuple (prog := X.prog) (w := X.w) (A := X.A.in1) (show X.A.in1.handled = none from I.ok.hd hc) it a ait its.toArray
    have hlt : i < its.toArray.size := by
      have := (List.getElem?_eq_some_iff.mp hu).1
      simpa using this
    refine wpAny_pyNext_enum_itemD D he ⟨hit, pT⟩ hlt hne (by simp [hne, ae]) fun v h' tk hP ho hit' hT hsz hk => ?_
    have hv : v = u := by
      have hP' : its.toArray[i]? = some v := hP
      rw [List.getElem?_toArray, hu] at hP'
      cases hP'
      rfl
    subst hv
    refine ⟨_, rfl, wpAny_letOwnedTupleGo_enum (s := { s with heap := h', toks := tk + 1 }) ho fun h'' he' sb => ?_⟩
    have hT2 : h''.get? s.heap.objs.size = some { cls := .type "tuple", data := .seq #[.int i tk, v] } := (sb.2 _ (Nat.ne_of_gt hel)).trans hT
    have new : ObjOk X.prog X.w (upd H s.heap.objs.size (.tup [.int (i : Nat), x])) h'' s.heap.objs.size (.tup [.int (i : Nat), x]) :=
      ⟨by show 2 ≤ sizeLine; decide, [.int i tk, v], .cons ⟨_, rfl⟩ (.cons ru .nil), ⟨_, hT2, rfl, _, rfl⟩⟩
    have I1 : Inv X pins σ (upd H s.heap.objs.size (.tup [.int (i : Nat), x])) { s with heap := h'', toks := tk + 1 } :=
      I.turnedNew (t' := tk + 1) (ch := [e, it]) (fun b ob hb q => (sb.2 b (fun z => hb (by simp [z]))).trans (hk b ob (fun z => hb (by simp [z])) (fun z => hb (by simp [z])) q)) hf (Nat.le_refl _) new
    refine ⟨.ref s.heap.objs.size, _, I1, rfl, ⟨_, x, rfl, I.hok.fresh (Nat.le_refl _), rfl, fun ys hy => by rw [I.tuple_inj hy hq]; exact hx⟩, ⟨by have := (List.getElem?_eq_some_iff.mp hx).1; omega, ⟨v, ?_⟩, hit'.1.at fun o q => (sb.2 it (Ne.symm hne)).trans q, hne⟩, fun b hb => ?_⟩
    · have e1 : ((i + 1 : Nat) : Int) = (i : Int) + 1 := by omega
      rw [e1]; exact he'
    · have hb' : b < s.heap.objs.size := by
        have e' : b = e ∨ b = it := by simpa using hb
        rcases e' with z | z
        · rw [z]; exact hel
        · rw [z]; exact hil
      rw [upd_ne (Nat.ne_of_lt hb')]
      exact (hf b hb).1
  done := by
    intro X hP hw hK hc i pins s σ H E I hf st hg
    subst hP hw hK
    obtain ⟨hle, ⟨old, he⟩, hit, hne⟩ := st
    obtain ⟨xs, hq, hxn, hx⟩ := hg
    obtain ⟨its, rv, p, hz⟩ := I.tuple hq
    have pT : s.heap.IsTuple a its.toArray := p
    have ait : a ≠ it := fun z => by
      obtain ⟨o, ho, hc', _⟩ := hit
      obtain ⟨o', ho', hc2, _⟩ := pT
      rw [z, ho] at ho'
      cases ho'
      rw [hc'] at hc2
      exact absurd (Value.type.inj hc2) (by decide)
    have D := Draws.tuple (prog := X.prog) (w := X.w) (A := X.A.in1) (show X.A.in1.handled = none from I.ok.hd hc) it a ait its.toArray
    have hi : its.toArray.size = i := by
      have := rv.length
      simp
      omega
    subst hi
    obtain ⟨f0, f1, f2, f3, f4, f5⟩ := hf it (by simp)
    exact wpAny_pyNext_enum_endD D he ⟨hit, pT⟩ fun h' eb => ⟨rfl, I.turned (t' := s.toks) (fun b o hb q => eb b o hb q) f0 f1 f3 f4 f5⟩
  self := fun A i s Q E st h => let ⟨_, ⟨_, he⟩, _⟩ := st; wpAny_pyIter_enum he h
def iEnumU (K : PySem.W.Frag) (ta : TA) : TI := fun σ H R => ta σ H fun vs H1 => ∃ a xs, vs = [.ref a] ∧ SqT K H1 a xs ∧ R (IteU K a xs.length) H1
theorem pi_enumU {X : Cx} {e : Expr} {ta : TA} {p pos tpos : Pos} {elts : List Expr} {kk : Nat} (hg : Gl X "enumerate") (hm : X.mg "enumerate" = none) (ha : PA X [e] ta) (hs : starEach [e] X.env = [(false, eval e X.env)] := by rfl) :
    PI X (.Tuple elts kk tpos) (.Call (.Name "enumerate" p) [e] [] pos) (iEnumU X.K ta) := by
  refine ⟨fun pins s σ H R I h => ?_⟩
  refine Call_ (ld_blt I hg hm boot_enumerate (PyProof.Rows.callWith_type1 (thn (ha.run pos pins s σ H _ I h) fun us s1 ⟨vs, H1, I1, r1, q1⟩ => ?_) hs rfl))
  obtain ⟨a, xs, ex, hq, q⟩ := q1
  subst ex
  cases r1 with
  | cons r rr =>
    cases rr
    cases r
    obtain ⟨its, rv, p', hz⟩ := I1.tuple hq
    refine call_enumU (show s1.heap.IsTuple a its.toArray from p') fun h' he hit hsz hk => wpAny_pyIter_enum he ?_
    have I2 : Inv X pins σ H1 { s1 with heap := h' } := I1.kept (t' := s1.toks) hk
    refine ⟨s1.heap.objs.size + 1, [s1.heap.objs.size + 1, s1.heap.objs.size], _, _, H1, rfl, I2, turn_enumU a (s1.heap.objs.size + 1) s1.heap.objs.size xs.length, ⟨Nat.zero_le _, ⟨.none, he⟩, hit, Nat.succ_ne_self _⟩, fun b hb => ?_, q⟩
    have e' : b = s1.heap.objs.size + 1 ∨ b = s1.heap.objs.size := by simpa using hb
    have hle : s1.heap.objs.size ≤ b := by
      rcases e' with z | z
      · rw [z]; exact Nat.le_add_right _ _
      · rw [z]; exact Nat.le_refl _
    exact I1.fpOk hle (I1.hok.fresh hle)
end MR

/-! enumerate of a tuple by data; three own lists in one statement; the truth of a list; returns of own lists. -/
namespace MR
open PySem PySem.Spec PyProof.Rows L2
def enumU (xs : List PyData) : List PyData := (List.range xs.length).map fun i => .tuple [.int (i : Nat), xs.getD i .none]
theorem enumU_len (xs : List PyData) : (enumU xs).length = xs.length := by
  unfold enumU
  rw [List.length_map, List.length_range]
theorem enumU_at {xs : List PyData} {i : Nat} {y : PyData} (h : xs[i]? = some y) : (enumU xs)[i]? = some (.tuple [.int (i : Nat), y]) := by
  have hi := (List.getElem?_eq_some_iff.mp h).1
  unfold enumU
  rw [List.getElem?_map, List.getElem?_range hi]
  show some (PyData.tuple [.int (i : Nat), xs.getD i .none]) = _
  rw [List.getD_eq_getElem?_getD, h]
  rfl
theorem itk_enumU {κ : Ky} {a : Addr} {ds : List PyData} : ItK κ (IteU κ.K a ds.length) (enumU ds) [.p (.tuple ds)] [.ref a] where
  go := fun H P' i _ r hi => by
    rw [enumU_len] at hi
    obtain ⟨v, r', e, ⟨a', xs, ev, hq, ha⟩, _⟩ := r
    cases e
    cases ev
    obtain ⟨x, e1, _⟩ := ha.get (List.getElem?_eq_getElem hi)
    exact ⟨xs, x, (hide_ext P' H).seqT hq, ha.len.symm, e1⟩
  stop := fun H P' i _ r hi => by
    rw [enumU_len] at hi
    obtain ⟨v, r', e, ⟨a', xs, ev, hq, ha⟩, _⟩ := r
    cases e
    cases ev
    exact ⟨xs, (hide_ext P' H).seqT hq, ha.len.symm, hi⟩
  yld := fun H P' i x H2 dm r hi hy => by
    obtain ⟨v, r', e, ⟨a', xs, ev, hq, ha⟩, _⟩ := r
    cases e
    cases ev
    obtain ⟨T, y, rfl, hT, rfl, f⟩ := hy
    obtain ⟨z, e1, e2⟩ := ha.back (f xs ((hide_ext P' H).seqT hq))
    exact ⟨_, enumU_at e1, Ext.new hT, ⟨T, [.int (i : Nat), y], rfl, SqT.of (fresh_at dm hT), ⟨_, _, rfl, rfl, _, _, rfl, e2.ext ((Ext.new hT).hide P'), rfl⟩⟩⟩
def dItEU (ta : TL) : TDI := fun δ R => ta δ fun ds => ∃ xs, ds = [.p (.tuple xs)] ∧ R (enumU xs)
theorem di_enumU {X : Cx} {e : Expr} {ta : TL} {p pos tpos : Pos} {elts : List Expr} {kk : Nat} (hg : Gl X "enumerate") (hm : X.mg "enumerate" = none) (ha : PA X [e] (upA (Cx.ky X) ta)) (hs : starEach [e] X.env = [(false, eval e X.env)] := by rfl) :
    PI X (.Tuple elts kk tpos) (.Call (.Name "enumerate" p) [e] [] pos) (upI (Cx.ky X) (dItEU ta)) := by
  refine PI.imp (pi_enumU hg hm ha hs) fun σ H R ⟨δ, R', c, L, es, h, k⟩ => ⟨δ, _, c, L, es, h, fun vs H1 ds x1 r1 h1 => ?_⟩
  obtain ⟨ys, rfl, h2⟩ := h1
  obtain ⟨v, rfl, rv⟩ := rvA1 r1
  obtain ⟨a, xs, e, q, ra⟩ := id rv
  subst e
  exact ⟨a, xs, rfl, (hide_ext _ _).seqT q, k _ H1 (enumU ys) [.p (.tuple ys)] [.ref a] x1 ⟨_, [], rfl, rv, rfl⟩ (by rw [← ra.len]; exact itk_enumU) h2⟩
/-- x, y, z = [], [], [] -/
def dPar3E (i j l : Nat) : TDS := fun E δ => E.nx (((δ.set i (.own [])).set j (.own [])).set l (.own []))
theorem ds_par3E {X : Cx} {i j l : Nat} {x y z : Str} {px py pz pt pos pa pb pc : Pos} {kt k2 pt2} (hc : X.calm = true) (hN : X.N.Nodup) (hi : X.N[i]? = some x) (hj : X.N[j]? = some y) (hl : X.N[l]? = some z) (hij : i ≠ j) (hil : i ≠ l) (hjl : j ≠ l)
    (hx : X.env.scope.names.lookup x = some .local) (hy : X.env.scope.names.lookup y = some .local) (hz : X.env.scope.names.lookup z = some .local)
    (hw : swappedStores [.Tuple [.Name x px, .Name y py, .Name z pz] kt pt] (.Tuple [.List [] pa, .List [] pb, .List [] pc] k2 pt2) X.env = pure (some [x, y, z]))
    (hs : swapsWithSole [.Tuple [.Name x px, .Name y py, .Name z pz] kt pt] (.Tuple [.List [] pa, .List [] pb, .List [] pc] k2 pt2) pos.line X.env = pure false := by rfl) :
    PS X (.Assign [.Tuple [.Name x px, .Name y py, .Name z pz] kt pt] (.Tuple [.List [] pa, .List [] pb, .List [] pc] k2 pt2) pos) (upS (Cx.ky X) (dPar3E i j l)) := by
  refine PS.imp (ps_par3 hc hN hi hj hl hij hil hjl hx hy hz (pa_cons (pe_lst pa_nil) (pa_cons (pe_lst pa_nil) (pa_cons (pe_lst pa_nil) pa_nil))) hw hs) fun D σ H ⟨δ, E, c, L, es, h, f⟩ => ?_
  refine ⟨by show 0 ≤ sizeLine; exact Nat.zero_le _, fun p hp => ⟨by show 0 ≤ sizeLine; exact Nat.zero_le _, fun q hq => ⟨by show 0 ≤ sizeLine; exact Nat.zero_le _, fun r hr => ⟨.ref p, .ref q, .ref r, rfl, ?_⟩⟩⟩⟩
  have es1 := es.own1 (Ext.new hp) hp ⟨upd_same, trivial⟩ (show RpA X.K _ [] [] from rfl) (i := i)
  have es2 := es1.own1 (Ext.new hq) hq ⟨upd_same, trivial⟩ (show RpA X.K _ [] [] from rfl) (i := j)
  have es3 := es2.own1 (Ext.new hr) hr ⟨upd_same, trivial⟩ (show RpA X.K _ [] [] from rfl) (i := l)
  exact f.nx _ _ _ _ es3 h
/-- the truth of a list: any in it -/
def dTruL (te : TD) : TB := fun δ R => te δ fun d => asL d fun xs => R (!xs.isEmpty)
theorem dt_truL {X : Cx} {e : Expr} {te : TD} (he : PE X e (up (Cx.ky X) te)) (ht : ∀ whole, isTrue e X.env whole = (do let v ← whole; standAt e.pos; holding [v] (truthy v)) := by intro _; rfl) : PT X e (upT (Cx.ky X) (dTruL te)) := by
  refine PT.imp (pt_truth he ht) fun σ H Q ⟨δ, R, c, L, es, h, k⟩ => ⟨δ, _, c, L, es, h, fun v H1 d x1 r1 h1 => ?_⟩
  obtain ⟨xs, rfl, h2⟩ := asL_of h1
  obtain ⟨a, vs, ev, q, ra⟩ := r1
  subst ev
  refine ⟨!xs.isEmpty, .inl ⟨vs, SqL.of ((hide_ext _ _).lst q).at_, ?_⟩, k _ H1 x1 h2⟩
  have := ra.len
  cases xs <;> cases vs <;> first | rfl | (cases this)
end MR

/-! Walks over enumerated tuples by invariants that know the place. -/
namespace MR
open PySem PySem.Spec PyProof.Rows L2
theorem enumU_split {xs : List PyData} {x : PyData} : enumU (xs ++ [x]) = enumU xs ++ [.tuple [.int (xs.length : Nat), x]] := by
  apply List.ext_getElem?
  intro i
  by_cases h : i < xs.length
  · rw [enumU_at (y := xs[i]) (by rw [List.getElem?_append_left h, List.getElem?_eq_getElem h]), List.getElem?_append_left (by rw [enumU_len]; exact h), enumU_at (List.getElem?_eq_getElem h)]
  · by_cases e : i = xs.length
    · subst e
      rw [enumU_at (y := x) (by rw [List.getElem?_append_right (Nat.le_refl _), Nat.sub_self]; rfl), List.getElem?_append_right (by rw [enumU_len]; exact Nat.le_refl _), enumU_len, Nat.sub_self]
      rfl
    · rw [List.getElem?_eq_none (by rw [enumU_len, List.length_append, List.length_singleton]; omega), List.getElem?_eq_none (by rw [List.length_append, enumU_len, List.length_singleton]; omega)]
def enumF (k : Nat) : List PyData → List PyData
  | [] => []
  | x :: xs => .tuple [.int (k : Nat), x] :: enumF (k + 1) xs
theorem enumF_get : ∀ (xs : List PyData) (k i : Nat), (enumF k xs)[i]? = (xs[i]?).map fun x => PyData.tuple [.int ((k + i : Nat) : Int), x]
  | [], k, i => by simp [enumF]
  | x :: xs, k, 0 => rfl
  | x :: xs, k, i + 1 => by
    show (enumF (k + 1) xs)[i]? = (xs[i]?).map _
    rw [enumF_get xs (k + 1) i, show k + 1 + i = k + (i + 1) by omega]
theorem enumU_F (xs : List PyData) : enumU xs = enumF 0 xs := by
  apply List.ext_getElem?
  intro i
  rw [enumF_get]
  cases e : xs[i]? with
  | some y => rw [enumU_at e]; simp
  | none =>
    have := List.getElem?_eq_none_iff.mp e
    rw [List.getElem?_eq_none (by rw [enumU_len]; exact this)]
    rfl
theorem for_enF {E : DE} {g : TDG} {tb : TDS} (I : List PyData → Dn → Prop) : ∀ (xs pre : List PyData) (δ : Dn), I pre δ →
    (∀ (pre' : List PyData) (x : PyData), (∃ r, pre ++ xs = pre' ++ x :: r) → ∀ δ', I pre' δ' → ∀ (E' : DE), E'.rt = E.rt → (∀ δ2, I (pre' ++ [x]) δ2 → E'.nx δ2) → (∀ δ2, I (pre' ++ [x]) δ2 → E'.ct δ2) → (∀ δ2, E.nx δ2 → E'.bk δ2) → g (.p (.tuple [.int (pre'.length : Nat), x])) δ' fun δ2 => tb E' δ2) →
    (∀ δ', I (pre ++ xs) δ' → E.nx δ') → forL E g tb (enumF pre.length xs) δ
  | [], pre, δ, h, _, he => he δ (by rw [List.append_nil]; exact h)
  | x :: xs, pre, δ, h, hb, he => by
    have nxt : ∀ δ2, I (pre ++ [x]) δ2 → forL E g tb (enumF (pre.length + 1) xs) δ2 := fun δ2 h2 => by
      have q := for_enF (E := E) (g := g) (tb := tb) I xs (pre ++ [x]) δ2 h2 (fun pre' y hy => hb pre' y (by rw [List.append_assoc] at hy; exact hy)) (fun δ' h' => he δ' (by rw [List.append_assoc] at h'; exact h'))
      rw [List.length_append, List.length_singleton] at q
      exact q
    exact hb pre x ⟨xs, rfl⟩ δ h _ rfl nxt nxt (fun _ h => h)
/-- a walk over enumerate(xs): the invariant knows what lies behind; a break leads out -/
theorem for_en {E : DE} {g : TDG} {tb : TDS} (I : List PyData → Dn → Prop) {xs : List PyData} {δ : Dn} (h : I [] δ)
    (hb : ∀ (pre : List PyData) (x : PyData), (∃ r, xs = pre ++ x :: r) → ∀ δ', I pre δ' → ∀ (E' : DE), E'.rt = E.rt → (∀ δ2, I (pre ++ [x]) δ2 → E'.nx δ2) → (∀ δ2, I (pre ++ [x]) δ2 → E'.ct δ2) → (∀ δ2, E.nx δ2 → E'.bk δ2) → g (.p (.tuple [.int (pre.length : Nat), x])) δ' fun δ2 => tb E' δ2)
    (he : ∀ δ', I xs δ' → E.nx δ') : forL E g tb (enumU xs) δ := by
  rw [enumU_F]
  exact for_enF I xs [] δ h (fun pre' x hx => hb pre' x hx) he
/-- x, y = a list of that length -/
def gdLst (n : Nat) (u : TDGs) : TDG := fun d δ N => asL d fun ds => ds.length = n ∧ u ds δ N
theorem dg_lst {X : Cx} {vs : List Nat} {pos : Pos} {es : List Expr} {k : Nat} {u : TDGs} {n : Nat} (hc : X.calm = true) (h : PGs X es (upGs (Cx.ky X) vs u))
    (hn : (assignEach es X.env).length = n := by rfl) (hst : (assignEach es X.env).findIdx? (·.1) = none := by rfl) : PG X (.Tuple es k pos) (upG (Cx.ky X) vs (gdLst n u)) := by
  refine ⟨fun pins s σ H v w Q I r ⟨d, δ, N, c, L, es, rv, h1, k1⟩ => (pg_lst hc h hn hst).run pins s σ H v w Q I r ?_⟩
  obtain ⟨ds, rfl, hl, h2⟩ := asL_of h1
  obtain ⟨a, xs, e, q, ra⟩ := rv
  exact ⟨a, xs, e, SqL.of ((hide_ext _ _).lst q).at_, by rw [← ra.len]; exact hl, ⟨ds, δ, N, c, L, es, ra, h2, k1⟩⟩
end MR

/-! Defs with defaults, all arguments given; two new houses in one statement; a house's dict by subscript. -/
namespace MR
open PySem PySem.Spec PyProof.Rows L2
/-- a def as it stands behind the top, whatever its defaults are -/
structure FunA (K : PySem.W.Frag) (x qual : Str) (st : Stmt) (f : Addr) (fd : FuncData) : Prop where
  ex : ∃ (oc : Value) (od : Option Addr) (dV kV doc pm : Value) (an : Option Addr) (cdv ct : Value) (osl : Array (Option Value)),
    fd = PySem.W.fnOf x qual (defArgs st) (defBody st) (defScope st) dV kV doc pm an cdv ct ∧ K.lookup f = some ⟨oc, od, .func fd, osl⟩ ∧ PySem.W.codeIn K cdv qual = true
  kp : PySem.W.keepIn K (.ref f) = true
theorem fnG_ofA {CX : CXT} {P : Program} {w : World} {K : PySem.W.Frag} {mg : Str → Option Value} {base : Heap} {k : Nat} {f : Addr} {fd : FuncData} {x qual : Str} {st : Stmt} {N ps : List Str} {sp : Sp} (F : FunA K x qual st f fd) (S : FnScope N ps (defScope st))
    (len : ∀ vs H Q E, sp vs H Q E → vs.length = ps.length)
    (hbody : ∀ (cdv : Value) (A : Around), A.guards = some [] → ∀ (outer : List PySem.Env) (s : Shared) (H : Hp) (vs : List V) (Q : VK) (E : XK), Room k (A.deeper (envOfC qual (defScope st) s.heap.objs.size f cdv)) → sp vs H Q E →
      ∃ t, PSs (cxOf CX P w K mg base N qual (defScope st) f cdv A outer s H E) (defBody st) t ∧ t { nx := fun _ H' => Q .non H', rt := Q } (L2.start N vs) H) : FnG P w K mg base CX (k + 1) f fd ps sp := by
  obtain ⟨oc, od, dV, kV, doc, pm, an, cdv, ct, osl, rfl, lk, hcd⟩ := F.ex
  refine ⟨len, fun A gd outer s H args us vs Q E room e0 bnd rel hsp => ?_⟩
  have many := len _ _ _ _ hsp
  have inK : K.In s.heap := e0.mod.kin.keeps fun b o q => (e0.bs b o q).1
  have limit : s.heap.NoLimit := e0.mod.nolimit.keeps fun b o q => (e0.bs b o q).1
  have kinds : ∀ y ∈ ps.zip us, (defScope st).names.lookup y.1 = some .local ∨ ((defScope st).names.lookup y.1 = some .cell ∧ ((cellsFrom (s.heap.objs.size + 1) (defScope st).names []).lookup y.1).isSome = true) := fun ⟨n, v⟩ hy =>
    (S.par n (List.of_mem_zip hy).1).imp id fun q => ⟨q, PySem.W.cellsFrom_some _ _ _ (.inl q)⟩
  refine codeAny_call_function room.depth (inK _ _ lk) rfl S.co S.gen rfl (PySem.W.codeRec_of inK hcd) (bnd _ _ _ _ ?_)
  refine wpAny_newFunctionEnv_cells S.kind kinds fun env henv s1 made => ?_
  subst henv
  refine ⟨limit.keeps made.toInCall.keep, codeAny_func ?_⟩
  obtain ⟨t, ht, hq⟩ := hbody cdv A gd outer s H vs Q E (room.deeper _) hsp
  have inv0 : Inv (cxOf CX P w K mg base N qual (defScope st) f cdv A outer s H E) [] (L2.start N vs) H s1 := inv_start S room.hd e0 many rel made
  refine wpAny_mono (ht.run [] s1 (L2.start N vs) H _ inv0 hq) (fun fl s2 hs => ?_) fun _ _ hs => hs
  have ends : ∀ {σ2 : Sg} {H2 : Hp} {v : V} {u : Value}, Inv (cxOf CX P w K mg base N qual (defScope st) f cdv A outer s H E) [] σ2 H2 s2 → RelV v u → Q v H2 → CE outer P w H s Q u s2 :=
    fun {σ2 H2 v u} J rv q => ⟨v, H2, J.os, J.bare, J.base, J.hok, rv, q⟩
  cases fl with
  | ret u =>
    obtain ⟨v, σ2, H2, J, rv, q⟩ := hs
    exact ends J rv q
  | next =>
    obtain ⟨σ2, H2, J, q⟩ := hs
    exact ends (v := V.non) (u := Value.none) J rfl q
  | brk => exact (show False from let ⟨_, _, _, q⟩ := hs; q).elim
  | cont => exact (show False from let ⟨_, _, _, q⟩ := hs; q).elim
section
variable {P : Program} {w : World} {K : PySem.W.Frag} {mg : Str → Option Value} {base : Heap}
theorem okMA {x qual : Str} {st : Stmt} {f : Addr} {fd : FuncData} {N ps : List Str} {k : Nat} {g : FH} (p : Nat) (F : FunA K x qual st f fd) (S : FnScope N ps (defScope st)) (len : ∀ o ds R, g o ds R → ds.length = ps.length ∧ ds[p]? = some (.raw (.ref o.at_)))
    (hb : ∀ (cdv : Value) (A : Around), A.guards = some [] → ∀ (outer : List PySem.Env) (s : Shared) (H : Hp) (E : XK), Room k (A.deeper (envOfC qual (defScope st) s.heap.objs.size f cdv)) →
      ∃ t, PSs (cxOf CX0 P w K mg base N qual (defScope st) f cdv A outer s H E).nox (defBody st) (upS ⟨K, P, w⟩ t) ∧ ∀ o ds R, g o ds R → t (endM p o R) ((startD N ds).set p (.od o))) : FnG P w K mg base CX0 (k + 1) f fd ps (spH ⟨K, P, w⟩ g) := by
  refine fnG_ofA F S (fun vs H Q E ⟨o, ds, R, P, d, hp, r0, r, h, q⟩ => by rw [← r.len]; exact (len o ds R h).1) fun cdv A gd outer s H vs Q E room ⟨o, ds, R, P', d, hp, r0, r, h, q⟩ => ?_
  obtain ⟨t, ht, hr⟩ := hb cdv A gd outer s H E room
  refine ⟨_, ht.nox, _, _, ⟨H, lessA P' o.as, [], [], mem o.as⟩, _, es_startM d hp r0 r (len o ds R h).2, hr o ds R h, ⟨fun δ σ H' L es ⟨o', e, lk, h'⟩ => ?_, fun v H' d' x r' h' => ?_, fun _ _ _ _ _ z => z.elim, fun _ _ _ _ _ z => z.elim, fun _ _ _ _ _ _ _ z => z.elim⟩⟩
  · obtain ⟨_, r1, hl⟩ := es.ods.rd p o' (getD_od e)
    refine q .non H' .none o' lk es.ext ?_ rfl h'
    refine r1.mono (fun _ _ _ h _ => h) (hide_less H' fun b hb => ?_)
    unfold oor
    by_cases m : b ∈ o.as
    · rw [hl b (by rw [lk.as]; exact m), Bool.or_true]
    · show (lessA P' o.as b || L b) = true
      rw [show lessA P' o.as b = true from lessA_t.mpr ⟨hb, m⟩, Bool.true_or]
  · cases d' with
    | rt o' z =>
      cases z with
      | none => exact h'.elim
      | some z =>
        obtain ⟨lk, h2⟩ := h'
        obtain ⟨r1, r2⟩ := r'
        have eh : hide (mem o'.as) (hide (lessA P' o.as) H') = hide P' H' := funext fun b => by
          rw [lk.as]
          by_cases m : b ∈ o.as
          · unfold hide
            rw [mem_t.mpr m, if_pos rfl, (hp b m).1, if_pos rfl]
          · unfold hide
            rw [mem_f.mpr m, if_neg Bool.false_ne_true]
            cases pb : P' b with
            | true => rw [show lessA P' o.as b = true from lessA_t.mpr ⟨pb, m⟩]
            | false => rw [show lessA P' o.as b = false from by unfold lessA; rw [pb, Bool.false_and]]
        refine q v H' z o' lk x (r1.mono (fun b u m h _ => (hide_f h).2) (by rw [eh]; exact Ext.refl _)) ?_ h2
        have r2 : Rp K (hide (mem o'.as) (hide (lessA P' o.as) H')) z v := r2
        rw [eh] at r2
        exact r2
    | _ => exact h'.elim
end
/-! ### two new houses in one statement -/
def dPar2H (C : Addr) (i j : Nat) : TDS := fun E δ => ∀ a d a' d', E.nx ((δ.set i (.od (.hs C a d []))).set j (.od (.hs C a' d' [])))
theorem ds_par2H {X : Cx} {C : Addr} {i j : Nat} {x y : Str} {a b : Expr} {px py pt pos : Pos} {kt k2 pt2} (ha : PE X a (upN (Cx.ky X) (dNewH C))) (hb : PE X b (upN (Cx.ky X) (dNewH C))) (h : ∀ {t : TA}, PA X [a, b] t → PS X (.Assign [.Tuple [.Name x px, .Name y py] kt pt] (.Tuple [a, b] k2 pt2) pos) (tPar i j t))
    (hs : starEach [a, b] X.env = (false, eval a X.env) :: starEach [b] X.env := by rfl) (hs2 : starEach [b] X.env = (false, eval b X.env) :: starEach [] X.env := by rfl) : PS X (.Assign [.Tuple [.Name x px, .Name y py] kt pt] (.Tuple [a, b] k2 pt2) pos) (upS (Cx.ky X) (dPar2H C i j)) := by
  refine PS.imp (h (pa_cons ha (pa_cons hb pa_nil hs2) hs)) fun D σ H ⟨δ, E, c, L, es, h, f⟩ => ?_
  refine ⟨δ, fun o => ∃ a d, o = .hs C a d [], c, L, es, fun a d => ⟨a, d, rfl⟩, fun o1 H1 x1 fr1 r1 ⟨a1, d1, e1⟩ => ?_⟩
  subst e1
  have es1 := es.newOd x1 fr1 r1 (i := i)
  refine ⟨δ, fun o => ∃ a d, o = .hs C a d [], c, L, es.on x1, fun a d => ⟨a, d, rfl⟩, fun o2 H2 x2 fr2 r2 ⟨a2, d2, e2⟩ => ?_⟩
  subst e2
  obtain ⟨dx, vm, kvs, q1, q2, q3⟩ := r2
  have es2 := es1.newOd x2 fr2 ⟨dx, vm, kvs, q1, q2, q3⟩ (i := j)
  exact ⟨_, _, rfl, f.nx _ _ H2 _ es2 (h a1 d1 a2 d2)⟩
/-! ### self._entries[k] -/
def dIxH (td tk : TD) : TD := fun δ R => td δ fun d => asD d fun es => tk δ fun k => asS k fun n => ∃ z, getE es n = some z ∧ R (.p z)
theorem de_ixH {X : Cx} {o i : Expr} {td tk : TD} {pos : Pos} (hu : X.A.units + 1 < cLine) (hd : PE X o (up (Cx.ky X) td)) (hk : PE X i (up (Cx.ky X) tk)) (hs : NoSl i := by exact fun _ _ => rfl) : PE X (.Subscript o i pos) (up (Cx.ky X) (dIxH td tk)) := by
  refine PE.imp (pe_dget hu hd hk hs) fun σ H Q ⟨δ, R, cc, L, s, h, k⟩ => ⟨δ, _, cc, L, s, h, fun v H1 d x1 r1 h1 => ?_⟩
  obtain ⟨es, rfl, h2⟩ := asD_of h1
  refine ⟨δ, _, cc, L, s.on x1, h2, fun v2 H2 d2 x2 r2 h3 => ?_⟩
  obtain ⟨n, rfl, z, hz, h4⟩ := asS_of h3
  obtain ⟨a, kvs, rfl, e1, rr⟩ := rd_hd (r1.ext (x2.hide _))
  obtain ⟨y, e, ry⟩ := (rr.val (n := n)).2 z hz
  refine ⟨a, y, rfl, ?_, k y H2 (.p z) (x1.trans x2) ry h4⟩
  rw [show v2 = .str n from r2, ← e]
  exact dget_of (κ := Cx.ky X) (P := oor cc.P L) (es := es) e1
/-- k in self._entries, as a value -/
theorem de_inH {X : Cx} {e o : Expr} {tk td : TD} {pos : Pos} (hu : X.A.units + 1 < cLine) (hk : PE X e (up (Cx.ky X) tk)) (hd : PE X o (up (Cx.ky X) td)) (h1 : behindInMarks .In o = false := by first | exact nobehind _ (by decide) (by decide) | rfl) : PE X (.Compare e [.In] [o] pos) (up (Cx.ky X) (dInH tk td)) := by
  refine PE.imp (pe_cmp (pc_din hu hk hd) h1) fun σ H Q ⟨δ, R, cc, L, s, h, k⟩ => ⟨δ, _, cc, L, s, h, fun v H1 d x1 r1 h1 => ?_⟩
  obtain ⟨n, rfl, h2⟩ := asS_of h1
  refine ⟨δ, _, cc, L, s.on x1, h2, fun v2 H2 d2 x2 r2 h3 => ?_⟩
  obtain ⟨es, rfl, h4⟩ := asD_of h3
  obtain ⟨dd, kvs, rfl, e1, r⟩ := rd_hd r2
  refine ⟨dd, _, rfl, by rw [show v = .str n from r1]; exact dget_of (κ := Cx.ky X) (P := oor cc.P L) (es := es) e1, ?_⟩
  rw [isSome_of r]
  exact k _ H2 (.p (.bool (getE es n).isSome)) (x1.trans x2) rfl h4
/-- the arguments of a def with defaults, when all are given -/
theorem funA_mk {K : PySem.W.Frag} {x qual : Str} {st : Stmt} {f : Addr} {oc : Value} {od an : Option Addr} {osl : Array (Option Value)} {dV kV doc pm cdv ct : Value} (l : K.lookup f = some ⟨oc, od, .func (PySem.W.fnOf x qual (defArgs st) (defBody st) (defScope st) dV kV doc pm an cdv ct), osl⟩)
    (c : PySem.W.codeIn K cdv qual = true) (k : PySem.W.keepIn K (.ref f) = true) : FunA K x qual st f (PySem.W.fnOf x qual (defArgs st) (defBody st) (defScope st) dV kV doc pm an cdv ct) := ⟨⟨oc, od, dV, kV, doc, pm, an, cdv, ct, osl, rfl, l, c⟩, k⟩
theorem bindsA_mk {K : PySem.W.Frag} {x qual : Str} {st : Stmt} {T : Addr} {its : Array Value} {n : Nat} {o : Obj} {kV doc pm cdv ct : Value} {an : Option Addr} {ps : List Str} (lT : K.lookup T = some o) (oT : o.data = .seq its n)
    (h : ∀ (us : List Value), us.length = ps.length → ∃ k, bindArgs (PySem.W.fnOf x qual (defArgs st) (defBody st) (defScope st) (.ref T) kV doc pm an cdv ct) ⟨us, []⟩ = seqItems? (.ref T) >>= k ∧ k (some its) = pure (ps.zip us)) : L2.Binds K (PySem.W.fnOf x qual (defArgs st) (defBody st) (defScope st) (.ref T) kV doc pm an cdv ct) ps [] := fun s us X hl => by
  rw [List.append_nil] at hl ⊢
  obtain ⟨k, e1, e2⟩ := h us hl
  refine BindsTo.of_looks fun M => ?_
  rw [e1]
  exact looks_items X lT oT (.of_pure e2)
end MR

namespace MR
open PySem PySem.Spec PyProof.Rows L2
def topS (i : Nat) : Stmt := PySem.Challenge.pw_mailrings_k29_whole_rules_parted.main.body.getD i (.Pass ⟨0, 0, 0, 0⟩)
abbrev s_is_name : Stmt := topS 7
theorem sc_is_name : FnScope ["value", "letter"] ["value"] (defScope s_is_name) := ⟨rfl, rfl, rfl, by decide +kernel, rfl, by decide +kernel, by decide +kernel⟩
abbrev s_is_name_tuple : Stmt := topS 8
theorem sc_is_name_tuple : FnScope ["value", "name", "one", "other"] ["value"] (defScope s_is_name_tuple) := ⟨rfl, rfl, rfl, by decide +kernel, rfl, by decide +kernel, by decide +kernel⟩
abbrev s_is_subject_code : Stmt := topS 9
theorem sc_is_subject_code : FnScope ["code"] ["code"] (defScope s_is_subject_code) := ⟨rfl, rfl, rfl, by decide +kernel, rfl, by decide +kernel, by decide +kernel⟩
abbrev s_is_subject : Stmt := topS 10
theorem sc_is_subject : FnScope ["value", "sign"] ["value"] (defScope s_is_subject) := ⟨rfl, rfl, rfl, by decide +kernel, rfl, by decide +kernel, by decide +kernel⟩
abbrev s_is_text : Stmt := topS 11
theorem sc_is_text : FnScope ["value"] ["value"] (defScope s_is_text) := ⟨rfl, rfl, rfl, by decide +kernel, rfl, by decide +kernel, by decide +kernel⟩
abbrev s_is_message : Stmt := topS 12
theorem sc_is_message : FnScope ["value", "sender", "address", "subject", "marks"] ["value"] (defScope s_is_message) := ⟨rfl, rfl, rfl, by decide +kernel, rfl, by decide +kernel, by decide +kernel⟩
abbrev s_with_mark : Stmt := topS 13
theorem sc_with_mark : FnScope ["marks", "mark"] ["marks", "mark"] (defScope s_with_mark) := ⟨rfl, rfl, rfl, by decide +kernel, rfl, by decide +kernel, by decide +kernel⟩
abbrev s_is_single : Stmt := topS 20
theorem sc_is_single : FnScope ["word", "part"] ["word", "part"] (defScope s_is_single) := ⟨rfl, rfl, rfl, by decide +kernel, rfl, by decide +kernel, by decide +kernel⟩
abbrev s_are_conditions_within : Stmt := topS 22
theorem sc_are_conditions_within : FnScope ["value", "deep", "inner"] ["value", "deep"] (defScope s_are_conditions_within) := ⟨rfl, rfl, rfl, by decide +kernel, rfl, by decide +kernel, by decide +kernel⟩
abbrev s_is_condition_within : Stmt := topS 21
theorem sc_is_condition_within : FnScope ["value", "deep", "word", "part"] ["value", "deep"] (defScope s_is_condition_within) := ⟨rfl, rfl, rfl, by decide +kernel, rfl, by decide +kernel, by decide +kernel⟩
abbrev s_is_condition : Stmt := topS 23
theorem sc_is_condition : FnScope ["value"] ["value"] (defScope s_is_condition) := ⟨rfl, rfl, rfl, by decide +kernel, rfl, by decide +kernel, by decide +kernel⟩
abbrev s_subject_passes : Stmt := topS 24
theorem sc_subject_passes : FnScope ["word", "text", "subject"] ["word", "text", "subject"] (defScope s_subject_passes) := ⟨rfl, rfl, rfl, by decide +kernel, rfl, by decide +kernel, by decide +kernel⟩
abbrev s_single_holds : Stmt := topS 25
theorem sc_single_holds : FnScope ["word", "part", "message", "sender", "_", "subject", "marks"] ["word", "part", "message"] (defScope s_single_holds) := ⟨rfl, rfl, rfl, by decide +kernel, rfl, by decide +kernel, by decide +kernel⟩
abbrev s_holds : Stmt := topS 26
theorem sc_holds : FnScope ["condition", "message", "word", "part", "inner"] ["condition", "message"] (defScope s_holds) := ⟨rfl, rfl, rfl, by decide +kernel, rfl, by decide +kernel, by decide +kernel⟩
abbrev s_is_end : Stmt := topS 42
theorem sc_is_end : FnScope ["value"] ["value"] (defScope s_is_end) := ⟨rfl, rfl, rfl, by decide +kernel, rfl, by decide +kernel, by decide +kernel⟩
abbrev s_is_deed : Stmt := topS 43
theorem sc_is_deed : FnScope ["value", "word", "part"] ["value"] (defScope s_is_deed) := ⟨rfl, rfl, rfl, by decide +kernel, rfl, by decide +kernel, by decide +kernel⟩
abbrev s_are_actions : Stmt := topS 44
theorem sc_are_actions : FnScope ["value", "action"] ["value"] (defScope s_are_actions) := ⟨rfl, rfl, rfl, by decide +kernel, rfl, by decide +kernel, by decide +kernel⟩
abbrev s_is_rule : Stmt := topS 45
theorem sc_is_rule : FnScope ["value"] ["value"] (defScope s_is_rule) := ⟨rfl, rfl, rfl, by decide +kernel, rfl, by decide +kernel, by decide +kernel⟩
abbrev s_need_rules : Stmt := topS 46
theorem sc_need_rules : FnScope ["rules", "rule"] ["rules"] (defScope s_need_rules) := ⟨rfl, rfl, rfl, by decide +kernel, rfl, by decide +kernel, by decide +kernel⟩
abbrev s_H_init : Stmt := inClass (topS 47) 0
theorem sc_H_init : FnScope ["self"] ["self"] (defScope s_H_init) := ⟨rfl, rfl, rfl, by decide +kernel, rfl, by decide +kernel, by decide +kernel⟩
abbrev s_H_put : Stmt := inClass (topS 47) 1
theorem sc_H_put : FnScope ["self", "name", "entry"] ["self", "name", "entry"] (defScope s_H_put) := ⟨rfl, rfl, rfl, by decide +kernel, rfl, by decide +kernel, by decide +kernel⟩
abbrev s_H_need_new : Stmt := inClass (topS 47) 2
theorem sc_H_need_new : FnScope ["self", "name"] ["self", "name"] (defScope s_H_need_new) := ⟨rfl, rfl, rfl, by decide +kernel, rfl, by decide +kernel, by decide +kernel⟩
abbrev s_H_need_room : Stmt := inClass (topS 47) 3
theorem sc_H_need_room : FnScope ["self", "name"] ["self", "name"] (defScope s_H_need_room) := ⟨rfl, rfl, rfl, by decide +kernel, rfl, by decide +kernel, by decide +kernel⟩
abbrev s_H_has : Stmt := inClass (topS 47) 4
theorem sc_H_has : FnScope ["self", "name"] ["self", "name"] (defScope s_H_has) := ⟨rfl, rfl, rfl, by decide +kernel, rfl, by decide +kernel, by decide +kernel⟩
abbrev s_H_need : Stmt := inClass (topS 47) 5
theorem sc_H_need : FnScope ["self", "name", "sort"] ["self", "name", "sort"] (defScope s_H_need) := ⟨rfl, rfl, rfl, by decide +kernel, rfl, by decide +kernel, by decide +kernel⟩
abbrev s_H_add_mailbox : Stmt := inClass (topS 47) 6
theorem sc_H_add_mailbox : FnScope ["self", "name", "rules", "what"] ["self", "name", "rules"] (defScope s_H_add_mailbox) := ⟨rfl, rfl, rfl, by decide +kernel, rfl, by decide +kernel, by decide +kernel⟩
abbrev s_H_entry_of : Stmt := inClass (topS 47) 13
theorem sc_H_entry_of : FnScope ["self", "name"] ["self", "name"] (defScope s_H_entry_of) := ⟨rfl, rfl, rfl, by decide +kernel, rfl, by decide +kernel, by decide +kernel⟩
abbrev s_H_rules_of : Stmt := inClass (topS 47) 15
theorem sc_H_rules_of : FnScope ["self", "name"] ["self", "name"] (defScope s_H_rules_of) := ⟨rfl, rfl, rfl, by decide +kernel, rfl, by decide +kernel, by decide +kernel⟩
abbrev s_at_mailbox : Stmt := topS 51
theorem sc_at_mailbox : FnScope ["rules", "message", "sender", "address", "subject", "marks", "fired", "filed", "sent", "end", "place", "condition", "actions", "number", "action", "word", "part", "cut"] ["rules", "message"] (defScope s_at_mailbox) := ⟨rfl, rfl, rfl, by decide +kernel, rfl, by decide +kernel, by decide +kernel⟩
abbrev s_at_list : Stmt := topS 52
theorem sc_at_list : FnScope ["what", "message", "members", "tag", "mark", "closed", "sender", "address", "subject", "marks", "member"] ["what", "message"] (defScope s_at_list) := ⟨rfl, rfl, rfl, by decide +kernel, rfl, by decide +kernel, by decide +kernel⟩
abbrev s_arrival_at : Stmt := topS 53
theorem sc_arrival_at : FnScope ["house", "message", "sender", "address", "subject", "marks", "sort", "what"] ["house", "message"] (defScope s_arrival_at) := ⟨rfl, rfl, rfl, by decide +kernel, rfl, by decide +kernel, by decide +kernel⟩
abbrev s_arrives : Stmt := topS 54
theorem sc_arrives : FnScope ["house", "message"] ["house", "message"] (defScope s_arrives) := ⟨rfl, rfl, rfl, by decide +kernel, rfl, by decide +kernel, by decide +kernel⟩
abbrev s_arrive : Stmt := topS 55
theorem sc_arrive : FnScope ["house", "message", "fired", "filed", "sent", "folder", "_", "cut", "copy"] ["house", "message"] (defScope s_arrive) := ⟨rfl, rfl, rfl, by decide +kernel, rfl, by decide +kernel, by decide +kernel⟩
abbrev s_firing : Stmt := topS 56
theorem sc_firing : FnScope ["house", "message", "fired", "filed", "sent"] ["house", "message"] (defScope s_firing) := ⟨rfl, rfl, rfl, by decide +kernel, rfl, by decide +kernel, by decide +kernel⟩
abbrev s_w_stream : Stmt := topS 58
theorem sc_w_stream : FnScope ["script", "start", "seed", "cell", "digits"] ["script", "start"] (defScope s_w_stream) := ⟨rfl, rfl, rfl, by decide +kernel, rfl, by decide +kernel, by decide +kernel⟩
abbrev s_w_draw : Stmt := topS 59
theorem sc_w_draw : FnScope ["stream", "size", "found"] ["stream", "size"] (defScope s_w_draw) := ⟨rfl, rfl, rfl, by decide +kernel, rfl, by decide +kernel, by decide +kernel⟩
abbrev s_w_choose : Stmt := topS 60
theorem sc_w_choose : FnScope ["stream", "things"] ["stream", "things"] (defScope s_w_choose) := ⟨rfl, rfl, rfl, by decide +kernel, rfl, by decide +kernel, by decide +kernel⟩
abbrev s_w_shuffled : Stmt := topS 61
theorem sc_w_shuffled : FnScope ["stream", "things", "left", "found"] ["stream", "things"] (defScope s_w_shuffled) := ⟨rfl, rfl, rfl, by decide +kernel, rfl, by decide +kernel, by decide +kernel⟩
abbrev s_w_text : Stmt := topS 62
theorem sc_w_text : FnScope ["stream"] ["stream"] (defScope s_w_text) := ⟨rfl, rfl, rfl, by decide +kernel, rfl, by decide +kernel, by decide +kernel⟩
abbrev s_w_leaf : Stmt := topS 63
theorem sc_w_leaf : FnScope ["stream", "kindof"] ["stream"] (defScope s_w_leaf) := ⟨rfl, rfl, rfl, by decide +kernel, rfl, by decide +kernel, by decide +kernel⟩
abbrev s_w_condition : Stmt := topS 64
theorem sc_w_condition : FnScope ["stream", "kindof", "inner", "turn"] ["stream"] (defScope s_w_condition) := ⟨rfl, rfl, rfl, by decide +kernel, rfl, by decide +kernel, by decide +kernel⟩
abbrev s_w_action : Stmt := topS 65
theorem sc_w_action : FnScope ["stream", "kindof"] ["stream"] (defScope s_w_action) := ⟨rfl, rfl, rfl, by decide +kernel, rfl, by decide +kernel, by decide +kernel⟩
abbrev s_w_rule : Stmt := topS 66
theorem sc_w_rule : FnScope ["stream", "actions", "turn"] ["stream"] (defScope s_w_rule) := ⟨rfl, rfl, rfl, by decide +kernel, rfl, by decide +kernel, by decide +kernel⟩
abbrev s_w_message : Stmt := topS 67
theorem sc_w_message : FnScope ["stream", "address", "sender", "some", "pieces", "turn", "marks"] ["stream", "address"] (defScope s_w_message) := ⟨rfl, rfl, rfl, by decide +kernel, rfl, by decide +kernel, by decide +kernel⟩
abbrev s_w_plain_rule : Stmt := topS 68
theorem sc_w_plain_rule : FnScope ["stream", "actions", "turn", "action", "leaf", "condition"] ["stream"] (defScope s_w_plain_rule) := ⟨rfl, rfl, rfl, by decide +kernel, rfl, by decide +kernel, by decide +kernel⟩
abbrev s_w_parted : Stmt := topS 69
theorem sc_w_parted : FnScope ["stream", "rule", "condition", "actions", "test", "found"] ["stream", "rule"] (defScope s_w_parted) := ⟨rfl, rfl, rfl, by decide +kernel, rfl, by decide +kernel, by decide +kernel⟩
abbrev s_law : Stmt := topS 70
theorem sc_law : FnScope ["script", "start", "stream", "turn", "ahead", "step", "rule", "behind", "first", "second", "pair", "never", "one", "two", "look", "message", "early", "place"] ["script"] (defScope s_law) := ⟨rfl, rfl, rfl, by decide +kernel, rfl, by decide +kernel, by decide +kernel⟩
theorem bt_all : bootBuiltins "all" = some (.builtin "all") := by decide +kernel
theorem bt_enumerate : bootBuiltins "enumerate" = some (.type "enumerate") := by decide +kernel
theorem bt_int : bootBuiltins "int" = some (.type "int") := by decide +kernel
theorem bt_isinstance : bootBuiltins "isinstance" = some (.builtin "isinstance") := by decide +kernel
theorem bt_len : bootBuiltins "len" = some (.builtin "len") := by decide +kernel
theorem bt_list : bootBuiltins "list" = some (.type "list") := by decide +kernel
theorem bt_max : bootBuiltins "max" = some (.builtin "max") := by decide +kernel
theorem bt_min : bootBuiltins "min" = some (.builtin "min") := by decide +kernel
theorem bt_ord : bootBuiltins "ord" = some (.builtin "ord") := by decide +kernel
theorem bt_range : bootBuiltins "range" = some (.type "range") := by decide +kernel
theorem bt_set : bootBuiltins "set" = some (.type "set") := by decide +kernel
theorem bt_sorted : bootBuiltins "sorted" = some (.builtin "sorted") := by decide +kernel
theorem bt_str : bootBuiltins "str" = some (.type "str") := by decide +kernel
theorem bt_tuple : bootBuiltins "tuple" = some (.type "tuple") := by decide +kernel
theorem bt_zip : bootBuiltins "zip" = some (.type "zip") := by decide +kernel
set_option maxHeartbeats 0 in
structure Tx (K : PySem.W.Frag) (mg : Str → Option Value) where
  C : Addr
  cl : Cls K C
  nE : NoAttr K C "_entries"
  nM : NoAttr K C "memory"
  mgC : mg "House" = some (.ref C)
  a_is_name : Addr
  d_is_name : FuncData
  F_is_name : Fun K "is_name" "is_name" s_is_name a_is_name d_is_name
  b_is_name : Binds K d_is_name ["value"] []
  m_is_name : mg "is_name" = some (.ref a_is_name)
  a_is_name_tuple : Addr
  d_is_name_tuple : FuncData
  F_is_name_tuple : Fun K "is_name_tuple" "is_name_tuple" s_is_name_tuple a_is_name_tuple d_is_name_tuple
  b_is_name_tuple : Binds K d_is_name_tuple ["value"] []
  m_is_name_tuple : mg "is_name_tuple" = some (.ref a_is_name_tuple)
  a_is_subject_code : Addr
  d_is_subject_code : FuncData
  F_is_subject_code : Fun K "is_subject_code" "is_subject_code" s_is_subject_code a_is_subject_code d_is_subject_code
  b_is_subject_code : Binds K d_is_subject_code ["code"] []
  m_is_subject_code : mg "is_subject_code" = some (.ref a_is_subject_code)
  a_is_subject : Addr
  d_is_subject : FuncData
  F_is_subject : Fun K "is_subject" "is_subject" s_is_subject a_is_subject d_is_subject
  b_is_subject : Binds K d_is_subject ["value"] []
  m_is_subject : mg "is_subject" = some (.ref a_is_subject)
  a_is_text : Addr
  d_is_text : FuncData
  F_is_text : Fun K "is_text" "is_text" s_is_text a_is_text d_is_text
  b_is_text : Binds K d_is_text ["value"] []
  m_is_text : mg "is_text" = some (.ref a_is_text)
  a_is_message : Addr
  d_is_message : FuncData
  F_is_message : Fun K "is_message" "is_message" s_is_message a_is_message d_is_message
  b_is_message : Binds K d_is_message ["value"] []
  m_is_message : mg "is_message" = some (.ref a_is_message)
  a_with_mark : Addr
  d_with_mark : FuncData
  F_with_mark : Fun K "with_mark" "with_mark" s_with_mark a_with_mark d_with_mark
  b_with_mark : Binds K d_with_mark ["marks", "mark"] []
  m_with_mark : mg "with_mark" = some (.ref a_with_mark)
  a_is_single : Addr
  d_is_single : FuncData
  F_is_single : Fun K "is_single" "is_single" s_is_single a_is_single d_is_single
  b_is_single : Binds K d_is_single ["word", "part"] []
  m_is_single : mg "is_single" = some (.ref a_is_single)
  a_are_conditions_within : Addr
  d_are_conditions_within : FuncData
  F_are_conditions_within : Fun K "are_conditions_within" "are_conditions_within" s_are_conditions_within a_are_conditions_within d_are_conditions_within
  b_are_conditions_within : Binds K d_are_conditions_within ["value", "deep"] []
  m_are_conditions_within : mg "are_conditions_within" = some (.ref a_are_conditions_within)
  a_is_condition_within : Addr
  d_is_condition_within : FuncData
  F_is_condition_within : Fun K "is_condition_within" "is_condition_within" s_is_condition_within a_is_condition_within d_is_condition_within
  b_is_condition_within : Binds K d_is_condition_within ["value", "deep"] []
  m_is_condition_within : mg "is_condition_within" = some (.ref a_is_condition_within)
  a_is_condition : Addr
  d_is_condition : FuncData
  F_is_condition : Fun K "is_condition" "is_condition" s_is_condition a_is_condition d_is_condition
  b_is_condition : Binds K d_is_condition ["value"] []
  m_is_condition : mg "is_condition" = some (.ref a_is_condition)
  a_subject_passes : Addr
  d_subject_passes : FuncData
  F_subject_passes : Fun K "subject_passes" "subject_passes" s_subject_passes a_subject_passes d_subject_passes
  b_subject_passes : Binds K d_subject_passes ["word", "text", "subject"] []
  m_subject_passes : mg "subject_passes" = some (.ref a_subject_passes)
  a_single_holds : Addr
  d_single_holds : FuncData
  F_single_holds : Fun K "single_holds" "single_holds" s_single_holds a_single_holds d_single_holds
  b_single_holds : Binds K d_single_holds ["word", "part", "message"] []
  m_single_holds : mg "single_holds" = some (.ref a_single_holds)
  a_holds : Addr
  d_holds : FuncData
  F_holds : Fun K "holds" "holds" s_holds a_holds d_holds
  b_holds : Binds K d_holds ["condition", "message"] []
  m_holds : mg "holds" = some (.ref a_holds)
  a_is_end : Addr
  d_is_end : FuncData
  F_is_end : Fun K "is_end" "is_end" s_is_end a_is_end d_is_end
  b_is_end : Binds K d_is_end ["value"] []
  m_is_end : mg "is_end" = some (.ref a_is_end)
  a_is_deed : Addr
  d_is_deed : FuncData
  F_is_deed : Fun K "is_deed" "is_deed" s_is_deed a_is_deed d_is_deed
  b_is_deed : Binds K d_is_deed ["value"] []
  m_is_deed : mg "is_deed" = some (.ref a_is_deed)
  a_are_actions : Addr
  d_are_actions : FuncData
  F_are_actions : Fun K "are_actions" "are_actions" s_are_actions a_are_actions d_are_actions
  b_are_actions : Binds K d_are_actions ["value"] []
  m_are_actions : mg "are_actions" = some (.ref a_are_actions)
  a_is_rule : Addr
  d_is_rule : FuncData
  F_is_rule : Fun K "is_rule" "is_rule" s_is_rule a_is_rule d_is_rule
  b_is_rule : Binds K d_is_rule ["value"] []
  m_is_rule : mg "is_rule" = some (.ref a_is_rule)
  a_need_rules : Addr
  d_need_rules : FuncData
  F_need_rules : Fun K "need_rules" "need_rules" s_need_rules a_need_rules d_need_rules
  b_need_rules : Binds K d_need_rules ["rules"] []
  m_need_rules : mg "need_rules" = some (.ref a_need_rules)
  a_H_init : Addr
  d_H_init : FuncData
  F_H_init : Fun K "__init__" "House.__init__" s_H_init a_H_init d_H_init
  b_H_init : Binds K d_H_init ["self"] []
  mt_H_init : Meth K C "__init__" a_H_init
  a_H_put : Addr
  d_H_put : FuncData
  F_H_put : Fun K "_put" "House._put" s_H_put a_H_put d_H_put
  b_H_put : Binds K d_H_put ["self", "name", "entry"] []
  mt_H_put : Meth K C "_put" a_H_put
  a_H_need_new : Addr
  d_H_need_new : FuncData
  F_H_need_new : Fun K "_need_new" "House._need_new" s_H_need_new a_H_need_new d_H_need_new
  b_H_need_new : Binds K d_H_need_new ["self", "name"] []
  mt_H_need_new : Meth K C "_need_new" a_H_need_new
  a_H_need_room : Addr
  d_H_need_room : FuncData
  F_H_need_room : Fun K "_need_room" "House._need_room" s_H_need_room a_H_need_room d_H_need_room
  b_H_need_room : Binds K d_H_need_room ["self", "name"] []
  mt_H_need_room : Meth K C "_need_room" a_H_need_room
  a_H_has : Addr
  d_H_has : FuncData
  F_H_has : Fun K "_has" "House._has" s_H_has a_H_has d_H_has
  b_H_has : Binds K d_H_has ["self", "name"] []
  mt_H_has : Meth K C "_has" a_H_has
  a_H_need : Addr
  d_H_need : FuncData
  F_H_need : Fun K "_need" "House._need" s_H_need a_H_need d_H_need
  b_H_need : Binds K d_H_need ["self", "name", "sort"] []
  mt_H_need : Meth K C "_need" a_H_need
  a_H_add_mailbox : Addr
  d_H_add_mailbox : FuncData
  F_H_add_mailbox : FunA K "add_mailbox" "House.add_mailbox" s_H_add_mailbox a_H_add_mailbox d_H_add_mailbox
  b_H_add_mailbox : Binds K d_H_add_mailbox ["self", "name", "rules"] []
  mt_H_add_mailbox : Meth K C "add_mailbox" a_H_add_mailbox
  a_H_entry_of : Addr
  d_H_entry_of : FuncData
  F_H_entry_of : Fun K "entry_of" "House.entry_of" s_H_entry_of a_H_entry_of d_H_entry_of
  b_H_entry_of : Binds K d_H_entry_of ["self", "name"] []
  mt_H_entry_of : Meth K C "entry_of" a_H_entry_of
  a_H_rules_of : Addr
  d_H_rules_of : FuncData
  F_H_rules_of : Fun K "rules_of" "House.rules_of" s_H_rules_of a_H_rules_of d_H_rules_of
  b_H_rules_of : Binds K d_H_rules_of ["self", "name"] []
  mt_H_rules_of : Meth K C "rules_of" a_H_rules_of
  a_at_mailbox : Addr
  d_at_mailbox : FuncData
  F_at_mailbox : Fun K "at_mailbox" "at_mailbox" s_at_mailbox a_at_mailbox d_at_mailbox
  b_at_mailbox : Binds K d_at_mailbox ["rules", "message"] []
  m_at_mailbox : mg "at_mailbox" = some (.ref a_at_mailbox)
  a_at_list : Addr
  d_at_list : FuncData
  F_at_list : Fun K "at_list" "at_list" s_at_list a_at_list d_at_list
  b_at_list : Binds K d_at_list ["what", "message"] []
  m_at_list : mg "at_list" = some (.ref a_at_list)
  a_arrival_at : Addr
  d_arrival_at : FuncData
  F_arrival_at : Fun K "arrival_at" "arrival_at" s_arrival_at a_arrival_at d_arrival_at
  b_arrival_at : Binds K d_arrival_at ["house", "message"] []
  m_arrival_at : mg "arrival_at" = some (.ref a_arrival_at)
  a_arrives : Addr
  d_arrives : FuncData
  F_arrives : Fun K "arrives" "arrives" s_arrives a_arrives d_arrives
  b_arrives : Binds K d_arrives ["house", "message"] []
  m_arrives : mg "arrives" = some (.ref a_arrives)
  a_arrive : Addr
  d_arrive : FuncData
  F_arrive : Fun K "arrive" "arrive" s_arrive a_arrive d_arrive
  b_arrive : Binds K d_arrive ["house", "message"] []
  m_arrive : mg "arrive" = some (.ref a_arrive)
  a_firing : Addr
  d_firing : FuncData
  F_firing : Fun K "firing" "firing" s_firing a_firing d_firing
  b_firing : Binds K d_firing ["house", "message"] []
  m_firing : mg "firing" = some (.ref a_firing)
  a_w_stream : Addr
  d_w_stream : FuncData
  F_w_stream : Fun K "_law_stream" "_law_stream" s_w_stream a_w_stream d_w_stream
  b_w_stream : Binds K d_w_stream ["script", "start"] []
  m_w_stream : mg "_law_stream" = some (.ref a_w_stream)
  a_w_draw : Addr
  d_w_draw : FuncData
  F_w_draw : Fun K "_law_draw" "_law_draw" s_w_draw a_w_draw d_w_draw
  b_w_draw : Binds K d_w_draw ["stream", "size"] []
  m_w_draw : mg "_law_draw" = some (.ref a_w_draw)
  a_w_choose : Addr
  d_w_choose : FuncData
  F_w_choose : Fun K "_law_choose" "_law_choose" s_w_choose a_w_choose d_w_choose
  b_w_choose : Binds K d_w_choose ["stream", "things"] []
  m_w_choose : mg "_law_choose" = some (.ref a_w_choose)
  a_w_shuffled : Addr
  d_w_shuffled : FuncData
  F_w_shuffled : Fun K "_law_shuffled" "_law_shuffled" s_w_shuffled a_w_shuffled d_w_shuffled
  b_w_shuffled : Binds K d_w_shuffled ["stream", "things"] []
  m_w_shuffled : mg "_law_shuffled" = some (.ref a_w_shuffled)
  a_w_text : Addr
  d_w_text : FuncData
  F_w_text : Fun K "_law_text" "_law_text" s_w_text a_w_text d_w_text
  b_w_text : Binds K d_w_text ["stream"] []
  m_w_text : mg "_law_text" = some (.ref a_w_text)
  a_w_leaf : Addr
  d_w_leaf : FuncData
  F_w_leaf : Fun K "_law_leaf" "_law_leaf" s_w_leaf a_w_leaf d_w_leaf
  b_w_leaf : Binds K d_w_leaf ["stream"] []
  m_w_leaf : mg "_law_leaf" = some (.ref a_w_leaf)
  a_w_condition : Addr
  d_w_condition : FuncData
  F_w_condition : Fun K "_law_condition" "_law_condition" s_w_condition a_w_condition d_w_condition
  b_w_condition : Binds K d_w_condition ["stream"] []
  m_w_condition : mg "_law_condition" = some (.ref a_w_condition)
  a_w_action : Addr
  d_w_action : FuncData
  F_w_action : Fun K "_law_action" "_law_action" s_w_action a_w_action d_w_action
  b_w_action : Binds K d_w_action ["stream"] []
  m_w_action : mg "_law_action" = some (.ref a_w_action)
  a_w_rule : Addr
  d_w_rule : FuncData
  F_w_rule : Fun K "_law_rule" "_law_rule" s_w_rule a_w_rule d_w_rule
  b_w_rule : Binds K d_w_rule ["stream"] []
  m_w_rule : mg "_law_rule" = some (.ref a_w_rule)
  a_w_message : Addr
  d_w_message : FuncData
  F_w_message : Fun K "_law_message" "_law_message" s_w_message a_w_message d_w_message
  b_w_message : Binds K d_w_message ["stream", "address"] []
  m_w_message : mg "_law_message" = some (.ref a_w_message)
  a_w_plain_rule : Addr
  d_w_plain_rule : FuncData
  F_w_plain_rule : Fun K "_law_plain_rule" "_law_plain_rule" s_w_plain_rule a_w_plain_rule d_w_plain_rule
  b_w_plain_rule : Binds K d_w_plain_rule ["stream"] []
  m_w_plain_rule : mg "_law_plain_rule" = some (.ref a_w_plain_rule)
  a_w_parted : Addr
  d_w_parted : FuncData
  F_w_parted : Fun K "_law_parted" "_law_parted" s_w_parted a_w_parted d_w_parted
  b_w_parted : Binds K d_w_parted ["stream", "rule"] []
  m_w_parted : mg "_law_parted" = some (.ref a_w_parted)
  mkH : Mk K C a_H_init
  n_all : mg "all" = none
  n_enumerate : mg "enumerate" = none
  n_int : mg "int" = none
  n_isinstance : mg "isinstance" = none
  n_len : mg "len" = none
  n_list : mg "list" = none
  n_max : mg "max" = none
  n_min : mg "min" = none
  n_ord : mg "ord" = none
  n_range : mg "range" = none
  n_set : mg "set" = none
  n_sorted : mg "sorted" = none
  n_str : mg "str" = none
  n_tuple : mg "tuple" = none
  n_zip : mg "zip" = none
  u_END_WORDS : Value
  c_END_WORDS : mg "END_WORDS" = some u_END_WORDS
  q_END_WORDS : Wtn K u_END_WORDS ["drop", "stop"]
  t_FIRST_CODE : Tok
  c_FIRST_CODE : mg "FIRST_CODE" = some (.int 32 t_FIRST_CODE)
  u_GROUP_WORDS : Value
  c_GROUP_WORDS : mg "GROUP_WORDS" = some u_GROUP_WORDS
  q_GROUP_WORDS : Wtn K u_GROUP_WORDS ["all", "any"]
  t_INBOX : Tok
  c_INBOX : mg "INBOX" = some (.str "inbox" t_INBOX)
  t_LAST_CODE : Tok
  c_LAST_CODE : mg "LAST_CODE" = some (.int 126 t_LAST_CODE)
  t_MOST_ACTIONS : Tok
  c_MOST_ACTIONS : mg "MOST_ACTIONS" = some (.int 6 t_MOST_ACTIONS)
  t_MOST_ADDRESSES : Tok
  c_MOST_ADDRESSES : mg "MOST_ADDRESSES" = some (.int 20 t_MOST_ADDRESSES)
  t_MOST_CHARACTERS : Tok
  c_MOST_CHARACTERS : mg "MOST_CHARACTERS" = some (.int 8 t_MOST_CHARACTERS)
  t_MOST_CHARACTERS_IS : Tok
  c_MOST_CHARACTERS_IS : mg "MOST_CHARACTERS_IS" = some (.int 8 t_MOST_CHARACTERS_IS)
  t_MOST_CONDITIONS : Tok
  c_MOST_CONDITIONS : mg "MOST_CONDITIONS" = some (.int 8 t_MOST_CONDITIONS)
  t_MOST_DEEP : Tok
  c_MOST_DEEP : mg "MOST_DEEP" = some (.int 4 t_MOST_DEEP)
  t_MOST_LETTERS : Tok
  c_MOST_LETTERS : mg "MOST_LETTERS" = some (.int 12 t_MOST_LETTERS)
  t_MOST_RULES : Tok
  c_MOST_RULES : mg "MOST_RULES" = some (.int 10 t_MOST_RULES)
  u_NAME_WORDS : Value
  c_NAME_WORDS : mg "NAME_WORDS" = some u_NAME_WORDS
  q_NAME_WORDS : Wtn K u_NAME_WORDS ["file", "forward", "mark"]
  t_PERCENT_CODE : Tok
  c_PERCENT_CODE : mg "PERCENT_CODE" = some (.int 37 t_PERCENT_CODE)
  t_REPLY_MARK : Tok
  c_REPLY_MARK : mg "REPLY_MARK" = some (.str "auto" t_REPLY_MARK)
  u_TEXT_WORDS_conditions : Value
  c_TEXT_WORDS_conditions : mg "TEXT_WORDS_conditions" = some u_TEXT_WORDS_conditions
  q_TEXT_WORDS_conditions : Wtn K u_TEXT_WORDS_conditions ["contains", "begins", "ends"]
  u_TEXT_WORDS_houses : Value
  c_TEXT_WORDS_houses : mg "TEXT_WORDS_houses" = some u_TEXT_WORDS_houses
  q_TEXT_WORDS_houses : Wtn K u_TEXT_WORDS_houses ["tag", "reply"]
def okC (c : Nat) : Bool := decide (32 ≤ c) && decide (c ≤ 126) && !decide (c = 37)
def loC (c : Nat) : Bool := decide (97 ≤ c) && decide (c ≤ 122)
def isName (d : PyData) : Bool := match d with
  | .str x => decide (1 ≤ x.length) && decide (x.length ≤ 12) && x.cps.toList.all loC
  | _ => false
def isSubj (d : PyData) : Bool := match d with
  | .str x => x.cps.toList.all okC
  | _ => false
def isTxt (d : PyData) : Bool := match d with
  | .str x => isSubj (.str x) && decide (1 ≤ x.length) && decide (x.length ≤ 8)
  | _ => false
def risB : List PyData → Bool
  | .str x :: .str y :: r => ltS x y && risB (.str y :: r)
  | _ => true
def isNT (d : PyData) : Bool := match d with
  | .tuple xs => xs.all isName && risB xs
  | _ => false
def isMsg (d : PyData) : Bool := match d with
  | .tuple [a, b, c, m] => isName a && isName b && isSubj c && isNT m
  | _ => false
abbrev Wt (d : PyData) : Prop := d.weight ≤ 4000
def gP (f : PyData → Bool) : FL := fun ds R => ∃ d, ds = [.p d] ∧ Wt d ∧ R (.p (.bool (f d)))
def gCode : FL := fun ds R => ∃ c : Nat, ds = [.p (.int c)] ∧ R (.p (.bool (okC c)))
theorem leS_1 {a b : Nat} : leS ⟨#[a]⟩ ⟨#[b]⟩ = decide (a ≤ b) := by
  unfold leS
  have e : ([b] < [a]) ↔ b < a := by
    rw [List.cons_lt_cons_iff]
    simp
  show (!decide ([b] < [a])) = _
  by_cases h : b < a
  · rw [decide_eq_true (e.mpr h), decide_eq_false (by omega)]
    rfl
  · rw [decide_eq_false (fun z => h (e.mp z)), decide_eq_true (by omega)]
    rfl
theorem wt_str {x : Str} (h : Wt (.str x)) : x.length ≤ 4000 := by
  have h' : PyData.weight (.str x) ≤ 4000 := h
  rw [show PyData.weight (.str x) = x.cps.size by simp only [PyData.weight]] at h'
  exact h'
theorem big {n : Nat} (h : n ≤ 4000) : n ≤ sizeLine := Nat.le_trans h (by decide)
theorem signs_len (x : Str) : (signsD x).length = x.length := by
  unfold signsD
  rw [List.length_map, Array.length_toList]
  rfl
theorem mem_signs {x : Str} {d : PyData} (h : d ∈ signsD x) : ∃ c ∈ x.cps.toList, d = .str ⟨#[c]⟩ := by
  unfold signsD at h
  obtain ⟨c, hc, e⟩ := List.mem_map.mp h
  exact ⟨c, hc, e.symm⟩
theorem all_signs {x : Str} {q : PyData → Bool} {p : Nat → Bool} (e : ∀ c, q (.str ⟨#[c]⟩) = p c) : (signsD x).all q = x.cps.toList.all p := by
  unfold signsD
  rw [List.all_map]
  congr 1
  funext c
  exact e c
theorem all_map_of {ds : List PyData} {q : PyData → Bool} {R : DV → Prop} (h : R (.p (.bool (ds.all q)))) : fAll [.p (.list (ds.map fun d => .bool (q d)))] R := ⟨ds.map q, by rw [List.map_map]; rfl, by rw [List.all_map]; exact h⟩
theorem s_a : (Str.ofString "a") = ⟨#[97]⟩ := by decide +kernel
theorem s_z : (Str.ofString "z") = ⟨#[122]⟩ := by decide +kernel
theorem s_sp : (Str.ofString " ") = ⟨#[32]⟩ := by decide +kernel
theorem s_ti : (Str.ofString "~") = ⟨#[126]⟩ := by decide +kernel
def sg1 (p : Nat → Bool) (d : PyData) : Bool := match d with
  | .str x => (match x.cps.toList with | [c] => p c | _ => false)
  | _ => false
abbrev loD := sg1 loC
abbrev okD' := sg1 okC
theorem emp_fm {ds : List PyData} {q : PyData → Bool} : (ds.filterMap fun d => if q d = true then none else some d).isEmpty = ds.all q := by
  induction ds with
  | nil => rfl
  | cons d ds ih =>
    cases e : q d with
    | true => rw [List.filterMap_cons_none (by simp [e]), ih, List.all_cons, e, Bool.true_and]
    | false => rw [List.filterMap_cons_some (b := d) (by simp [e]), List.all_cons, e]; rfl
theorem isName_str {x : Str} (h : isName (.str x) = true) : x.length ≤ 12 := by
  simp only [isName, Bool.and_eq_true, decide_eq_true_eq] at h
  exact h.1.2
theorem wt_mem {x : PyData} : ∀ {xs : List PyData}, x ∈ xs → x.weight + 1 ≤ PyData.weightAll xs
  | [], h => absurd h List.not_mem_nil
  | y :: ys, h => by
    rw [show PyData.weightAll (y :: ys) = y.weight + 1 + PyData.weightAll ys by simp only [PyData.weightAll]]
    rcases List.mem_cons.mp h with e | m
    · rw [e]; omega
    · have := wt_mem m; omega
theorem wt_len : ∀ xs : List PyData, xs.length ≤ PyData.weightAll xs
  | [] => Nat.zero_le _
  | y :: ys => by
    rw [show PyData.weightAll (y :: ys) = y.weight + 1 + PyData.weightAll ys by simp only [PyData.weightAll], List.length_cons]
    have := wt_len ys
    omega
theorem wt_tup {xs : List PyData} (h : Wt (.tuple xs)) : PyData.weightAll xs ≤ 4000 := by
  have h' : PyData.weight (.tuple xs) ≤ 4000 := h
  rw [show PyData.weight (.tuple xs) = PyData.weightAll xs by simp only [PyData.weight]] at h'
  exact h'
theorem wt_in {xs : List PyData} {x : PyData} (h : Wt (.tuple xs)) (m : x ∈ xs) : Wt x := by
  have := wt_tup h
  have := wt_mem m
  show x.weight ≤ 4000
  omega
theorem all_sorted {x : Str} {zs : List Str} {p : Nat → Bool} (hm : ∀ y, y ∈ zs ↔ y ∈ x.cps.toList.map fun c => (⟨#[c]⟩ : Str)) : (zs.map PyData.str).all (sg1 p) = x.cps.toList.all p := by
  rw [Bool.eq_iff_iff, List.all_eq_true, List.all_eq_true]
  constructor
  · intro h c hc
    exact h (.str ⟨#[c]⟩) (List.mem_map.mpr ⟨_, (hm _).mpr (List.mem_map.mpr ⟨c, hc, rfl⟩), rfl⟩)
  · intro h d hd
    obtain ⟨y, hy, rfl⟩ := List.mem_map.mp hd
    obtain ⟨c, hc, rfl⟩ := List.mem_map.mp ((hm y).mp hy)
    exact h c hc
theorem cut_from {xs : List PyData} (k : Nat) : cutD xs (some (k : Int)) none = xs.drop k := by
  unfold cutD
  rw [HT.sIx_nat, HT.sIx_none]
  by_cases h : k ≤ xs.length
  · rw [Nat.min_eq_left h]
    exact List.take_of_length_le (by rw [List.length_drop]; exact Nat.le_refl _)
  · rw [Nat.min_eq_right (by omega), Nat.sub_self, List.take_zero, List.drop_eq_nil_of_le (by omega)]
theorem cut_to {xs : List PyData} (k : Nat) : cutD xs none (some (k : Int)) = xs.take k := by
  unfold cutD
  rw [HT.sIx_nat, HT.sIx_none, List.drop_zero, Nat.sub_zero]
  by_cases h : k ≤ xs.length
  · rw [Nat.min_eq_left h]
  · rw [Nat.min_eq_right (by omega), List.take_length, List.take_of_length_le (by omega)]
def prB (d : PyData) : Bool := match d with
  | .tuple [.str a, .str b] => ltS a b
  | _ => false
theorem name_str {d : PyData} (h : isName d = true) : ∃ x, d = .str x := by
  cases d with
  | str x => exact ⟨x, rfl⟩
  | _ => exact Bool.noConfusion h
theorem mem_pairs {d : PyData} : ∀ {xs ys : List PyData}, d ∈ pairsD xs ys → ∃ a ∈ xs, ∃ b ∈ ys, d = .tuple [a, b]
  | [], _, h => absurd h List.not_mem_nil
  | _ :: _, [], h => absurd h List.not_mem_nil
  | x :: xs, y :: ys, h => by
    rcases List.mem_cons.mp (show d ∈ PyData.tuple [x, y] :: pairsD xs ys from h) with e | m
    · exact ⟨x, List.mem_cons_self, y, List.mem_cons_self, e⟩
    · obtain ⟨a, ha, b, hb, e⟩ := mem_pairs m
      exact ⟨a, List.mem_cons_of_mem _ ha, b, List.mem_cons_of_mem _ hb, e⟩
theorem all_pairs : ∀ {xs : List PyData}, xs.all isName = true → (pairsD xs (xs.drop 1)).all prB = risB xs
  | [], _ => rfl
  | [x], h => by
    obtain ⟨a, rfl⟩ := name_str (List.all_eq_true.mp h x List.mem_cons_self)
    rfl
  | x :: y :: r, h => by
    rw [List.all_cons, Bool.and_eq_true] at h
    obtain ⟨a, rfl⟩ := name_str h.1
    obtain ⟨b, rfl⟩ := name_str (List.all_eq_true.mp h.2 y List.mem_cons_self)
    have ih := all_pairs h.2
    show (prB (.tuple [.str a, .str b]) && (pairsD (.str b :: r) ((PyData.str b :: r).drop 1)).all prB) = (ltS a b && risB (.str b :: r))
    rw [ih]
    rfl
theorem risB_iff : ∀ {xs : List Str}, risB (xs.map .str) = true ↔ RisS xs
  | [] => ⟨fun _ => List.Pairwise.nil, fun _ => rfl⟩
  | [x] => ⟨fun _ => List.pairwise_singleton _ _, fun _ => rfl⟩
  | x :: y :: r => by
    have ih := risB_iff (xs := y :: r)
    show (ltS x y && risB ((y :: r).map .str)) = true ↔ _
    rw [Bool.and_eq_true, ih]
    constructor
    · rintro ⟨h1, h2⟩
      have h1 : x.cps.toList < y.cps.toList := of_decide_eq_true h1
      refine List.Pairwise.cons (fun z hz => ?_) h2
      rcases List.mem_cons.mp hz with e | m
      · rw [e]; exact h1
      · exact Std.lt_trans h1 ((List.pairwise_cons.mp h2).1 z m)
    · intro h
      obtain ⟨h1, h2⟩ := List.pairwise_cons.mp h
      exact ⟨decide_eq_true (h1 y List.mem_cons_self), h2⟩
theorem names_strs : ∀ {xs : List PyData}, xs.all isName = true → ∃ ks : List Str, xs = ks.map .str
  | [], _ => ⟨[], rfl⟩
  | x :: xs, h => by
    rw [List.all_cons, Bool.and_eq_true] at h
    obtain ⟨a, rfl⟩ := name_str h.1
    obtain ⟨ks, rfl⟩ := names_strs h.2
    exact ⟨a :: ks, rfl⟩
theorem isMsg_not {xs : List PyData} (h : xs.length ≠ 4) : isMsg (.tuple xs) = false := by
  match xs, h with
  | [], _ => rfl
  | [_], _ => rfl
  | [_, _], _ => rfl
  | [_, _, _], _ => rfl
  | [_, _, _, _], h => exact absurd rfl h
  | _ :: _ :: _ :: _ :: _ :: _, _ => rfl
theorem eqv_int {a b : Int} : PyData.eqv (.int a) (.int b) = decide (a = b) := by
  simp only [PyData.eqv]
  by_cases z : a = b
  · subst z; rw [decide_eq_true rfl]; exact beq_self_eq_true a
  · rw [decide_eq_false z]
    exact beq_eq_false_iff_ne.mpr z
theorem plain_strs (ks : List Str) : (PyData.list (ks.map .str)).plain = true := by
  simp only [PyData.plain]
  induction ks with
  | nil => rfl
  | cons k ks ih => simp only [List.map_cons, PyData.plainAll, PyData.plain, ih, Bool.true_and]
theorem depthAll_strs (ks : List Str) : PyData.depthAll (ks.map .str) = 0 := by
  induction ks with
  | nil => rfl
  | cons k ks ih => simp only [List.map_cons, PyData.depthAll, PyData.depth, ih, Nat.max_self]
theorem depth_strs (ks : List Str) : (PyData.list (ks.map .str)).depth = 1 := by
  simp only [PyData.depth, depthAll_strs]
theorem eqvAll_strs : ∀ ks zs : List Str, PyData.eqvAll (ks.map .str) (zs.map .str) = decide (ks = zs)
  | [], [] => rfl
  | [], z :: zs => rfl
  | k :: ks, [] => rfl
  | k :: ks, z :: zs => by
    simp only [List.map_cons, PyData.eqvAll, PyData.eqv, eqvAll_strs ks zs]
    by_cases h : k = z
    · subst h
      simp
    · simp [h]
theorem eqv_strs (ks zs : List Str) : PyData.eqv (.list (ks.map .str)) (.list (zs.map .str)) = decide (ks = zs) := by
  simp only [PyData.eqv, eqvAll_strs]
theorem ris_dec {ks zs : List Str} (hr : RisS zs) (hm : ∀ x, x ∈ zs ↔ x ∈ ks) : decide (ks = zs) = risB (ks.map .str) := by
  rw [Bool.eq_iff_iff, risB_iff, decide_eq_true_iff]
  exact ⟨fun e => e ▸ hr, fun h => risS_one h hr fun x => (hm x).symm⟩
/-- a drawn number: any below m -/
def gDraw : FL := fun ds R => ∃ m : Int, ds = [.well, .p (.int m)] ∧ 0 < m ∧ m < 1000000 ∧ ∀ k : Nat, (k : Int) < m → R (.p (.int k))
def gWell : FL := fun ds R => ∃ (ns : List Int) (a : Nat), ds = [.scr ns, .p (.int a)] ∧ ns.length ≤ 63 ∧ (∀ n ∈ ns, Bd 1048576 n) ∧ a ≤ 63 ∧ R .well
def gChoose : FL := fun ds R => ∃ xs : List PyData, ds = [.well, .p (.list xs)] ∧ 0 < xs.length ∧ xs.length < 1000000 ∧ ∀ x ∈ xs, R (.p x)
theorem bd32 {n : Nat} {i : Int} (h : i.natAbs < 4294967296) (hn : 32 ≤ n := by decide) : Bd n i := ⟨32, by decide, hn, h⟩
theorem bd64 {n : Nat} {i : Int} (h : i.natAbs < 18446744073709551616) (hn : 64 ≤ n := by decide) : Bd n i := ⟨64, by decide, hn, h⟩
structure Gd (n m : Nat) (d : PyData) : Prop where
  lf : d.leavesShort 64 = true
  sh : d.showable = true
  wt : d.weight ≤ n
  dp : d.depth ≤ m
theorem no_depth {xs : List PyData} (h : (PyData.tuple xs).depth ≤ 0) : False := by
  rw [show (PyData.tuple xs).depth = PyData.depthAll xs + 1 by simp only [PyData.depth]] at h
  omega
theorem Gd.shows {n m : Nat} {d : PyData} (g : Gd n m d) (hn : n ≤ 100000) (hm : m ≤ 90) : Shows d := ⟨g.sh, by
  have := PyData.shown_le 64 (by decide) d g.lf
  have := g.wt
  refine Nat.le_trans ‹d.shown.length ≤ _› (Nat.le_trans (Nat.add_le_add_right (Nat.mul_le_mul (Nat.le_refl _) (Nat.le_trans g.wt hn)) _) (by decide)), Nat.le_trans g.dp (by omega)⟩
def contD (d : PyData) : Prop := (∃ xs, d = .list xs) ∨ (∃ xs, d = .tuple xs)
def gBent (n : Nat) : FL := fun ds R => ∃ (xs : List PyData) (m : Nat), ds = [.well, .p (.tuple xs)] ∧ Gd m n (.tuple xs) ∧ m ≤ 3000 ∧ ∀ d, Gd (m + 600) (n + 1) d → contD d → R (.p d)
def anyL : List PyData := [.none, .bool true, .bool false, .int 0, .int 1, .int (-1), .int (10 ^ Int.toNat 59), .str (Str.ofString ""), .str (Str.ofString "a"), .str (Str.ofString "A"), .str (Str.ofString "a b"), .str (Str.ofString "abcdefghijkl"), .str (Str.ofString "abcdefghijklm"), .str (Str.ofString "a\n"), .str (Str.ofString "\t"), .str (Str.ofString "12345678"), .str (Str.ofString "123456789"), .tuple [], .tuple [.str (Str.ofString "a")], .tuple [.str (Str.ofString "b"), .str (Str.ofString "a")], .tuple [.str (Str.ofString "a"), .str (Str.ofString "a")], .list [.str (Str.ofString "a")], .list [], .dict [], .tuple [.str (Str.ofString "a"), .str (Str.ofString "b")], .str (Txt.mul (Str.ofString "~") 40)]
theorem cut_from1 {xs : List PyData} (k : Nat) : cutD xs (some ((k : Int) + 1)) none = xs.drop (k + 1) := cut_from (k + 1)
theorem lf_all {B : Nat} : ∀ xs : List PyData, PyData.leavesShortAll B xs = xs.all (PyData.leavesShort B)
  | [] => rfl
  | x :: xs => by simp only [PyData.leavesShortAll, List.all_cons, lf_all xs]
theorem sh_all : ∀ xs : List PyData, PyData.showableAll xs = xs.all PyData.showable
  | [] => rfl
  | x :: xs => by simp only [PyData.showableAll, List.all_cons, sh_all xs]
theorem dp_all {k : Nat} : ∀ {xs : List PyData}, PyData.depthAll xs ≤ k ↔ ∀ x ∈ xs, x.depth ≤ k
  | [] => by simp [PyData.depthAll]
  | x :: xs => by
    simp only [PyData.depthAll, List.mem_cons, forall_eq_or_imp]
    rw [Nat.max_le, dp_all (xs := xs)]
theorem wt_app : ∀ xs ys : List PyData, PyData.weightAll (xs ++ ys) = PyData.weightAll xs + PyData.weightAll ys
  | [], ys => by rw [List.nil_append, show PyData.weightAll [] = 0 by simp only [PyData.weightAll], Nat.zero_add]
  | x :: xs, ys => by
    rw [List.cons_append, show PyData.weightAll (x :: (xs ++ ys)) = x.weight + 1 + PyData.weightAll (xs ++ ys) by simp only [PyData.weightAll], wt_app xs ys, show PyData.weightAll (x :: xs) = x.weight + 1 + PyData.weightAll xs by simp only [PyData.weightAll]]
    omega
theorem wt_one (x : PyData) : PyData.weightAll [x] = x.weight + 1 := by simp only [PyData.weightAll, Nat.add_zero]
theorem wt_td (xs : List PyData) (i : Nat) : PyData.weightAll (xs.take i) + PyData.weightAll (xs.drop i) = PyData.weightAll xs := by rw [← wt_app, List.take_append_drop]
theorem wt_drop (xs : List PyData) (i : Nat) : PyData.weightAll (xs.drop (i + 1)) ≤ PyData.weightAll (xs.drop i) := by
  rw [← List.drop_drop]
  have := wt_td (xs.drop i) 1
  omega
structure GdA (n m : Nat) (xs : List PyData) : Prop where
  lf : ∀ x ∈ xs, x.leavesShort 64 = true
  sh : ∀ x ∈ xs, x.showable = true
  wt : PyData.weightAll xs ≤ n
  dp : ∀ x ∈ xs, x.depth + 1 ≤ m
theorem GdA.tup {n m : Nat} {xs : List PyData} (g : GdA n m xs) (h1 : 1 ≤ m) : Gd n m (.tuple xs) := ⟨by simp only [PyData.leavesShort]; rw [lf_all]; exact List.all_eq_true.mpr g.lf, by simp only [PyData.showable]; rw [sh_all]; exact List.all_eq_true.mpr g.sh, by simp only [PyData.weight]; exact g.wt, by
  simp only [PyData.depth]
  have : PyData.depthAll xs ≤ m - 1 := dp_all.mpr fun x hx => by have := g.dp x hx; omega
  omega⟩
theorem GdA.lst {n m : Nat} {xs : List PyData} (g : GdA n m xs) (h1 : 1 ≤ m) : Gd n m (.list xs) := ⟨by simp only [PyData.leavesShort]; rw [lf_all]; exact List.all_eq_true.mpr g.lf, by simp only [PyData.showable]; rw [sh_all]; exact List.all_eq_true.mpr g.sh, by simp only [PyData.weight]; exact g.wt, by
  simp only [PyData.depth]
  have : PyData.depthAll xs ≤ m - 1 := dp_all.mpr fun x hx => by have := g.dp x hx; omega
  omega⟩
theorem Gd.all {n m : Nat} {xs : List PyData} (g : Gd n m (.tuple xs)) : GdA n m xs := by
  have lf := g.lf
  have sh := g.sh
  have wt := g.wt
  have dp := g.dp
  simp only [PyData.leavesShort, PyData.showable, PyData.weight, PyData.depth, lf_all, sh_all] at lf sh wt dp
  have dp' := dp_all.mp (show PyData.depthAll xs ≤ m - 1 by omega)
  exact ⟨List.all_eq_true.mp lf, List.all_eq_true.mp sh, wt, fun x hx => by have := dp' x hx; omega⟩
theorem Gd.up {n m n' m' : Nat} {d : PyData} (g : Gd n m d) (h1 : n ≤ n') (h2 : m ≤ m') : Gd n' m' d := ⟨g.lf, g.sh, Nat.le_trans g.wt h1, Nat.le_trans g.dp h2⟩
theorem gd_cut {m n N i : Nat} {xs : List PyData} (q : Gd m n (.tuple xs)) (hn : n ≤ N) (h1 : 1 ≤ N) : Gd m N (.tuple (xs.take i ++ xs.drop (i + 1))) := by
  have g := q.all
  have w1 := wt_td xs i
  have w2 := wt_drop xs i
  have w3 := g.wt
  have mem : ∀ y ∈ xs.take i ++ xs.drop (i + 1), y ∈ xs := fun y hy => by
    rcases List.mem_append.mp hy with z | z
    · exact List.mem_of_mem_take z
    · exact List.mem_of_mem_drop z
  exact GdA.tup ⟨fun y hy => g.lf y (mem y hy), fun y hy => g.sh y (mem y hy), by rw [wt_app]; omega, fun y hy => Nat.le_trans (g.dp y (mem y hy)) hn⟩ h1
theorem gd_put {m n a b N i j : Nat} {xs : List PyData} {x : PyData} (q : Gd m n (.tuple xs)) (g : Gd a b x) (hij : j = i ∨ j = i + 1) (hn : n ≤ N) (hb : b + 1 ≤ N) : Gd (m + a + 1) N (.tuple (xs.take i ++ [x] ++ xs.drop j)) := by
  have g' := q.all
  have w1 := wt_td xs i
  have w2 := wt_drop xs i
  have w3 := g'.wt
  have w4 := g.wt
  have mem : ∀ y ∈ xs.take i ++ [x] ++ xs.drop j, y ∈ xs ∨ y = x := fun y hy => by
    rcases List.mem_append.mp hy with z | z
    · rcases List.mem_append.mp z with z | z
      · exact .inl (List.mem_of_mem_take z)
      · exact .inr (List.mem_singleton.mp z)
    · exact .inl (List.mem_of_mem_drop z)
  refine GdA.tup ⟨fun y hy => ?_, fun y hy => ?_, ?_, fun y hy => ?_⟩ (by omega)
  · rcases mem y hy with z | z
    · exact g'.lf y z
    · rw [z]; exact g.lf
  · rcases mem y hy with z | z
    · exact g'.sh y z
    · rw [z]; exact g.sh
  · rw [wt_app, wt_app, wt_one]
    rcases hij with e | e
    · subst e; omega
    · subst e; omega
  · rcases mem y hy with z | z
    · exact Nat.le_trans (g'.dp y z) hn
    · rw [z]; have := g.dp; omega
theorem gd_swap {m n b N c i : Nat} {xs : List PyData} {x : PyData} (hi : i < xs.length) (q : Gd m n (.tuple xs)) (g : Gd (xs[i].weight + c) b x) (hn : n ≤ N) (hb : b + 1 ≤ N) : Gd (m + c) N (.tuple (xs.take i ++ [x] ++ xs.drop (i + 1))) := by
  have g' := q.all
  have w1 := wt_td xs i
  have w3 := g'.wt
  have w4 := g.wt
  rw [List.drop_eq_getElem_cons hi] at w1
  rw [show PyData.weightAll (xs[i] :: xs.drop (i + 1)) = xs[i].weight + 1 + PyData.weightAll (xs.drop (i + 1)) by simp only [PyData.weightAll]] at w1
  have big := gd_put (i := i) (j := i + 1) q g (.inr rfl) hn hb
  refine ⟨big.lf, big.sh, ?_, big.dp⟩
  simp only [PyData.weight]
  rw [wt_app, wt_app, wt_one]
  omega
theorem any_gd {d : PyData} (h : d ∈ anyL) : Gd 500 1 d := by
  have e : (anyL.all fun d => d.leavesShort 64 && d.showable && decide (d.weight ≤ 500) && decide (d.depth ≤ 1)) = true := by decide +kernel
  have q := List.all_eq_true.mp e d h
  rw [Bool.and_eq_true, Bool.and_eq_true, Bool.and_eq_true] at q
  exact ⟨q.1.1.1, q.1.1.2, of_decide_eq_true q.1.2, of_decide_eq_true q.2⟩
theorem eqv_str (a : Str) : PyData.eqv (.str a) (.str a) = true := by
  simp only [PyData.eqv]
  exact beq_self_eq_true a
theorem shows4 (a b c e : Bool) : Shows (.list [.bool a, .bool b, .bool c, .bool e]) := Gd.shows (n := 100) (m := 5) ⟨by simp only [PyData.leavesShort, PyData.leavesShortAll, Bool.and_true], by simp only [PyData.showable, PyData.showableAll, Bool.and_true], by simp only [PyData.weight, PyData.weightAll]; decide, by simp only [PyData.depth, PyData.depthAll]; decide⟩ (by decide) (by decide)
theorem txt_not {d : PyData} (h : isSubj d = false) : isTxt d = false := by
  cases d with
  | str x => simp only [isTxt, h, Bool.false_and]
  | _ => rfl
theorem subj_str {d : PyData} (h : isSubj d = true) : ∃ x, d = .str x := by
  cases d with
  | str x => exact ⟨x, rfl⟩
  | _ => exact Bool.noConfusion h
theorem mem_rng {d : PyData} {lo : Int} {n : Nat} (h : d ∈ rngD lo n) : ∃ k : Nat, k < n ∧ d = .int (lo + (k : Int)) := by
  unfold rngD at h
  obtain ⟨k, hk, e⟩ := List.mem_map.mp h
  exact ⟨k, List.mem_range.mp hk, e.symm⟩
theorem tl_app (a b : Str) : (a ++ b).cps.toList = a.cps.toList ++ b.cps.toList := by
  rw [show (a ++ b).cps = a.cps ++ b.cps from rfl, Array.toList_append]
theorem len_app (a b : Str) : (a ++ b).length = a.length + b.length := by
  show (a.cps ++ b.cps).size = _
  rw [Array.size_append]
  rfl
theorem wt_s {x : Str} (h : x.length ≤ 4000) : Wt (.str x) := by
  show PyData.weight (.str x) ≤ 4000
  rw [show PyData.weight (.str x) = x.cps.size by simp only [PyData.weight]]
  exact h
theorem sz2 {a b : Nat} (ha : a ≤ 4000) (hb : b ≤ 4000) : a + b ≤ sizeLine := Nat.le_trans (Nat.add_le_add ha hb) (by decide)
theorem fold_rep (a : Array Nat) : ∀ (k : Nat) (acc : Array Nat), ((List.replicate k a).foldl (· ++ ·) acc).toList = acc.toList ++ (List.replicate k a.toList).flatten
  | 0, acc => by simp
  | k + 1, acc => by
    rw [List.replicate_succ, List.foldl_cons, fold_rep a k, List.replicate_succ, List.flatten_cons, Array.toList_append, List.append_assoc]
theorem mul_tl (x : Str) (k : Nat) (h1 : 1 < k) (h2 : x.length ≠ 0) : (Txt.mul x (k : Int)).cps.toList = (List.replicate k x.cps.toList).flatten := by
  unfold Txt.mul
  rw [if_neg (by omega), if_neg (by
    intro z
    rcases (Bool.or_eq_true _ _).mp z with z | z
    · have := eq_of_beq z
      omega
    · exact h2 (eq_of_beq z))]
  show ((List.replicate ((k : Int)).toNat x.cps).foldl (· ++ ·) #[]).toList = _
  rw [fold_rep, Int.toNat_natCast]
  rfl
theorem ab_ne : (Str.ofString "ab").length ≠ 0 := by decide
theorem len_mul_ab (k : Nat) (h : 1 < k := by decide) : (Txt.mul (Str.ofString "ab") (k : Int)).length = k * 2 := by
  have e := mul_tl (Str.ofString "ab") k h ab_ne
  show (Txt.mul (Str.ofString "ab") (k : Int)).cps.size = _
  rw [← Array.length_toList, e, List.length_flatten, List.map_replicate, List.sum_replicate_nat]
  rfl
theorem subj_app (x y : Str) : isSubj (.str (x ++ y)) = (isSubj (.str x) && isSubj (.str y)) := by
  simp only [isSubj, tl_app, List.all_append]
theorem subj_ab (k : Nat) (h : 1 < k := by decide) : isSubj (.str (Txt.mul (Str.ofString "ab") (k : Int))) = true := by
  simp only [isSubj]
  rw [mul_tl _ k h ab_ne]
  refine List.all_eq_true.mpr fun c hc => ?_
  obtain ⟨l, hl, hc⟩ := List.mem_flatten.mp hc
  rw [(List.mem_replicate.mp hl).2] at hc
  exact List.all_eq_true.mp (show (Str.ofString "ab").cps.toList.all okC = true by decide +kernel) c hc
theorem chk_az {c : Nat} (h : PyData.str ⟨#[c]⟩ ∈ signsD (Str.ofString "abcdefghijklmnopqrstuvwxyz")) : isName (.str (Str.ofString "abcdefghijk" ++ ⟨#[c]⟩)) = true ∧ isName (.str ⟨#[c]⟩) = true ∧ isTxt (.str ⟨#[c]⟩) = true := by
  have e : ((signsD (Str.ofString "abcdefghijklmnopqrstuvwxyz")).all fun d => match d with | .str y => isName (.str (Str.ofString "abcdefghijk" ++ y)) && isName (.str y) && isTxt (.str y) | _ => false) = true := by decide +kernel
  have q := List.all_eq_true.mp e _ h
  have q : (isName (.str (Str.ofString "abcdefghijk" ++ ⟨#[c]⟩)) && isName (.str ⟨#[c]⟩) && isTxt (.str ⟨#[c]⟩)) = true := q
  rw [Bool.and_eq_true, Bool.and_eq_true] at q
  exact ⟨q.1.1, q.1.2, q.2⟩
abbrev otS : Str := Str.ofString " !\"#$&'()*+,-./0123456789:;<=>?@ABCDEFGHIJKLMNOPQRSTUVWXYZ[\\]^_`{|}~"
theorem chk_ot {c : Nat} (h : PyData.str ⟨#[c]⟩ ∈ signsD otS) : isName (.str (Str.ofString "abc" ++ ⟨#[c]⟩ ++ Str.ofString "efgh")) = false ∧ isName (.str ⟨#[c]⟩) = false ∧ isSubj (.str (Txt.mul (Str.ofString "ab") 600 ++ ⟨#[c]⟩)) = true ∧ isTxt (.str ⟨#[c]⟩) = true := by
  have e : ((signsD otS).all fun d => match d with | .str y => !isName (.str (Str.ofString "abc" ++ y ++ Str.ofString "efgh")) && !isName (.str y) && isSubj (.str y) && isTxt (.str y) | _ => false) = true := by decide +kernel
  have q := List.all_eq_true.mp e _ h
  have q : (!isName (.str (Str.ofString "abc" ++ ⟨#[c]⟩ ++ Str.ofString "efgh")) && !isName (.str ⟨#[c]⟩) && isSubj (.str ⟨#[c]⟩) && isTxt (.str ⟨#[c]⟩)) = true := q
  rw [Bool.and_eq_true, Bool.and_eq_true, Bool.and_eq_true, Bool.not_eq_true', Bool.not_eq_true'] at q
  exact ⟨q.1.1.1, q.1.1.2, by rw [subj_app, q.1.2, Bool.and_true]; exact subj_ab 600, q.2⟩
theorem l1s (c : Nat) : (⟨#[c]⟩ : Str).length ≤ 2000 := by
  show 1 ≤ 2000
  decide
theorem l600 : (Txt.mul (Str.ofString "ab") 600).length = 1200 := len_mul_ab 600
theorem l1500 : (Txt.mul (Str.ofString "ab") 1500).length = 3000 := len_mul_ab 1500
theorem wt_a {a b : Str} (ha : a.length ≤ 2000) (hb : b.length ≤ 2000) : Wt (.str (a ++ b)) := wt_s (by rw [len_app]; omega)
theorem sz4 {a b : Nat} (ha : a ≤ 2000) (hb : b ≤ 2000) : a + b ≤ sizeLine := Nat.le_trans (Nat.add_le_add ha hb) (by decide)
theorem le_a {a b : Str} (ha : a.length ≤ 1000) (hb : b.length ≤ 1000) : (a ++ b).length ≤ 2000 := by rw [len_app]; omega
theorem l1t (c : Nat) : (⟨#[c]⟩ : Str).length ≤ 1000 := by
  show 1 ≤ 1000
  decide
theorem chk_nt {d : PyData} (h : d ∈ [PyData.str (Str.ofString "\n"), .str (Str.ofString "\t")]) : ∃ y, d = .str y ∧ y.length ≤ 1000 ∧ isSubj (.str y) = false ∧ isSubj (.str (Str.ofString "a" ++ y ++ Str.ofString "b")) = false ∧ isTxt (.str (Str.ofString "a" ++ y)) = false := by
  rcases List.mem_cons.mp h with e | h
  · exact ⟨_, e, by decide, by decide +kernel, by decide +kernel, by decide +kernel⟩
  · exact ⟨_, List.mem_singleton.mp h, by decide, by decide +kernel, by decide +kernel, by decide +kernel⟩
theorem wt_m {xs : List PyData} (h : PyData.weightAll xs ≤ 4000) : Wt (.tuple xs) := by
  show PyData.weight (.tuple xs) ≤ 4000
  simp only [PyData.weight]
  exact h
theorem msg1 : Wt (.tuple [.str (Str.ofString "a"), .str (Str.ofString "b"), .str (Txt.mul (Str.ofString "ab") 1500), .tuple [.str (Str.ofString "m")]]) ∧ isMsg (.tuple [.str (Str.ofString "a"), .str (Str.ofString "b"), .str (Txt.mul (Str.ofString "ab") 1500), .tuple [.str (Str.ofString "m")]]) = true := by
  constructor
  · refine wt_m ?_
    have e : (Txt.mul (Str.ofString "ab") 1500).cps.size = 3000 := l1500
    simp only [PyData.weightAll, PyData.weight, e]
    decide
  · simp only [isMsg]
    rw [show isName (.str (Str.ofString "a")) = true by decide +kernel, show isName (.str (Str.ofString "b")) = true by decide +kernel, show isNT (.tuple [.str (Str.ofString "m")]) = true by decide +kernel, show isSubj (.str (Txt.mul (Str.ofString "ab") 1500)) = true from subj_ab 1500]
    rfl
theorem msg2 : Wt (.tuple [.str (Str.ofString "a"), .str (Str.ofString "b"), .str (Txt.mul (Str.ofString "ab") 600 ++ Str.ofString "\n"), .tuple []]) ∧ isMsg (.tuple [.str (Str.ofString "a"), .str (Str.ofString "b"), .str (Txt.mul (Str.ofString "ab") 600 ++ Str.ofString "\n"), .tuple []]) = false := by
  constructor
  · refine wt_m ?_
    have e : (Txt.mul (Str.ofString "ab") 600 ++ Str.ofString "\n").cps.size = 1201 := by
      have := len_app (Txt.mul (Str.ofString "ab") 600) (Str.ofString "\n")
      rw [l600] at this
      exact this
    simp only [PyData.weightAll, PyData.weight, e]
    decide
  · simp only [isMsg]
    rw [subj_app, show isSubj (.str (Str.ofString "\n")) = false by decide +kernel, Bool.and_false, Bool.and_false, Bool.false_and]
structure SOk (n : Nat) (x : Str) : Prop where
  len : x.cps.toList.length ≤ n
  cp : ∀ c ∈ x.cps.toList, c < 16 ^ 8
theorem SOk.app {n m : Nat} {x y : Str} (a : SOk n x) (b : SOk m y) : SOk (n + m) (x ++ y) := ⟨by rw [tl_app, List.length_append]; exact Nat.add_le_add a.len b.len, fun c hc => by
  rw [tl_app] at hc
  exact (List.mem_append.mp hc).elim (a.cp c) (b.cp c)⟩
theorem SOk.join : ∀ {ys : List Str}, (∀ y ∈ ys, SOk 1 y) → SOk ys.length (Str.join (Str.ofString "") ys)
  | [], _ => ⟨Nat.le_refl 0, fun c hc => absurd hc List.not_mem_nil⟩
  | [x], h => h x List.mem_cons_self
  | x :: y :: r, h => by
    have ih := SOk.join (ys := y :: r) fun z hz => h z (List.mem_cons_of_mem _ hz)
    have e : SOk 0 (Str.ofString "") := ⟨Nat.le_refl 0, fun c hc => absurd hc List.not_mem_nil⟩
    have q := ((h x List.mem_cons_self).app e).app ih
    show SOk ((y :: r).length + 1) (x ++ Str.ofString "" ++ Str.join (Str.ofString "") (y :: r))
    rw [Nat.add_comm]
    exact q
theorem SOk.gd {n : Nat} {x : Str} (a : SOk n x) (h : n ≤ 100) : Gd 100 1 (.str x) := ⟨by simp only [PyData.leavesShort]; exact List.all_eq_true.mpr fun c hc => decide_eq_true (a.cp c hc), by simp only [PyData.showable], by
  simp only [PyData.weight]
  have := a.len
  rw [Array.length_toList] at this
  omega, by simp only [PyData.depth]; decide⟩
def gdB (d : PyData) : Bool := d.leavesShort 64 && d.showable && decide (d.weight ≤ 100) && decide (d.depth ≤ 1)
theorem gd_chk {L : List PyData} (e : L.all gdB = true) {d : PyData} (h : d ∈ L) : Gd 100 1 d := by
  have q := List.all_eq_true.mp e d h
  unfold gdB at q
  rw [Bool.and_eq_true, Bool.and_eq_true, Bool.and_eq_true] at q
  exact ⟨q.1.1.1, q.1.1.2, of_decide_eq_true q.1.2, of_decide_eq_true q.2⟩
theorem gd4 {a b c d : PyData} (ga : Gd 100 1 a) (gb : Gd 100 1 b) (gc : Gd 100 1 c) (gd : Gd 100 1 d) : Gd 1000 2 (.tuple [a, b, c, d]) := by
  have mem : ∀ (p : PyData → Prop), p a → p b → p c → p d → ∀ x ∈ [a, b, c, d], p x := fun p pa pb pc pd x hx => by
    rcases List.mem_cons.mp hx with e | hx
    · rw [e]; exact pa
    rcases List.mem_cons.mp hx with e | hx
    · rw [e]; exact pb
    rcases List.mem_cons.mp hx with e | hx
    · rw [e]; exact pc
    rw [List.mem_singleton.mp hx]
    exact pd
  refine GdA.tup ⟨mem _ ga.lf gb.lf gc.lf gd.lf, mem _ ga.sh gb.sh gc.sh gd.sh, ?_, mem _ (Nat.succ_le_succ ga.dp) (Nat.succ_le_succ gb.dp) (Nat.succ_le_succ gc.dp) (Nat.succ_le_succ gd.dp)⟩ (by decide)
  simp only [PyData.weightAll]
  have := ga.wt
  have := gb.wt
  have := gc.wt
  have := gd.wt
  omega
theorem menu_ok {x : PyData} (h : x ∈ [PyData.str (Str.ofString "a"), .str (Str.ofString " "), .str (Str.ofString "~"), .str (Str.ofString "Z"), .str (Str.ofString "9")]) : ∃ y, x = .str y ∧ SOk 1 y := by
  have e : ([PyData.str (Str.ofString "a"), .str (Str.ofString " "), .str (Str.ofString "~"), .str (Str.ofString "Z"), .str (Str.ofString "9")].all fun d => match d with | .str y => decide (y.cps.toList.length ≤ 1) && y.cps.toList.all (fun c => decide (c < 16 ^ 8)) | _ => false) = true := by decide +kernel
  have q := List.all_eq_true.mp e x h
  cases x with
  | str y =>
    rw [Bool.and_eq_true] at q
    exact ⟨y, rfl, of_decide_eq_true q.1, fun c hc => of_decide_eq_true (List.all_eq_true.mp q.2 c hc)⟩
  | _ => exact Bool.noConfusion q
theorem strs_of : ∀ {zs : List PyData}, (∀ z ∈ zs, ∃ y, z = .str y ∧ SOk 1 y) → ∃ ys : List Str, zs = ys.map .str ∧ ys.length = zs.length ∧ ∀ y ∈ ys, SOk 1 y
  | [], _ => ⟨[], rfl, rfl, fun _ h => absurd h List.not_mem_nil⟩
  | z :: zs, h => by
    obtain ⟨y, rfl, sy⟩ := h z List.mem_cons_self
    obtain ⟨ys, rfl, e, hs⟩ := strs_of fun z hz => h z (List.mem_cons_of_mem _ hz)
    exact ⟨y :: ys, rfl, by rw [List.length_cons, List.length_cons, e], fun u hu => by
      rcases List.mem_cons.mp hu with e | m
      · rw [e]; exact sy
      · exact hs u m⟩
theorem sum1 : ∀ {ys : List Str}, (∀ y ∈ ys, SOk 1 y) → (ys.map (·.length)).sum ≤ ys.length
  | [], _ => Nat.le_refl 0
  | y :: ys, h => by
    rw [List.map_cons, List.sum_cons, List.length_cons]
    have a := (h y List.mem_cons_self).len
    rw [Array.length_toList] at a
    have b := sum1 fun z hz => h z (List.mem_cons_of_mem _ hz)
    have : y.length ≤ 1 := a
    omega
theorem rng_len (lo : Int) (n : Nat) : (rngD lo n).length = n := by
  unfold rngD
  rw [List.length_map, List.length_range]
theorem take_cap (xs : List PyData) (i : Nat) : (xs.take i).length ≤ xs.length := by rw [List.length_take]; omega
theorem drop_cap (xs : List PyData) (i : Nat) : (xs.drop i).length ≤ xs.length := by rw [List.length_drop]; omega
def gAny : FL := fun ds R => ds = [.well] ∧ ∀ d ∈ anyL, R (.p d)
def gTold : FL := fun ds R => ∃ d, ds = [.p d] ∧ Gd 4000 90 d ∧ R (.p (.bool true))
def fAnyG : FL := fun ds R => False
def fNoG : FL := fun _ _ => False
theorem fnNo {P : Program} {w : World} {K : PySem.W.Frag} {mg : Str → Option Value} {base : Heap} {k : Nat} {f : Addr} {fd : FuncData} {ps : List Str} {κ : Ky} : FnG P w K mg base CX0 k f fd ps (spD κ fNoG) := ⟨fun vs H Q E ⟨ds, R, P, dm, r, h, k⟩ => h.elim, fun A gd o s H a us vs Q E r e b v ⟨ds, R, P, dm, r, h, k⟩ => h.elim⟩
def neU (d : PyData) : Bool := match d with | .tuple xs => !xs.isEmpty | _ => false
def leL (d : PyData) (k : Nat) : Bool := match d with | .str x => decide (x.length ≤ k) | _ => false
def isSing (x p : PyData) : Bool :=
  if eqW x "from" = true then isNT p && neU p
  else if eqW x "marked" = true then isName p
  else if eqW x "is" = true then isSubj p && leL p 8
  else inW x ["contains", "begins", "ends"] && isTxt p
def gSing : FL := fun ds R => ∃ x p, ds = [.p x, .p p] ∧ Wt p ∧ R (.p (.bool (isSing x p)))
def isCW : Nat → PyData → Bool
  | 0, _ => false
  | n + 1, .tuple [w, p] => if eqW w "not" = true then isCW n p
    else if inW w ["all", "any"] = true then (match p with | .tuple xs => decide (xs.length ≤ 8) && xs.all (isCW n) | _ => false)
    else isSing w p
  | _ + 1, _ => false
def isAC (n : Nat) (p : PyData) : Bool := match p with | .tuple xs => decide (xs.length ≤ 8) && xs.all (isCW n) | _ => false
def gCW (n : Nat) : FL := fun ds R => ∃ v, ds = [.p v, .p (.int n)] ∧ Wt v ∧ R (.p (.bool (isCW n v)))
def gAC (n : Nat) : FL := fun ds R => ∃ v, ds = [.p v, .p (.int n)] ∧ Wt v ∧ R (.p (.bool (isAC n v)))
theorem isCW_not {n : Nat} {xs : List PyData} (h : xs.length ≠ 2) : isCW (n + 1) (.tuple xs) = false := by
  match xs, h with
  | [], _ => rfl
  | [_], _ => rfl
  | [_, _], h => exact absurd rfl h
  | _ :: _ :: _ :: _, _ => rfl
def isNTn (d : PyData) : Bool := match d with | .tuple xs => !xs.isEmpty && (xs.all isName && risB xs) | _ => false
def gText : FL := fun ds R => ds = [.well] ∧ ∀ y, SOk 8 y → R (.p (.str y))
def gNames : FL := fun ds R => ∃ xs : List Str, ds = [.well, .p (.list (xs.map .str))] ∧ 0 < xs.length ∧ xs.length < 1000 ∧ (∀ x ∈ xs, SOk 4 x) ∧ ∀ zs : List Str, zs.length ≤ 3 → (∀ z ∈ zs, SOk 4 z) → R (.p (.tuple (zs.map .str)))
theorem SOk.up {n m : Nat} {x : Str} (a : SOk n x) (h : n ≤ m) : SOk m x := ⟨Nat.le_trans a.len h, a.cp⟩
theorem many_ok {m : PyData} (h : m ∈ [PyData.int 0, .int 0, .int 1, .int 1, .int 2, .int 4, .int 6, .int 7]) : ∃ k : Nat, m = .int k ∧ k ≤ 7 := by
  rcases List.mem_cons.mp h with e | h
  · exact ⟨0, e, by decide⟩
  rcases List.mem_cons.mp h with e | h
  · exact ⟨0, e, by decide⟩
  rcases List.mem_cons.mp h with e | h
  · exact ⟨1, e, by decide⟩
  rcases List.mem_cons.mp h with e | h
  · exact ⟨1, e, by decide⟩
  rcases List.mem_cons.mp h with e | h
  · exact ⟨2, e, by decide⟩
  rcases List.mem_cons.mp h with e | h
  · exact ⟨4, e, by decide⟩
  rcases List.mem_cons.mp h with e | h
  · exact ⟨6, e, by decide⟩
  exact ⟨7, List.mem_singleton.mp h, by decide⟩
theorem menu4_ok {x : PyData} (h : x ∈ [PyData.str (Str.ofString "a"), .str (Str.ofString "b"), .str (Str.ofString "a"), .str (Str.ofString " "), .str (Str.ofString "~")]) : ∃ y, x = .str y ∧ SOk 1 y := by
  have e : ([PyData.str (Str.ofString "a"), .str (Str.ofString "b"), .str (Str.ofString "a"), .str (Str.ofString " "), .str (Str.ofString "~")].all fun d => match d with | .str y => decide (y.cps.toList.length ≤ 1) && y.cps.toList.all (fun c => decide (c < 16 ^ 8)) | _ => false) = true := by decide +kernel
  have q := List.all_eq_true.mp e x h
  cases x with
  | str y =>
    rw [Bool.and_eq_true] at q
    exact ⟨y, rfl, of_decide_eq_true q.1, fun c hc => of_decide_eq_true (List.all_eq_true.mp q.2 c hc)⟩
  | _ => exact Bool.noConfusion q
theorem strs_of4 {n : Nat} : ∀ {zs : List PyData}, (∀ z ∈ zs, ∃ y, z = .str y ∧ SOk n y) → ∃ ys : List Str, zs = ys.map .str ∧ ys.length = zs.length ∧ ∀ y ∈ ys, SOk n y
  | [], _ => ⟨[], rfl, rfl, fun _ h => absurd h List.not_mem_nil⟩
  | z :: zs, h => by
    obtain ⟨y, rfl, sy⟩ := h z List.mem_cons_self
    obtain ⟨ys, rfl, e, hs⟩ := strs_of4 fun z hz => h z (List.mem_cons_of_mem _ hz)
    exact ⟨y :: ys, rfl, by rw [List.length_cons, List.length_cons, e], fun u hu => by
      rcases List.mem_cons.mp hu with e | m
      · rw [e]; exact sy
      · exact hs u m⟩
theorem ris_len : ∀ {zs ks : List Str}, RisS zs → (∀ z ∈ zs, z ∈ ks) → zs.length ≤ ks.length
  | [], _, _, _ => Nat.zero_le _
  | z :: zs, ks, hr, h => by
    obtain ⟨h1, h2⟩ := List.pairwise_cons.mp hr
    have hz := h z List.mem_cons_self
    have ih := ris_len (zs := zs) (ks := ks.erase z) h2 fun y hy => by
      have ne : y ≠ z := fun e => by
        subst e
        exact absurd (h1 y hy) (Std.lt_irrefl)
      exact (List.mem_erase_of_ne ne).mpr (h y (List.mem_cons_of_mem _ hy))
    rw [List.length_erase_of_mem hz] at ih
    have : 0 < ks.length := List.length_pos_of_mem hz
    rw [List.length_cons]
    omega
def mn9 (j : Int) : Int := if j < 9 then j else 9
def txB (lo : Nat) (p : PyData) : Bool := isSubj p && (match p with | .str x => decide (lo ≤ x.length) && decide (x.length ≤ 8) | _ => false)
def mxL (l : List Int) : Int := l.foldr max 0
def deepF : Nat → PyData → Int
  | 0, _ => 9
  | n + 1, .tuple [.str w, p] =>
    if eqW (.str w) "from" = true then (if isNTn p = true then 1 else 9)
    else if eqW (.str w) "marked" = true then (if isName p = true then 1 else 9)
    else if inW (.str w) ["contains", "begins", "ends", "is"] = true then (if txB (if eqW (.str w) "is" = true then 0 else 1) p = true then 1 else 9)
    else if eqW (.str w) "not" = true then mn9 (1 + deepF n p)
    else if inW (.str w) ["all", "any"] = true then (match p with | .tuple xs => if 8 < xs.length then 9 else mn9 (1 + mxL (xs.map (deepF n))) | _ => 9)
    else 9
  | _ + 1, _ => 9
def gDeep (n : Nat) : FL := fun ds R => ∃ d, ds = [.p d] ∧ d.depth ≤ n ∧ Wt d ∧ R (.p (.int (deepF n d)))
theorem mx_le {l : List Int} {m : Int} (h0 : 0 ≤ m) : mxL l ≤ m ↔ ∀ y ∈ l, y ≤ m := by
  unfold mxL
  induction l with
  | nil => simp [h0]
  | cons a l ih =>
    rw [List.foldr_cons, Int.max_le, ih]
    simp
theorem mx_mem (l : List Int) : mxL l = 0 ∨ mxL l ∈ l := by
  unfold mxL
  induction l with
  | nil => exact .inl rfl
  | cons a l ih =>
    rw [List.foldr_cons]
    rcases Int.le_total a (l.foldr max 0) with h | h
    · rw [Int.max_eq_right h]
      exact ih.imp id fun z => List.mem_cons_of_mem _ z
    · rw [Int.max_eq_left h]
      exact .inr List.mem_cons_self
theorem mx_pos (l : List Int) : 0 ≤ mxL l := by
  unfold mxL
  induction l with
  | nil => exact Int.le_refl 0
  | cons a l ih => rw [List.foldr_cons]; exact Int.le_trans ih (Int.le_max_right _ _)
theorem mx_of {l : List Int} {m : Int} (hm : m ∈ (0 :: l)) (hle : ∀ y ∈ (0 :: l), y ≤ m) : m = mxL l := by
  refine Int.le_antisymm ?_ ?_
  · rcases List.mem_cons.mp hm with e | h
    · rw [e]; exact mx_pos l
    · exact (mx_le (mx_pos l)).mp (Int.le_refl _) m h
  · exact (mx_le (hle 0 List.mem_cons_self)).mpr fun y hy => hle y (List.mem_cons_of_mem _ hy)
theorem dp_tup {n : Nat} {xs : List PyData} {x : PyData} (h : (PyData.tuple xs).depth ≤ n + 1) (m : x ∈ xs) : x.depth ≤ n := by
  rw [show (PyData.tuple xs).depth = PyData.depthAll xs + 1 by simp only [PyData.depth]] at h
  exact dp_all.mp (show PyData.depthAll xs ≤ n by omega) x m
theorem d19 {b : Bool} {m : Nat} (h : m + 1 ≤ 8) : decide ((if b = true then (1 : Int) else 9) ≤ ((m + 1 : Nat) : Int)) = b := by
  cases b with
  | true => exact decide_eq_true (by rw [if_pos rfl]; omega)
  | false => exact decide_eq_false (by rw [if_neg Bool.false_ne_true]; omega)
theorem d9 {m : Nat} (h : m + 1 ≤ 8) : decide ((9 : Int) ≤ ((m + 1 : Nat) : Int)) = false := decide_eq_false (by omega)
theorem dmn {m : Nat} {x : Int} (h : m + 1 ≤ 8) : decide (mn9 (1 + x) ≤ ((m + 1 : Nat) : Int)) = decide (x ≤ (m : Int)) := by
  rw [decide_eq_decide]
  unfold mn9
  split <;> omega
theorem deep_pos : ∀ (n : Nat) (d : PyData), 1 ≤ deepF n d
  | 0, d => by show (1 : Int) ≤ 9; decide
  | n + 1, d => by
    unfold deepF
    split
    · cases ‹n + 1 = 0›
    · rename_i n' w p e
      cases e
      split
      · split <;> decide
      · split
        · split <;> decide
        · split
          · split <;> first | decide | (split <;> decide)
          · split
            · have := deep_pos n p
              unfold mn9
              split <;> omega
            · split
              · split
                · split
                  · decide
                  · have := mx_pos (List.map (deepF n) ‹_›)
                    unfold mn9
                    split <;> omega
                · decide
              · decide
    · decide
theorem txt_tx {p : PyData} : isTxt p = txB 1 p := by
  cases p with
  | str x => simp only [isTxt, txB, Bool.and_assoc]
  | _ => rfl
theorem is_tx {p : PyData} : (isSubj p && leL p 8) = txB 0 p := by
  cases p with
  | str x => simp only [leL, txB, Nat.zero_le, decide_true, Bool.true_and]
  | _ => rfl
theorem ntn {p : PyData} : (isNT p && neU p) = isNTn p := by
  cases p with
  | tuple xs =>
    simp only [isNT, neU, isNTn]
    cases xs.isEmpty <;> simp
  | _ => rfl
theorem deep_eq : ∀ (m n : Nat) (d : PyData), m ≤ 8 → d.depth ≤ n → isCW m d = decide (deepF n d ≤ (m : Int))
  | 0, n, d, _, _ => by
    have := deep_pos n d
    rw [decide_eq_false (by omega)]
    unfold isCW
    rfl
  | m + 1, n, d, h8, hd => by
    cases d with
    | tuple xs =>
      cases n with
      | zero => exact (no_depth hd).elim
      | succ n =>
        by_cases h2 : xs.length = 2
        · match xs, h2 with
          | [x, p], _ =>
            have hp : p.depth ≤ n := dp_tup hd (by simp)
            cases x with
            | str w =>
              unfold isCW deepF
              have c1 := @deep_eq m n p (by omega) hp
              have lit : ∀ y : Str, eqW (.str w) y = true → w = y := fun y e => of_decide_eq_true e
              have inL : ∀ ys : List Str, inW (.str w) ys = true → w ∈ ys := fun ys e => by
                obtain ⟨y, hy, q⟩ := List.any_eq_true.mp e
                rw [lit y q]
                exact hy
              by_cases q1 : eqW (.str w) "from" = true
              · have e := lit _ q1
                subst e
                have f1 : eqW (.str (Str.ofString "from")) "not" = false := by decide +kernel
                have f2 : inW (.str (Str.ofString "from")) ["all", "any"] = false := by decide +kernel
                simp only [f1, f2, q1, Bool.false_eq_true, if_false, if_true, isSing, ntn]
                exact (d19 h8).symm
              · by_cases q2 : eqW (.str w) "marked" = true
                · have e := lit _ q2
                  subst e
                  have f1 : eqW (.str (Str.ofString "marked")) "not" = false := by decide +kernel
                  have f2 : inW (.str (Str.ofString "marked")) ["all", "any"] = false := by decide +kernel
                  simp only [f1, f2, q1, q2, Bool.false_eq_true, if_false, if_true, isSing]
                  exact (d19 h8).symm
                · by_cases q3 : inW (.str w) ["contains", "begins", "ends", "is"] = true
                  · have hw := inL _ q3
                    by_cases q4 : eqW (.str w) "is" = true
                    · have e := lit _ q4
                      subst e
                      have f1 : eqW (.str (Str.ofString "is")) "not" = false := by decide +kernel
                      have f2 : inW (.str (Str.ofString "is")) ["all", "any"] = false := by decide +kernel
                      simp only [f1, f2, q1, q2, q3, q4, Bool.false_eq_true, if_false, if_true, isSing, is_tx]
                      exact (d19 h8).symm
                    · have f3 : inW (.str w) ["contains", "begins", "ends"] = true ∧ eqW (.str w) "not" = false ∧ inW (.str w) ["all", "any"] = false := by
                        rcases List.mem_cons.mp hw with e | hw
                        · subst e; exact ⟨by decide +kernel, by decide +kernel, by decide +kernel⟩
                        rcases List.mem_cons.mp hw with e | hw
                        · subst e; exact ⟨by decide +kernel, by decide +kernel, by decide +kernel⟩
                        rcases List.mem_cons.mp hw with e | hw
                        · subst e; exact ⟨by decide +kernel, by decide +kernel, by decide +kernel⟩
                        · exact absurd (decide_eq_true (List.mem_singleton.mp hw)) q4
                      simp only [f3.1, f3.2.1, f3.2.2, q1, q2, q3, q4, Bool.false_eq_true, if_false, if_true, isSing, Bool.true_and, txt_tx]
                      exact (d19 h8).symm
                  · by_cases q4 : eqW (.str w) "not" = true
                    · simp only [q1, q2, q3, q4, Bool.false_eq_true, if_false, if_true]
                      rw [dmn h8]
                      exact c1
                    · by_cases q5 : inW (.str w) ["all", "any"] = true
                      · simp only [q1, q2, q3, q4, q5, Bool.false_eq_true, if_false, if_true]
                        cases p with
                        | tuple ys =>
                          show (decide (ys.length ≤ 8) && ys.all (isCW m)) = decide ((if 8 < ys.length then (9 : Int) else mn9 (1 + mxL (ys.map (deepF n)))) ≤ _)
                          by_cases q6 : 8 < ys.length
                          · rw [if_pos q6, d9 h8, decide_eq_false (by omega), Bool.false_and]
                          · rw [if_neg q6, decide_eq_true (show ys.length ≤ 8 by omega), Bool.true_and, dmn h8, Bool.eq_iff_iff, List.all_eq_true, decide_eq_true_iff, mx_le (by omega)]
                            have hy : ∀ y ∈ ys, y.depth ≤ n := fun y hy => by
                              rw [show (PyData.tuple ys).depth = PyData.depthAll ys + 1 by simp only [PyData.depth]] at hp
                              exact dp_all.mp (show PyData.depthAll ys ≤ n by omega) y hy
                            constructor
                            · intro h z hz
                              obtain ⟨y, hy2, rfl⟩ := List.mem_map.mp hz
                              have := h y hy2
                              rw [deep_eq m n y (by omega) (hy y hy2)] at this
                              exact of_decide_eq_true this
                            · intro h y hy2
                              rw [deep_eq m n y (by omega) (hy y hy2)]
                              exact decide_eq_true (h _ (List.mem_map.mpr ⟨y, hy2, rfl⟩))
                        | _ => exact (d9 h8).symm
                      · have f3 : inW (.str w) ["contains", "begins", "ends"] = false ∧ eqW (.str w) "is" = false := by
                          have q3' : (eqW (.str w) "contains" || (eqW (.str w) "begins" || (eqW (.str w) "ends" || (eqW (.str w) "is" || false)))) = false := Bool.eq_false_iff.mpr q3
                          rw [Bool.or_eq_false_iff, Bool.or_eq_false_iff, Bool.or_eq_false_iff, Bool.or_eq_false_iff] at q3'
                          obtain ⟨a1, a2, a3, a4, _⟩ := q3'
                          refine ⟨?_, a4⟩
                          show (eqW (.str w) "contains" || (eqW (.str w) "begins" || (eqW (.str w) "ends" || false))) = false
                          rw [a1, a2, a3]
                          rfl
                        simp only [f3.1, f3.2, q1, q2, q3, q4, q5, Bool.false_eq_true, if_false, isSing, Bool.false_and]
                        exact (d9 h8).symm
            | _ => exact (d9 h8).symm
        · rw [isCW_not h2]
          have e : deepF (n + 1) (.tuple xs) = 9 := by
            match xs, h2 with
            | [], _ => rfl
            | [x], _ => cases x <;> rfl
            | [_, _], h => exact absurd rfl h
            | x :: _ :: _ :: _, _ => cases x <;> rfl
          rw [e]
          exact (d9 h8).symm
    | _ =>
      first
        | (cases n <;> exact (d9 h8).symm)
        | exact (d9 h8).symm
def Wc : Nat → Nat
  | 0 => 21
  | n + 1 => 3 * Wc n + 8
def gCond (n : Nat) : FL := fun ds R => ds = [.well, .p (.int ((n + 1 : Nat) : Int))] ∧ ∀ d, Gd (Wc n) (2 * n + 2) d → (∃ xs, d = .tuple xs) → R (.p d)
theorem gd2 {a b m : Nat} {x y : PyData} (gx : Gd a m x) (gy : Gd b m y) : Gd (a + b + 2) (m + 1) (.tuple [x, y]) := by
  have mem : ∀ (p : PyData → Prop), p x → p y → ∀ z ∈ [x, y], p z := fun p px py z hz => by
    rcases List.mem_cons.mp hz with e | hz
    · rw [e]; exact px
    · rw [List.mem_singleton.mp hz]; exact py
  refine GdA.tup ⟨mem _ gx.lf gy.lf, mem _ gx.sh gy.sh, ?_, mem _ (Nat.succ_le_succ gx.dp) (Nat.succ_le_succ gy.dp)⟩ (by omega)
  simp only [PyData.weightAll]
  have := gx.wt
  have := gy.wt
  omega
theorem SOk.gs {n : Nat} {x : Str} (a : SOk n x) : Gd n 0 (.str x) := ⟨by simp only [PyData.leavesShort]; exact List.all_eq_true.mpr fun c hc => decide_eq_true (a.cp c hc), by simp only [PyData.showable], by
  simp only [PyData.weight]
  have := a.len
  rw [Array.length_toList] at this
  omega, by simp only [PyData.depth]; decide⟩
theorem wt_all {W : Nat} : ∀ {xs : List PyData}, (∀ x ∈ xs, x.weight ≤ W) → PyData.weightAll xs ≤ xs.length * (W + 1)
  | [], _ => by simp only [PyData.weightAll]; exact Nat.zero_le _
  | x :: xs, h => by
    have a := h x List.mem_cons_self
    have b := wt_all fun y hy => h y (List.mem_cons_of_mem _ hy)
    rw [show PyData.weightAll (x :: xs) = x.weight + 1 + PyData.weightAll xs by simp only [PyData.weightAll], List.length_cons, Nat.succ_mul]
    omega
theorem gdMany {W m k : Nat} {xs : List PyData} (h : ∀ x ∈ xs, Gd W m x) (hk : xs.length ≤ k) : GdA (k * (W + 1)) (m + 1) xs := ⟨fun x hx => (h x hx).lf, fun x hx => (h x hx).sh, Nat.le_trans (wt_all fun x hx => (h x hx).wt) (Nat.mul_le_mul hk (Nat.le_refl _)), fun x hx => Nat.succ_le_succ (h x hx).dp⟩
theorem sok {n : Nat} {x : Str} (h : (decide (x.cps.toList.length ≤ n) && x.cps.toList.all fun c => decide (c < 16 ^ 8)) = true) : SOk n x := by
  rw [Bool.and_eq_true] at h
  exact ⟨of_decide_eq_true h.1, fun c hc => of_decide_eq_true (List.all_eq_true.mp h.2 c hc)⟩
theorem sok_all {n : Nat} {L : List PyData} (h : (L.all fun d => match d with | .str x => decide (x.cps.toList.length ≤ n) && x.cps.toList.all (fun c => decide (c < 16 ^ 8)) | _ => false) = true) {d : PyData} (hd : d ∈ L) : ∃ y, d = .str y ∧ SOk n y := by
  have q := List.all_eq_true.mp h d hd
  cases d with
  | str y => exact ⟨y, rfl, sok q⟩
  | _ => exact Bool.noConfusion q
theorem leaf2 {a b : Nat} {x y : Str} (hx : SOk a x) (hy : SOk b y) (h : a + b + 2 ≤ 21) : Gd 21 2 (.tuple [.str x, .str y]) := (gd2 hx.gs hy.gs).up h (by decide)
theorem leaf_from {zs : List Str} (lz : zs.length ≤ 3) (hz : ∀ z ∈ zs, SOk 4 z) : Gd 21 2 (.tuple [.str (Str.ofString "from"), .tuple (zs.map .str)]) := by
  have g : Gd 15 1 (.tuple (zs.map .str)) := GdA.tup (gdMany (W := 4) (m := 0) (k := 3) (fun x hx => by
    obtain ⟨y, hy, rfl⟩ := List.mem_map.mp hx
    exact (hz y hy).gs) (by rw [List.length_map]; exact lz)) (by decide)
  exact (gd2 ((sok (n := 4) (by decide +kernel)).gs.up (Nat.le_refl _) (Nat.zero_le 1)) g).up (by decide) (by decide)
theorem names4_ok : ∀ x ∈ (["ann", "bob", "box", "team"] : List Str), SOk 4 x := fun x hx => by
  rcases List.mem_cons.mp hx with e | hx
  · rw [e]; exact sok (by decide +kernel)
  rcases List.mem_cons.mp hx with e | hx
  · rw [e]; exact sok (by decide +kernel)
  rcases List.mem_cons.mp hx with e | hx
  · rw [e]; exact sok (by decide +kernel)
  rw [List.mem_singleton.mp hx]
  exact sok (by decide +kernel)
theorem wc_le : ∀ n, 21 ≤ Wc n
  | 0 => Nat.le_refl _
  | n + 1 => by
    have := wc_le n
    show 21 ≤ 3 * Wc n + 8
    omega
def any4 : List PyData := [.none, .bool true, .int 0, .int 1, .str (Str.ofString ""), .str (Str.ofString "a"), .str (Str.ofString "all"), .str (Str.ofString "from"), .str (Str.ofString "is"), .tuple [], .tuple [.str (Str.ofString "a")], .list [.str (Str.ofString "a")], .tuple [.str (Str.ofString "b"), .str (Str.ofString "a")], .dict [], .str (Str.ofString "123456789"), .str (Str.ofString "a\n"), .tuple [.str (Str.ofString "all"), .tuple []], .tuple [.str (Str.ofString "any"), .tuple []], .tuple [.str (Str.ofString "not"), .tuple []], .tuple [.str (Str.ofString "is"), .str (Str.ofString "")], .tuple [.str (Str.ofString "begins"), .str (Str.ofString "")], .tuple [.str (Str.ofString "from"), .tuple []], .tuple [.str (Str.ofString "marked"), .str (Str.ofString "A")], .tuple [.str (Str.ofString "all"), .tuple (List.replicate (Int.toNat 8) [.tuple [.str (Str.ofString "is"), .str (Str.ofString "a")]]).flatten], .tuple [.str (Str.ofString "all"), .tuple (List.replicate (Int.toNat 9) [.tuple [.str (Str.ofString "is"), .str (Str.ofString "a")]]).flatten], .tuple [.str (Str.ofString "never")], .tuple [.str (Str.ofString "all")]]
theorem any4_gd {d : PyData} (h : d ∈ any4) : Gd 80 3 d := by
  have e : (any4.all fun d => d.leavesShort 64 && d.showable && decide (d.weight ≤ 80) && decide (d.depth ≤ 3)) = true := by decide +kernel
  have q := List.all_eq_true.mp e d h
  rw [Bool.and_eq_true, Bool.and_eq_true, Bool.and_eq_true] at q
  exact ⟨q.1.1.1, q.1.1.2, of_decide_eq_true q.1.2, of_decide_eq_true q.2⟩
def gAny4 : FL := fun ds R => ds = [.well] ∧ ∀ d ∈ any4, R (.p d)
def gBent4 (n : Nat) : FL := fun ds R => ∃ (xs : List PyData) (m : Nat), ds = [.well, .p (.tuple xs)] ∧ Gd m n (.tuple xs) ∧ m ≤ 3000 ∧ ∀ d, Gd (m + 90) (n + 3) d → contD d → R (.p d)
theorem FnG.ex {P : Program} {w : World} {K : PySem.W.Frag} {mg : Str → Option Value} {base : Heap} {k : Nat} {f : Addr} {fd : FuncData} {ps : List Str} {κ : Ky} {g : Nat → FL} {p : Nat → Prop} (len : ∀ vs H Q E, spD κ (fun ds R => ∃ i, p i ∧ g i ds R) vs H Q E → vs.length = ps.length) (F : ∀ i, p i → FnG P w K mg base CX0 k f fd ps (spD κ (g i))) : FnG P w K mg base CX0 k f fd ps (spD κ fun ds R => ∃ i, p i ∧ g i ds R) :=
  ⟨len, fun A gd o s H a us vs Q E r e b v ⟨ds, R, P, dm, rv, ⟨i, hi, h⟩, kk⟩ => (F i hi).go A gd o s H a us vs Q E r e b v ⟨ds, R, P, dm, rv, h, kk⟩⟩
def gCondA : FL := fun ds R => ∃ n, n ≤ 4 ∧ gCond n ds R
theorem wc4 : ∀ n, n ≤ 4 → Wc n ≤ 2021
  | 0, _ => by decide
  | 1, _ => by decide
  | 2, _ => by decide
  | 3, _ => by decide
  | 4, _ => by decide
  | n + 5, h => absurd h (by omega)
/-- for, counted -/
theorem for_ix {E : DE} {g : TDG} {tb : TDS} (I : Nat → Dn → Prop) : ∀ (ds : List PyData) (i : Nat) (δ : Dn), I i δ → (∀ d ∈ ds, ∀ j δ', I j δ' → ∀ (E' : DE), E'.rt = E.rt → (∀ δ2, I (j + 1) δ2 → E'.nx δ2) → g (.p d) δ' fun δ2 => tb E' δ2) → (∀ δ', I (i + ds.length) δ' → E.nx δ') → forL E g tb ds δ
  | [], i, δ, h, _, he => he δ h
  | d :: ds, i, δ, h, hb, he => hb d List.mem_cons_self i δ h _ rfl (fun δ2 h2 => for_ix I ds (i + 1) δ2 h2 (fun d' m => hb d' (List.mem_cons_of_mem _ m)) fun δ3 h3 => he δ3 (by rw [List.length_cons, Nat.add_comm ds.length 1, ← Nat.add_assoc]; exact h3))
def nest : Nat → PyData
  | 0 => .tuple [.str (Str.ofString "is"), .str (Str.ofString "")]
  | n + 1 => .tuple [.str (Str.ofString "not"), nest n]
theorem shows_b (b : Bool) : Shows (.bool b) := Gd.shows (n := 100) (m := 5) ⟨rfl, rfl, by show 0 ≤ 100; decide, by show 0 ≤ 5; decide⟩ (by decide) (by decide)
theorem deep5 {d : PyData} (h : d.depth ≤ 20) : decide (deepF 20 d < 5) = isCW 4 d := by
  rw [deep_eq 4 20 d (by decide) h, decide_eq_decide]
  omega
theorem eqv_bools {as bs : List Bool} : PyData.eqv (.list (as.map .bool)) (.list (bs.map .bool)) = decide (as = bs) := by
  simp only [PyData.eqv]
  induction as generalizing bs with
  | nil => cases bs <;> rfl
  | cons a as ih =>
    cases bs with
    | nil => rfl
    | cons b bs =>
      simp only [List.map_cons, PyData.eqvAll, PyData.eqv, ih]
      cases a <;> cases b <;> simp
theorem plain_bools (as : List Bool) : (PyData.list (as.map .bool)).plain = true := by
  simp only [PyData.plain]
  induction as with
  | nil => rfl
  | cons a as ih => simp only [List.map_cons, PyData.plainAll, PyData.plain, ih, Bool.true_and]
theorem depth_bools (as : List Bool) : (PyData.list (as.map .bool)).depth = 1 := by
  simp only [PyData.depth]
  have : PyData.depthAll (as.map PyData.bool) = 0 := by
    induction as with
    | nil => rfl
    | cons a as ih => simp only [List.map_cons, PyData.depthAll, PyData.depth, ih, Nat.max_self]
  rw [this]
def cntF (c : PyData) : PyData := match c with
  | .int i => .tuple (List.replicate i.toNat [PyData.tuple [.str (Str.ofString "is"), .str (Str.ofString "a")]]).flatten
  | _ => .none
abbrev rep8 (i : Int) : PyData := cntF (.int i)
def JA (ns : List Int) (δ : Dn) : Prop := ∃ y1 y2 y3 y4 y5 y6 y7 y8 y9 y10 y11 y12 y13 y14 y15 y16 : Sl, δ = [.v (.scr ns), y1, y2, y3, y4, y5, y6, y7, y8, y9, y10, y11, y12, y13, y14, y15, y16]
def nms4 : List PyData := [.str (Str.ofString "abcdefghijkl"), .str (Str.ofString "abcdefghijklm"), .str (Str.ofString "a b"), .str (Str.ofString "")]
def JN (ns : List Int) (δ : Dn) : Prop := ∃ y1 y2 y3 y4 y5 y6 y7 y8 y9 y10 y11 y13 y14 y15 y16 : Sl, δ = [.v (.scr ns), y1, y2, y3, y4, y5, y6, y7, y8, y9, y10, y11, .v (.p (.list nms4)), y13, y14, y15, y16]
def nDeep : Nat → PyData
  | 0 => .tuple [.str (Str.ofString "is"), .str (Str.ofString "")]
  | n + 1 => .tuple [.str (Str.ofString "not"), nDeep n]
def JD (n : Nat) (ns : List Int) (δ : Dn) : Prop := ∃ y1 y2 y3 y4 y5 y6 y7 y8 y9 y10 y11 y12 y13 y14 y15 : Sl, δ = [.v (.scr ns), y1, y2, y3, y4, y5, y6, y7, y8, y9, y10, y11, y12, y13, y14, y15, .v (.p (nDeep n))]
theorem eqB {as bs : List Bool} {R : DV → Prop} (h : as = bs) (hR : R (.p (.bool false))) : fEqQ true (.p (.list (as.map .bool))) (.p (.list (bs.map .bool))) R := by
  subst h
  refine ⟨plain_bools as, plain_bools as, Nat.le_trans (Nat.min_le_right _ _) (by rw [depth_bools]; decide), ?_⟩
  rw [show PyData.eqv (.list (as.map .bool)) (.list (as.map .bool)) = true by rw [eqv_bools]; exact decide_eq_true rfl]
  exact hR
theorem for_nat {E : DE} {g : TDG} {tb : TDS} (I : Nat → Dn → Prop) : ∀ (ds : List PyData) (n : Nat) (δ : Dn), I n δ → (∀ d ∈ ds, ∀ i δ', I i δ' → ∀ (E' : DE), E'.rt = E.rt → (∀ δ2, I (i + 1) δ2 → E'.nx δ2) → g (.p d) δ' fun δ2 => tb E' δ2) → (∀ δ', I (n + ds.length) δ' → E.nx δ') → forL E g tb ds δ
  | [], n, δ, h, _, he => he δ h
  | d :: ds, n, δ, h, hb, he => hb d List.mem_cons_self n δ h _ rfl fun δ2 h2 => for_nat I ds (n + 1) δ2 h2 (fun d' m => hb d' (List.mem_cons_of_mem _ m)) fun δ' h' => he δ' (by rw [List.length_cons, show n + (ds.length + 1) = n + 1 + ds.length by omega]; exact h')
theorem two_ok (d : PyData) (hd : d ∈ [PyData.str (Str.ofString "all"), PyData.str (Str.ofString "any")]) : ∃ w : Str, d = .str w ∧ isCW 4 (.tuple [.str w, rep8 0]) = true ∧ isCW 4 (.tuple [.str w, rep8 8]) = true ∧ isCW 4 (.tuple [.str w, rep8 9]) = false ∧ Wt (.tuple [.str w, rep8 0]) ∧ Wt (.tuple [.str w, rep8 8]) ∧ Wt (.tuple [.str w, rep8 9]) := by
  rcases List.mem_cons.mp hd with e | hd
  · exact ⟨_, e, by decide +kernel, by decide +kernel, by decide +kernel, by decide +kernel, by decide +kernel, by decide +kernel⟩
  · exact ⟨_, List.mem_singleton.mp hd, by decide +kernel, by decide +kernel, by decide +kernel, by decide +kernel, by decide +kernel, by decide +kernel⟩
theorem forD {E : DE} {g : TDG} {tb : TDS} {δ : Dn} {xs : List PyData} (h : forL E g tb xs δ) : asL (.p (.list xs)) (fun ds => forL E g tb ds δ) := h
theorem lcD {g : TDG} {tt : TB} {te : TD} {δ : Dn} {fin : List PyData → Prop} {xs : List PyData} (h : lcL g tt te δ fin xs []) : asL (.p (.list xs)) (fun ds => lcL g tt te δ fin ds []) := h
def pre8 (z : PyData) : PyData := match z with
  | .int i => .str (cutS (Str.ofString "abcdefgh") none (some i))
  | _ => .none
def ok5 (d : PyData) : Bool := match d with
  | .str w => decide ((rngD 0 9).map (fun z => isCW 4 (.tuple [.str w, pre8 z])) = eqW (.str w) "is" :: List.replicate 8 true) && !isCW 4 (.tuple [.str w, .str (Str.ofString "abcdefghi")]) && decide (Wt (.tuple [.str w, .str (Str.ofString "abcdefghi")])) && (rngD 0 9).all (fun z => decide (Wt (.tuple [.str w, pre8 z])))
  | _ => false
theorem ok5_of {d : PyData} (h : ok5 d = true) : ∃ w : Str, d = .str w ∧ (rngD 0 9).map (fun z => isCW 4 (.tuple [.str w, pre8 z])) = eqW (.str w) "is" :: List.replicate 8 true ∧ isCW 4 (.tuple [.str w, .str (Str.ofString "abcdefghi")]) = false ∧ Wt (.tuple [.str w, .str (Str.ofString "abcdefghi")]) ∧ ∀ z ∈ rngD 0 9, Wt (.tuple [.str w, pre8 z]) := by
  cases d with
  | str w =>
    have h : (decide ((rngD 0 9).map (fun z => isCW 4 (.tuple [.str w, pre8 z])) = eqW (.str w) "is" :: List.replicate 8 true) && !isCW 4 (.tuple [.str w, .str (Str.ofString "abcdefghi")]) && decide (Wt (.tuple [.str w, .str (Str.ofString "abcdefghi")])) && (rngD 0 9).all (fun z => decide (Wt (.tuple [.str w, pre8 z])))) = true := h
    simp only [Bool.and_eq_true, Bool.not_eq_true'] at h
    exact ⟨w, rfl, of_decide_eq_true h.1.1.1, h.1.1.2, of_decide_eq_true h.1.2, fun z hz => of_decide_eq_true (List.all_eq_true.mp h.2 z hz)⟩
  | _ => cases h
theorem sz {n m : Nat} (h : n ≤ m) (hm : m ≤ sizeLine := by decide) : n ≤ sizeLine := Nat.le_trans h hm
theorem lt_int {i j : Int} {R : DV → Prop} (h : R (.p (.bool (decide (i < j))))) : fLt (.p (.int i)) (.p (.int j)) R := h
theorem le_int {i j : Int} {R : DV → Prop} (h : R (.p (.bool (decide (i ≤ j))))) : fLe (.p (.int i)) (.p (.int j)) R := h
def okI (xs : List PyData) : Bool := decide ((xs.filter fun z => !nI z).length ≤ 1)
theorem okI_np {xs : List PyData} (h : okI xs = true) : nP xs = true := by
  match xs, h with
  | [], _ => rfl
  | [a], _ => cases a <;> rfl
  | [a, b], h =>
    cases a with
    | int i =>
      cases b with
      | int j => exact absurd (of_decide_eq_true h) (by show ¬ (2 : Nat) ≤ 1; omega)
      | _ => rfl
    | _ => rfl
  | a :: b :: c :: r, _ => cases a <;> first | rfl | (cases b <;> rfl)
theorem okI_sub {xs ys : List PyData} (s : ys.Sublist xs) (h : okI xs = true) : okI ys = true := decide_eq_true (Nat.le_trans (s.filter _).length_le (of_decide_eq_true h))
theorem okI_of {xs : List PyData} (h : ∀ x ∈ xs, nI x = true) : okI xs = true := by
  have e : xs.filter (fun z => !nI z) = [] := List.filter_eq_nil_iff.mpr fun x hx => by rw [h x hx]; decide
  unfold okI
  rw [e]
  rfl
theorem lc_fq {g : TDG} {tt : TB} {te : TD} {δ : Dn} {fin : List PyData → Prop} (q : PyData → Bool) : ∀ (ds acc : List PyData),
    (∀ d ∈ ds, ∀ (K1 : PyData → Prop) (K2 : Prop), (if q d = true then K2 else K1 d) → g (.p d) δ fun δ2 => tt δ2 fun b => if b = true then te δ2 fun y => asP y K1 else K2) →
    okI (acc ++ ds) = true → fin (acc ++ ds.filter fun d => !q d) → lcL g tt te δ fin ds acc
  | [], acc, _, _, h => by rw [List.filter_nil, List.append_nil] at h; exact h
  | d :: ds, acc, hd, ho, h => by
    refine hd d List.mem_cons_self _ _ ?_
    by_cases e : q d = true
    · rw [if_pos e]
      rw [List.filter_cons_of_neg (by rw [e]; decide)] at h
      exact lc_fq q ds acc (fun d' m => hd d' (List.mem_cons_of_mem _ m)) (okI_sub (List.Sublist.append_left (List.sublist_cons_self d ds) acc) ho) h
    · rw [if_neg e]
      rw [List.filter_cons_of_pos (by rw [Bool.eq_false_iff.mpr e]; rfl)] at h
      have ho2 : okI (acc ++ [d] ++ ds) = true := by rw [List.append_assoc]; exact ho
      exact ⟨okI_np (okI_sub (List.sublist_append_left (acc ++ [d]) ds) ho2), lc_fq q ds (acc ++ [d]) (fun d' m => hd d' (List.mem_cons_of_mem _ m)) ho2 (by rw [List.append_assoc]; exact h)⟩
theorem emp_fq {ds : List PyData} {q : PyData → Bool} : (ds.filter fun d => !q d).isEmpty = ds.all q := by
  rw [Bool.eq_iff_iff, List.isEmpty_iff, List.filter_eq_nil_iff, List.all_eq_true]
  exact ⟨fun h x hx => by have := h x hx; cases e : q x with | true => rfl | false => rw [e] at this; exact absurd rfl this, fun h x hx => by rw [h x hx]; decide⟩
mutual
def pc : PyData → Bool
  | .str x => x.cps.toList.all fun c => decide (c < 128) && !decide (c = 37)
  | .list xs => pcA xs
  | .tuple xs => pcA xs && okI xs
  | .dict _ => false
  | _ => true
def pcA : List PyData → Bool
  | [] => true
  | x :: xs => pc x && pcA xs
end
theorem pcA_all : ∀ xs : List PyData, pcA xs = xs.all pc
  | [] => by simp only [pcA, List.all_nil]
  | x :: xs => by simp only [pcA, List.all_cons, pcA_all xs]
theorem pc_tup {xs : List PyData} : pc (.tuple xs) = (xs.all pc && okI xs) := by simp only [pc, pcA_all]
theorem pc_lst {xs : List PyData} : pc (.list xs) = xs.all pc := by simp only [pc, pcA_all]
mutual
theorem pc_plain : ∀ d : PyData, pc d = true → d.plain = true
  | .none, _ => rfl
  | .bool _, _ => rfl
  | .int _, _ => rfl
  | .str _, _ => rfl
  | .list xs, h => by simp only [PyData.plain]; exact pcA_plain xs (by simpa only [pc] using h)
  | .tuple xs, h => by
    simp only [pc, Bool.and_eq_true] at h
    simp only [PyData.plain]
    exact pcA_plain xs h.1
  | .dict _, h => by simp only [pc] at h; cases h
theorem pcA_plain : ∀ xs : List PyData, pcA xs = true → PyData.plainAll xs = true
  | [], _ => rfl
  | x :: xs, h => by
    simp only [pcA, Bool.and_eq_true] at h
    simp only [PyData.plainAll, Bool.and_eq_true]
    exact ⟨pc_plain x h.1, pcA_plain xs h.2⟩
end
structure Gg (n m : Nat) (d : PyData) : Prop where
  gd : Gd n m d
  pc : pc d = true
theorem Gg.up {n m n' m' : Nat} {d : PyData} (g : Gg n m d) (h1 : n ≤ n') (h2 : m ≤ m') : Gg n' m' d := ⟨g.gd.up h1 h2, g.pc⟩
def ggB (n m : Nat) (d : PyData) : Bool := d.leavesShort 64 && d.showable && decide (d.weight ≤ n) && decide (d.depth ≤ m) && pc d
theorem gg_of {n m : Nat} {d : PyData} (q : ggB n m d = true) : Gg n m d := by
  unfold ggB at q
  simp only [Bool.and_eq_true] at q
  exact ⟨⟨q.1.1.1.1, q.1.1.1.2, of_decide_eq_true q.1.1.2, of_decide_eq_true q.1.2⟩, q.2⟩
theorem gg_chk {n m : Nat} {L : List PyData} (e : L.all (ggB n m) = true) {d : PyData} (h : d ∈ L) : Gg n m d := gg_of (List.all_eq_true.mp e d h)
theorem okI2 {x y : PyData} (h : nI x = true) : okI [x, y] = true := by
  unfold okI
  rw [List.filter_cons_of_neg (by rw [h]; decide)]
  exact decide_eq_true (Nat.le_trans (List.length_filter_le _ _) (Nat.le_refl 1))
theorem gg2 {a b m : Nat} {x y : PyData} (gx : Gg a m x) (gy : Gg b m y) (h : nI x = true) : Gg (a + b + 2) (m + 1) (.tuple [x, y]) := ⟨gd2 gx.gd gy.gd, by rw [pc_tup, okI2 h]; simp only [List.all_cons, List.all_nil, gx.pc, gy.pc, Bool.and_self]⟩
theorem ggT {W m k : Nat} {xs : List PyData} (h : ∀ x ∈ xs, Gg W m x) (hk : xs.length ≤ k) (ho : okI xs = true) : Gg (k * (W + 1)) (m + 1) (.tuple xs) := ⟨(gdMany (fun x hx => (h x hx).gd) hk).tup (by omega), by rw [pc_tup, ho, Bool.and_true]; exact List.all_eq_true.mpr fun x hx => (h x hx).pc⟩
theorem ggT1 {W m : Nat} {x : PyData} (h : Gg W m x) : Gg (W + 1) (m + 1) (.tuple [x]) := (ggT (k := 1) (xs := [x]) (fun y hy => by rw [List.mem_singleton.mp hy]; exact h) (Nat.le_refl 1) (decide_eq_true (List.length_filter_le _ _))).up (by omega) (Nat.le_refl _)
theorem ggL {W m k : Nat} {xs : List PyData} (h : ∀ x ∈ xs, Gg W m x) (hk : xs.length ≤ k) : Gg (k * (W + 1)) (m + 1) (.list xs) := ⟨(gdMany (fun x hx => (h x hx).gd) hk).lst (by omega), by rw [pc_lst]; exact List.all_eq_true.mpr fun x hx => (h x hx).pc⟩
theorem Gg.wt {n m : Nat} {d : PyData} (g : Gg n m d) (h : n ≤ 4000) : Wt d := Nat.le_trans g.gd.wt h
theorem pc_in {xs : List PyData} (h : pc (.tuple xs) = true) {x : PyData} (hx : x ∈ xs) : pc x = true := by
  rw [pc_tup, Bool.and_eq_true] at h
  exact List.all_eq_true.mp h.1 x hx
theorem pc_ok {xs : List PyData} (h : pc (.tuple xs) = true) : okI xs = true := by
  rw [pc_tup, Bool.and_eq_true] at h
  exact h.2
theorem in_az : ∀ c, c < 128 → inS ⟨#[c]⟩ (Str.ofString "abcdefghijklmnopqrstuvwxyz") = loC c := by decide +kernel
theorem pc_str {x : Str} (h : pc (.str x) = true) {c : Nat} (hc : c ∈ x.cps.toList) : c < 128 ∧ c ≠ 37 := by
  simp only [pc] at h
  have q := List.all_eq_true.mp h c hc
  simp only [Bool.and_eq_true, Bool.not_eq_true', decide_eq_true_eq, decide_eq_false_iff_not] at q
  exact q
theorem eqv_t0 {xs : List PyData} : PyData.eqv (.tuple xs) (.tuple []) = xs.isEmpty := by cases xs <;> simp only [PyData.eqv, PyData.eqvAll, List.isEmpty]
theorem eqv_t1 {x : PyData} {y : Str} : PyData.eqv (.tuple [x]) (.tuple [.str y]) = eqW x y := by
  simp only [PyData.eqv, PyData.eqvAll, Bool.and_true]
  exact eqv_sw
theorem eqv_t2 {x z : PyData} {r : List PyData} {y : Str} : PyData.eqv (.tuple (x :: z :: r)) (.tuple [.str y]) = false := by simp only [PyData.eqv, PyData.eqvAll, Bool.and_false]
theorem pl1 (y : Str) : (PyData.tuple [.str y]).plain = true := by simp only [PyData.plain, PyData.plainAll, Bool.and_self]
theorem dp1 (y : Str) : (PyData.tuple [.str y]).depth ≤ 60 := by simp only [PyData.depth, PyData.depthAll]; decide
def endB (d : PyData) : Bool := match d with | .tuple [x] => inW x ["drop", "stop"] | _ => false
def deedB (d : PyData) : Bool := match d with
  | .tuple [x, p] => if inW x ["file", "forward", "mark"] = true then isName p else inW x ["tag", "reply"] && isTxt p
  | _ => false
def actsB (d : PyData) : Bool := match d with
  | .tuple xs => decide (xs.length ≤ 6) && ((cutD xs none (some (-1))).all deedB && (cutD xs (some (-1)) none).all fun z => deedB z || endB z)
  | _ => false
def ruleB (d : PyData) : Bool := match d with
  | .tuple [c, a] => isCW 4 c && actsB a
  | _ => false
theorem end_not {xs : List PyData} (h : xs.length ≠ 1) : endB (.tuple xs) = false := by
  match xs, h with
  | [], _ => rfl
  | [_], h => exact absurd rfl h
  | _ :: _ :: _, _ => rfl
theorem deed_not {xs : List PyData} (h : xs.length ≠ 2) : deedB (.tuple xs) = false := by
  match xs, h with
  | [], _ => rfl
  | [_], _ => rfl
  | [_, _], h => exact absurd rfl h
  | _ :: _ :: _ :: _, _ => rfl
theorem rule_not {xs : List PyData} (h : xs.length ≠ 2) : ruleB (.tuple xs) = false := by
  match xs, h with
  | [], _ => rfl
  | [_], _ => rfl
  | [_, _], h => exact absurd rfl h
  | _ :: _ :: _ :: _, _ => rfl
def oneB (d : PyData) : Bool := match d with | .tuple [_] => true | _ => false
theorem deed_one {d : PyData} : deedB d = ((deedB d || endB d) && !oneB d) := by
  cases d with
  | tuple xs =>
    match xs with
    | [] => rfl
    | [_] => show false = (_ && !true); simp
    | [x, y] => show _ = ((deedB (.tuple [x, y]) || false) && !false); simp
    | _ :: _ :: _ :: _ => rfl
  | _ => rfl
theorem act_tup {d : PyData} (h : (deedB d || endB d) = true) : ∃ xs, d = .tuple xs := by
  cases d with
  | tuple xs => exact ⟨xs, rfl⟩
  | _ => exact Bool.noConfusion h
theorem one_len (xs : List PyData) : oneB (.tuple xs) = decide ((xs.length : Int) = 1) := by
  match xs with
  | [] => rfl
  | [_] => rfl
  | _ :: _ :: r => exact (decide_eq_false (by rw [List.length_cons, List.length_cons]; omega)).symm
theorem cut_init {xs : List PyData} : cutD xs none (some (-1)) = xs.take (xs.length - 1) := by
  unfold cutD
  rw [HT.sIx_none, Nat.sub_zero, List.drop_zero]
  show xs.take (if (-1 : Int) < 0 then ((-1 : Int) + (xs.length : Int)).toNat else min (-1 : Int).toNat xs.length) = _
  rw [if_pos (by decide), show ((-1 : Int) + (xs.length : Int)).toNat = xs.length - 1 by omega]
theorem cut_last {xs : List PyData} : cutD xs (some (-1)) none = xs.drop (xs.length - 1) := by
  unfold cutD
  show (xs.drop (if (-1 : Int) < 0 then ((-1 : Int) + (xs.length : Int)).toNat else min (-1 : Int).toNat xs.length)).take (xs.length - (if (-1 : Int) < 0 then ((-1 : Int) + (xs.length : Int)).toNat else min (-1 : Int).toNat xs.length)) = _
  rw [if_pos (by decide), show ((-1 : Int) + (xs.length : Int)).toNat = xs.length - 1 by omega]
  exact List.take_of_length_le (by rw [List.length_drop]; exact Nat.le_refl _)
theorem acts_eq (xs : List PyData) : actsB (.tuple xs) = (decide (xs.length ≤ 6) && (xs.all (fun d => deedB d || endB d) && (cutD xs none (some (-1))).all fun d => !oneB d)) := by
  show (decide (xs.length ≤ 6) && ((cutD xs none (some (-1))).all deedB && (cutD xs (some (-1)) none).all fun z => deedB z || endB z)) = _
  rw [cut_init, cut_last]
  congr 1
  conv => rhs; rw [← List.take_append_drop (xs.length - 1) xs]
  rw [List.all_append, List.take_append_drop]
  rw [show (xs.take (xs.length - 1)).all deedB = ((xs.take (xs.length - 1)).all (fun d => deedB d || endB d) && (xs.take (xs.length - 1)).all fun d => !oneB d) by
    rw [Bool.eq_iff_iff, Bool.and_eq_true, List.all_eq_true, List.all_eq_true, List.all_eq_true]
    constructor
    · intro h
      exact ⟨fun x hx => by rw [h x hx, Bool.true_or], fun x hx => by have := h x hx; rw [deed_one, Bool.and_eq_true] at this; exact this.2⟩
    · intro h x hx
      rw [deed_one, Bool.and_eq_true]
      exact ⟨h.1 x hx, h.2 x hx⟩]
  cases (xs.take (xs.length - 1)).all (fun d => deedB d || endB d) <;> cases (xs.take (xs.length - 1)).all (fun d => !oneB d) <;> cases (xs.drop (xs.length - 1)).all (fun d => deedB d || endB d) <;> rfl
theorem cut_mem {xs : List PyData} {lo hi : Option Int} {x : PyData} (h : x ∈ cutD xs lo hi) : x ∈ xs := List.mem_of_mem_drop (List.mem_of_mem_take h)
theorem cut_len (xs : List PyData) (lo hi : Option Int) : (cutD xs lo hi).length ≤ xs.length := by
  unfold cutD
  rw [List.length_take, List.length_drop]
  omega
def lineB (lo hi : Nat) (d : PyData) : Bool := match d with
  | .str x => decide (lo ≤ x.length) && decide (x.length ≤ hi) && x.cps.toList.all fun c => decide (32 ≤ c) && decide (c ≤ 126)
  | _ => false
theorem lineC {c : Nat} (h : c < 128 ∧ c ≠ 37) : okC c = (decide (32 ≤ c) && decide (c ≤ 126)) := by
  unfold okC
  rw [decide_eq_false h.2]
  simp
theorem line_subj {x : Str} (h : pc (.str x) = true) : (x.cps.toList.all fun c => decide (32 ≤ c) && decide (c ≤ 126)) = isSubj (.str x) := by
  simp only [isSubj]
  rw [Bool.eq_iff_iff, List.all_eq_true, List.all_eq_true]
  exact ⟨fun q c hc => by rw [lineC (pc_str h hc)]; exact q c hc, fun q c hc => by rw [← lineC (pc_str h hc)]; exact q c hc⟩
theorem line_txt {p : PyData} (h : pc p = true) : isTxt p = lineB 1 8 p := by
  cases p with
  | str x =>
    simp only [isTxt, lineB]
    rw [line_subj h]
    cases isSubj (.str x) <;> simp
  | _ => rfl
theorem line_is {p : PyData} (h : pc p = true) : (isSubj p && leL p 8) = lineB 0 8 p := by
  cases p with
  | str x =>
    simp only [leL, lineB]
    rw [line_subj h, decide_eq_true (Nat.zero_le _), Bool.true_and, Bool.and_comm]
  | _ => rfl
theorem nt_law (p : PyData) : (isNT p && neU p) = isNTn p := by
  cases p with
  | tuple xs =>
    simp only [isNT, neU, isNTn]
    cases xs.isEmpty <;> simp
  | _ => rfl
def condW (n : Nat) (x p : PyData) : Bool :=
  if eqW x "from" = true then isNTn p
  else if inW x ["contains", "begins", "ends"] = true then lineB 1 8 p
  else if eqW x "is" = true then lineB 0 8 p
  else if eqW x "marked" = true then isName p
  else if eqW x "not" = true then isCW n p
  else if inW x ["all", "any"] = true then isAC n p else false
theorem cw_law {n : Nat} {w : Str} {p : PyData} (h : pc p = true) : isCW (n + 1) (.tuple [.str w, p]) = condW n (.str w) p := by
  show (if eqW (.str w) "not" = true then isCW n p else if inW (.str w) ["all", "any"] = true then isAC n p else isSing (.str w) p) = _
  unfold condW isSing
  rw [nt_law, line_txt h, line_is h]
  have lit : ∀ y : Str, eqW (.str w) y = true → w = y := fun y e => of_decide_eq_true e
  by_cases q1 : eqW (.str w) "from" = true
  · have e := lit _ q1
    subst e
    rfl
  by_cases q2 : inW (.str w) ["contains", "begins", "ends"] = true
  · obtain ⟨y, hy, q⟩ := List.any_eq_true.mp q2
    have e := lit y q
    subst e
    rcases List.mem_cons.mp hy with e | hy
    · subst e; rfl
    rcases List.mem_cons.mp hy with e | hy
    · subst e; rfl
    have e := List.mem_singleton.mp hy
    subst e; rfl
  by_cases q3 : eqW (.str w) "is" = true
  · have e := lit _ q3
    subst e
    rfl
  by_cases q4 : eqW (.str w) "marked" = true
  · have e := lit _ q4
    subst e
    rfl
  simp only [q1, q2, q3, q4, Bool.false_eq_true, if_false, Bool.false_and]
theorem nI_chk {L : List PyData} (e : L.all nI = true) {d : PyData} (h : d ∈ L) : nI d = true := List.all_eq_true.mp e d h
theorem map_erase : ∀ (xs : List Str) (k : Nat), (xs.map PyData.str).eraseIdx k = (xs.eraseIdx k).map PyData.str
  | [], _ => rfl
  | _ :: _, 0 => rfl
  | x :: xs, k + 1 => by
    show PyData.str x :: (xs.map PyData.str).eraseIdx k = PyData.str x :: (xs.eraseIdx k).map PyData.str
    rw [map_erase xs k]
theorem sI_nat {k n : Nat} (h : k < n) : seqIndex? (k : Int) n = some k := by
  unfold seqIndex?
  simp
  omega
theorem eq_int {i j : Int} {R : DV → Prop} (h : R (.p (.bool (decide (i = j))))) : fEqQ false (.p (.int i)) (.p (.int j)) R := ⟨rfl, rfl, Nat.zero_le _, by
  show R (.p (.bool (PyData.eqv (.int i) (.int j))))
  rw [eqv_int]
  exact h⟩
theorem ite_t {a b : Prop} (h : a) : (if true = true then a else b) := h
theorem ite_f {a b : Prop} (h : b) : (if false = true then a else b) := h
theorem st_set {i : Nat} {t : TD} {b : TDS} {E : DE} {δ : Dn} (h : t δ fun d => b E (δ.set i (.v d))) : dSeq (dSet i t) b E δ := h
theorem st_lt {n : Nat} {i j : Int} {a b : TDS} {E : DE} {δ : Dn} (hδ : δ.getD n .un = .v (.p (.int i))) (ht : i < j → ∀ N : Dn → Prop, a { E with nx := N } δ) (hf : ¬ i < j → b E δ) : dSeq (dIfS (dB (dOp fLt (dVar n) (dC (.p (.int j))))) a dNext) b E δ := by
  unfold dSeq dIfS dB dOp dVar
  rw [hδ]
  show fLt (.p (.int i)) (.p (.int j)) (fun d => asB d fun z => if z = true then a { E with nx := b E } δ else b E δ)
  refine lt_int ?_
  show if decide (i < j) = true then a { E with nx := b E } δ else b E δ
  by_cases h : i < j
  · rw [if_pos (decide_eq_true h)]; exact ht h _
  · rw [if_neg (by rw [decide_eq_false h]; decide)]; exact hf h
theorem st_eq {n : Nat} {i j : Int} {a b : TDS} {E : DE} {δ : Dn} (hδ : δ.getD n .un = .v (.p (.int i))) (ht : i = j → ∀ N : Dn → Prop, a { E with nx := N } δ) (hf : ¬ i = j → b E δ) : dSeq (dIfS (dB (dOp (fEqQ false) (dVar n) (dC (.p (.int j))))) a dNext) b E δ := by
  unfold dSeq dIfS dB dOp dVar
  rw [hδ]
  show fEqQ false (.p (.int i)) (.p (.int j)) (fun d => asB d fun z => if z = true then a { E with nx := b E } δ else b E δ)
  refine eq_int ?_
  show if decide (i = j) = true then a { E with nx := b E } δ else b E δ
  by_cases h : i = j
  · rw [if_pos (decide_eq_true h)]; exact ht h _
  · rw [if_neg (by rw [decide_eq_false h]; decide)]; exact hf h
def gLine : FL := fun ds R => ∃ d lo hi, ds = [.p d, .p (.int ((lo : Nat) : Int)), .p (.int ((hi : Nat) : Int))] ∧ Wt d ∧ R (.p (.bool (lineB lo hi d)))
def gNmL : FL := fun ds R => ∃ d, ds = [.p d] ∧ Wt d ∧ pc d = true ∧ R (.p (.bool (isName d)))
def gCondL (n : Nat) : FL := fun ds R => ∃ v, ds = [.p v, .p (.int n)] ∧ Wt v ∧ pc v = true ∧ R (.p (.bool (isCW n v)))
def gActL : FL := fun ds R => ∃ d, ds = [.p d] ∧ Wt d ∧ pc d = true ∧ R (.p (.bool (deedB d || endB d)))
def gRuleL : FL := fun ds R => ∃ d, ds = [.p d] ∧ Wt d ∧ pc d = true ∧ R (.p (.bool (ruleB d)))
def gStream : FL := gWell
def gShuf : FL := fun ds R => ∃ xs : List Str, ds = [.well, .p (.list (xs.map .str))] ∧ xs.length ≤ 100 ∧ ∀ ys : List Str, ys.length = xs.length → (∀ y ∈ ys, y ∈ xs) → R (.p (.list (ys.map .str)))
def gRel (p : PyData → Prop) : FL := fun ds R => ds = [.well] ∧ ∀ d, p d → R (.p d)
def isTp (d : PyData) : Prop := ∃ xs, d = .tuple xs
def gTxt21 : FL := gRel (Gg 3 0)
def gLeaf21 : FL := gRel fun d => Gg 16 2 d ∧ nI d = true
def gCond21 : FL := gRel fun d => Gg 90 7 d ∧ nI d = true
def gAct21 : FL := gRel fun d => Gg 16 1 d ∧ nI d = true
def gRule21 : FL := fun ds R => ds = [.well] ∧ ∀ c xs, Gg 90 7 c → nI c = true → xs.length ≤ 4 → (∀ x ∈ xs, Gg 16 1 x ∧ nI x = true) → R (.p (.tuple [c, .tuple xs]))
def gOdA21 : FL := gRel fun d => Gg 30 2 d ∧ nI d = true
def gOdd21 : FL := fun ds R => ∃ c xs, ds = [.well, .p (.tuple [c, .tuple xs])] ∧ Gg 90 7 c ∧ nI c = true ∧ xs.length ≤ 4 ∧ (∀ x ∈ xs, Gg 16 1 x ∧ nI x = true) ∧ ∀ d, Gg 500 20 d → R (.p d)
def pasB (w : Str) (t u : Str) : Bool := if eqW (.str w) "contains" = true then inS t u else if eqW (.str w) "begins" = true then Txt.startswith u t else if eqW (.str w) "ends" = true then Txt.endswith u t else decide (u = t)
def gPas : FL := fun ds R => ∃ w t u : Str, ds = [.p (.str w), .p (.str t), .p (.str u)] ∧ t.length ≤ 4000 ∧ u.length ≤ 4000 ∧ R (.p (.bool (pasB w t u)))
inductive Lf where
  | frm (ns : List Str) | mrk (m : Str) | txt (w t : Str)
def Lf.w : Lf → Str
  | .frm _ => "from"
  | .mrk _ => "marked"
  | .txt w _ => w
def Lf.pt : Lf → PyData
  | .frm ns => .tuple (ns.map .str)
  | .mrk m => .str m
  | .txt _ t => .str t
def Lf.ok : Lf → Prop
  | .txt w t => inW (.str w) ["contains", "begins", "ends", "is"] = true ∧ t.length ≤ 4000
  | _ => True
def lfB : Lf → Str → Str → List Str → Bool
  | .frm ns, s, _, _ => inW (.str s) ns
  | .mrk m, _, _, ms => inW (.str m) ms
  | .txt w t, _, u, _ => pasB w t u
abbrev msgD (s a u : Str) (ms : List Str) : PyData := .tuple [.str s, .str a, .str u, .tuple (ms.map .str)]
def gSgl : FL := fun ds R => ∃ (l : Lf) (s a u : Str) (ms : List Str), ds = [.p (.str l.w), .p l.pt, .p (msgD s a u ms)] ∧ l.ok ∧ u.length ≤ 4000 ∧ R (.p (.bool (lfB l s u ms)))
theorem txt_w {w : Str} (h : inW (.str w) ["contains", "begins", "ends", "is"] = true) : eqW (.str w) "from" = false ∧ eqW (.str w) "marked" = false ∧ eqW (.str w) "not" = false ∧ inW (.str w) ["all", "any"] = false := by
  obtain ⟨y, hy, q⟩ := List.any_eq_true.mp h
  have e : w = y := of_decide_eq_true q
  subst e
  rcases List.mem_cons.mp hy with e | hy
  · subst e; decide +kernel
  rcases List.mem_cons.mp hy with e | hy
  · subst e; decide +kernel
  rcases List.mem_cons.mp hy with e | hy
  · subst e; decide +kernel
  have e := List.mem_singleton.mp hy
  subst e; decide +kernel
theorem lf_w {l : Lf} (h : l.ok) : eqW (.str l.w) "not" = false ∧ inW (.str l.w) ["all", "any"] = false := by
  cases l with
  | frm ns => exact (show eqW (.str (Str.ofString "from")) "not" = false ∧ inW (.str (Str.ofString "from")) ["all", "any"] = false by decide +kernel)
  | mrk m => exact (show eqW (.str (Str.ofString "marked")) "not" = false ∧ inW (.str (Str.ofString "marked")) ["all", "any"] = false by decide +kernel)
  | txt w t => exact (txt_w h.1).2.2
inductive Cnd where
  | lf (l : Lf) | nt (c : Cnd) | gr (b : Bool) (cs : List Cnd)
def grW (b : Bool) : Str := if b = true then "all" else "any"
mutual
def Cnd.d : Cnd → PyData
  | .lf l => .tuple [.str l.w, l.pt]
  | .nt c => .tuple [.str "not", c.d]
  | .gr b cs => .tuple [.str (grW b), .tuple (Cnd.ds cs)]
def Cnd.ds : List Cnd → List PyData
  | [] => []
  | c :: cs => c.d :: Cnd.ds cs
end
mutual
def Cnd.hold (s u : Str) (ms : List Str) : Cnd → Bool
  | .lf l => lfB l s u ms
  | .nt c => !c.hold s u ms
  | .gr b cs => Cnd.holdG s u ms b cs
def Cnd.holdG (s u : Str) (ms : List Str) (b : Bool) : List Cnd → Bool
  | [] => b
  | c :: cs => if c.hold s u ms = b then Cnd.holdG s u ms b cs else !b
end
mutual
def Cnd.lvs : Cnd → List Lf
  | .lf l => [l]
  | .nt c => c.lvs
  | .gr _ cs => Cnd.lvsA cs
def Cnd.lvsA : List Cnd → List Lf
  | [] => []
  | c :: cs => c.lvs ++ Cnd.lvsA cs
end
def Cnd.okn : Nat → Cnd → Prop
  | 0, _ => False
  | _ + 1, .lf l => l.ok
  | n + 1, .nt c => c.okn n
  | n + 1, .gr _ cs => cs.length ≤ 100 ∧ ∀ c ∈ cs, c.okn n
def gHold (n : Nat) : FL := fun ds R => ∃ (c : Cnd) (s a u : Str) (ms : List Str), ds = [.p c.d, .p (msgD s a u ms)] ∧ c.okn n ∧ u.length ≤ 4000 ∧ R (.p (.bool (c.hold s u ms)))
theorem fEqW_of {x w : Str} {b : Bool} {K1 : DV → Prop} (e : eqW (.str x) w = b) (h : K1 (.p (.bool b))) : fEqW (.p (.str x)) (.p (.str w)) K1 := by
  show K1 (.p (.bool (eqW (.str x) w)))
  rw [e]
  exact h
theorem grW_f (b : Bool) : eqW (.str (grW b)) "not" = false ∧ inW (.str (grW b)) ["all", "any"] = true ∧ eqW (.str (grW b)) "all" = b ∧ eqW (.str (grW b)) "any" = !b := by cases b <;> decide +kernel
theorem eqv_ss (u t : Str) : PyData.eqv (.str u) (.str t) = decide (u = t) := by
  simp only [PyData.eqv]
  by_cases h : u = t
  · subst h; rw [decide_eq_true rfl]; exact beq_self_eq_true u
  · rw [decide_eq_false h]; exact beq_eq_false_iff_ne.mpr h
theorem fW_f {x w : Str} {A B : Prop} (e : eqW (.str x) w = false) (h : B) : fEqW (.p (.str x)) (.p (.str w)) (fun d => asB d fun b => if b = true then A else B) := fEqW_of e h
theorem fW_t {x w : Str} {A B : Prop} (e : eqW (.str x) w = true) (h : A) : fEqW (.p (.str x)) (.p (.str w)) (fun d => asB d fun b => if b = true then A else B) := fEqW_of e h
def fAnyM : FH := fun o ds R => False
def fAnyN : List DV → (OD → Prop) → Prop := fun ds R => False
open Classical in
noncomputable def rs (xs : List Str) : List Str := if h : ∃ zs, RisS zs ∧ ∀ x, x ∈ zs ↔ x ∈ xs then Classical.choose h else []
theorem rs_of {xs zs : List Str} (h1 : RisS zs) (h2 : ∀ x, x ∈ zs ↔ x ∈ xs) : zs = rs xs := by
  have h : ∃ zs, RisS zs ∧ ∀ x, x ∈ zs ↔ x ∈ xs := ⟨zs, h1, h2⟩
  unfold rs
  rw [dif_pos h]
  obtain ⟨k1, k2⟩ := Classical.choose_spec h
  exact risS_one h1 k1 fun x => (h2 x).trans (k2 x).symm
abbrev msgP (s a u : Str) (ms : List Str) : PyData := .tuple [.str s, .str a, .str u, .tuple (ms.map .str)]
noncomputable def keptS (mk : Str) (ms : List Str) : List Str := if mk.length = 0 then ms else rs (ms ++ [mk])
def lineS (tag u : Str) : Str := if inS tag u = true then u else tag ++ u
def goesB (cl : Bool) (s : Str) (mem : List Str) : Bool := !cl || inW (.str s) mem
noncomputable def outL (mem : List Str) (tag mk : Str) (cl : Bool) (s u : Str) (ms : List Str) : List PyData := if goesB cl s mem = true then mem.map fun m => msgP s m (lineS tag u) (keptS mk ms) else []
noncomputable def atL (mem : List Str) (tag mk : Str) (cl : Bool) (s a u : Str) (ms : List Str) : List PyData := if goesB cl s mem = true then mem.map fun m => .tuple [.tuple [.str "member", .str a, .str m], msgP s m (lineS tag u) (keptS mk ms)] else []
abbrev whatP (mem : List Str) (tag mk : Str) (cl : Bool) : PyData := .tuple [.tuple (mem.map .str), .str tag, .str mk, .bool cl]
structure GoodM (mem : List Str) : Prop where
  len : mem.length ≤ 8
  nm : ∀ x ∈ mem, isName (.str x) = true
  nd : mem.Nodup
structure GoodL (mem : List Str) (tag mk : Str) : Prop where
  mm : GoodM mem
  tg : isTxt (.str tag) = true ∨ tag = ""
  mr : isName (.str mk) = true ∨ mk = ""
theorem pyAllApp {K : List PyData → Prop} {y : PyData} : ∀ {zs : List PyData}, K (zs ++ [y]) → pyAll (zs.map .p ++ [.p y]) K
  | [], h => h
  | z :: zs, h => pyAllApp (zs := zs) (K := fun xs => K (z :: xs)) h
theorem or_ite {b c : Bool} {A B : Prop} (h : b = true ∨ c = true) (ha : A) : if b = true then A else (if c = true then A else B) := by
  cases b with
  | true => exact ha
  | false => cases c with
    | true => exact ha
    | false => exact absurd h (by decide)
theorem perm_erase {α : Type} : ∀ {xs : List α} {k : Nat} (h : k < xs.length), (xs[k] :: xs.eraseIdx k).Perm xs
  | x :: xs, 0, _ => List.Perm.refl _
  | x :: xs, k + 1, h => by
    have h' : k < xs.length := by rw [List.length_cons] at h; omega
    exact (List.Perm.swap x xs[k] (xs.eraseIdx k)).trans ((perm_erase h').cons x)
theorem wtS {x : Str} (h : x.length ≤ 4000) : Wt (.str x) := by
  show PyData.weight (.str x) ≤ 4000
  simp only [PyData.weight]
  exact h
theorem tagLen {x : Str} (h : isTxt (.str x) = true ∨ x = "") : x.length ≤ 8 := by
  rcases h with h | h
  · simp only [isTxt, Bool.and_eq_true, decide_eq_true_eq] at h
    exact h.2
  · rw [h]; decide
theorem mkLen {x : Str} (h : isName (.str x) = true ∨ x = "") : x.length ≤ 12 := by
  rcases h with h | h
  · exact isName_str h
  · rw [h]; decide
def gWm : FL := fun ds R => ∃ (ms : List Str) (mk : Str), ds = [.p (.tuple (ms.map .str)), .p (.str mk)] ∧ ms.length ≤ 50 ∧ R (.p (.tuple ((rs (ms ++ [mk])).map .str)))
def gMem : FL := fun ds R => ∃ mem : List Str, ds = [.p (.tuple (mem.map .str))] ∧ GoodM mem ∧ R (.p (.bool true))
def gNL : FL := fun ds R => ∃ mem tag mk cl, ds = [.p (whatP mem tag mk cl)] ∧ GoodL mem tag mk ∧ R (.p .none)
def hPut (C : Addr) : FH := fun o ds R => ∃ a d es n z, o = .hs C a d es ∧ ds = [.raw (.ref a), .p (.str n), .p z] ∧ es.length ≤ 1000 ∧ R .none (.hs C a d (putE es n z))
def gNew (C : Addr) : FL := fun ds R => ∃ es n, ds = [.hs C es, .p (.str n)] ∧ isName (.str n) = true ∧ getE es n = none ∧ R (.p .none)
def gRoom (C : Addr) : FL := fun ds R => ∃ es n, ds = [.hs C es, .p (.str n)] ∧ es.length < 20 ∧ R (.p .none)
def hList (C : Addr) : FH := fun o ds R => ∃ a d es n mem tag mk cl, o = .hs C a d es ∧ ds = [.raw (.ref a), .p (.str n), .p (.tuple (mem.map .str)), .p (.str tag), .p (.str mk), .p (.bool cl)] ∧ isName (.str n) = true ∧ getE es n = none ∧ es.length < 20 ∧ GoodL mem tag mk ∧ R .none (.hs C a d (putE es n (.tuple [.str "list", whatP mem tag mk cl])))
def hAlias (C : Addr) : FH := fun o ds R => ∃ a d es n t, o = .hs C a d es ∧ ds = [.raw (.ref a), .p (.str n), .p (.str t)] ∧ isName (.str n) = true ∧ getE es n = none ∧ es.length < 20 ∧ isName (.str t) = true ∧ R .none (.hs C a d (putE es n (.tuple [.str "alias", .str t])))
def gEnt (C : Addr) : FL := fun ds R => ∃ es n, ds = [.hs C es, .p (.str n)] ∧ R (.p ((getE es n).getD .none))
def Sml (mem : List Str) (tag u : Str) (ms : List Str) : Prop := mem.length ≤ 8 ∧ tag.length ≤ 8 ∧ u.length ≤ 100 ∧ ms.length ≤ 50
def gAt : FL := fun ds R => ∃ mem tag mk cl s a u ms, ds = [.p (whatP mem tag mk cl), .p (msgP s a u ms)] ∧ Sml mem tag u ms ∧ mk.length ≤ 12 ∧ R (.p (.list (atL mem tag mk cl s a u ms)))
inductive Ent where
  | lst (mem : List Str) (tag mk : Str) (cl : Bool) | ali (t : Str)
def Ent.d : Ent → PyData
  | .lst mem tag mk cl => .tuple [.str "list", whatP mem tag mk cl]
  | .ali t => .tuple [.str "alias", .str t]
def Ent.ok : Ent → Prop
  | .lst mem tag mk _ => GoodL mem tag mk
  | .ali t => isName (.str t) = true
noncomputable def Ent.at_ : Ent → Str → Str → Str → List Str → List PyData
  | .lst mem tag mk cl, s, a, u, ms => atL mem tag mk cl s a u ms
  | .ali t, s, a, u, ms => [.tuple [.tuple [.str "alias", .str a], msgP s t u ms]]
noncomputable def Ent.out : Ent → Str → Str → List Str → List PyData
  | .lst mem tag mk cl, s, u, ms => outL mem tag mk cl s u ms
  | .ali t, s, u, ms => [msgP s t u ms]
theorem fNis_of {x w : Str} {b : Bool} {K1 : DV → Prop} (e : (!inS x w) = b) (h : K1 (.p (.bool b))) : fNotInS (.p (.str x)) (.p (.str w)) K1 := by
  show K1 (.p (.bool (!inS x w)))
  rw [e]
  exact h
def gWmB : FL := fun ds R => ∃ (ms : List Str) (mk : Str), ds = [.p (.tuple (ms.map .str)), .p (.str mk)] ∧ ms.length ≤ 1000 ∧ R (.p (.tuple ((rs (ms ++ [mk])).map .str)))
def atTail (d0 d1 d2 d3 d4 d5 : Sl) (s1 a u2 : Str) (d9 : DV) (mem : List Str) (R : DV → Prop) : Prop := (mem.map PyData.str).length ≤ sizeLine ∧ lcL (gdName 10) dYes (dTup (dCons (dTup (dCons (dC (.p (.str (Str.ofString "member")))) (dCons (dVar 7) (dCons (dVar 10) dNil)))) (dCons (dTup (dCons (dVar 6) (dCons (dVar 10) (dCons (dVar 8) (dCons (dVar 9) dNil))))) dNil))) [d0, d1, d2, d3, d4, d5, .v (.p (.str s1)), .v (.p (.str a)), .v (.p (.str u2)), .v d9, .un] (fun acc => R (.p (.list acc))) (mem.map .str) []
theorem at_end {d0 d1 d2 d3 d4 d5 : Sl} {s1 a u2 : Str} {k2 mem : List Str} {R : DV → Prop} (hl : mem.length ≤ 8) (h : R (.p (.list (mem.map fun m => .tuple [.tuple [.str "member", .str a, .str m], msgP s1 m u2 k2])))) : atTail d0 d1 d2 d3 d4 d5 s1 a u2 (.p (.tuple (k2.map .str))) mem R := by
  refine ⟨by rw [List.length_map]; exact sz hl, lc_map (fun d => .tuple [.tuple [.str "member", .str a, d], .tuple [.str s1, d, .str u2, .tuple (k2.map .str)]]) (fun d hd K1 hk => ?_) ?_⟩
  · exact ⟨(show 3 ≤ sizeLine by decide), (show 4 ≤ sizeLine by decide), (show 2 ≤ sizeLine by decide), hk⟩
  · rw [List.map_map]
    exact h
theorem at_mid {d0 d1 d2 d3 d5 : Sl} {s1 a u2 mk : Str} {ms mem : List Str} {R : DV → Prop} (hl : mem.length ≤ 8) (hk : mk.length ≤ sizeLine) (hm : ms.length ≤ 50) (h : R (.p (.list (mem.map fun m => .tuple [.tuple [.str "member", .str a, .str m], msgP s1 m u2 (keptS mk ms)])))) :
    dTruS (dVar 4) [d0, d1, d2, d3, .v (.p (.str mk)), d5, .v (.p (.str s1)), .v (.p (.str a)), .v (.p (.str u2)), .v (.p (.tuple (ms.map .str))), .un] fun b => if b = true then gWmB [.p (.tuple (ms.map .str)), .p (.str mk)] fun d => atTail d0 d1 d2 d3 (.v (.p (.str mk))) d5 s1 a u2 d mem R else atTail d0 d1 d2 d3 (.v (.p (.str mk))) d5 s1 a u2 (.p (.tuple (ms.map .str))) mem R := by
  refine ⟨hk, ?_⟩
  by_cases q : mk.length = 0
  · rw [decide_eq_true q]
    exact at_end hl (by rw [keptS, if_pos q] at h; exact h)
  · rw [decide_eq_false q]
    exact ⟨ms, mk, rfl, Nat.le_trans hm (by decide), at_end hl (by rw [keptS, if_neg q] at h; exact h)⟩
theorem gate_t {cl : Bool} {s1 : Str} {mem : List Str} {A B : Prop} (hg : goesB cl s1 mem = true) (h : B) : if cl = true then fInW true (.p (.str s1)) (.p (.tuple (mem.map .str))) fun d => (match d with | .p (.bool b) => if b = true then A else B | _ => False) else B := by
  cases cl with
  | false => exact h
  | true =>
    refine ⟨mem, rfl, ?_⟩
    show (if (!inW (.str s1) mem) = true then A else B)
    rw [show inW (.str s1) mem = true from hg]
    exact h
theorem goes_f {cl : Bool} {s1 : Str} {mem : List Str} (hg : ¬ goesB cl s1 mem = true) : cl = true ∧ inW (.str s1) mem = false := by
  cases cl with
  | false => exact absurd rfl hg
  | true => exact ⟨rfl, Bool.eq_false_iff.mpr hg⟩
def sndD (d : PyData) : PyData := match d with | .tuple [_, m] => m | _ => .none
theorem at_out {e : Ent} {s a u : Str} {ms : List Str} : (e.at_ s a u ms).map sndD = e.out s u ms := by
  cases e with
  | lst mem tag mk cl =>
    show (atL mem tag mk cl s a u ms).map sndD = outL mem tag mk cl s u ms
    unfold atL outL
    split
    · rw [List.map_map]; rfl
    · rfl
  | ali t => rfl
theorem at_tup {e : Ent} {s a u : Str} {ms : List Str} {d : PyData} (h : d ∈ e.at_ s a u ms) : ∃ c m, d = .tuple [c, m] ∧ nI m = true := by
  cases e with
  | lst mem tag mk cl =>
    have h : d ∈ atL mem tag mk cl s a u ms := h
    unfold atL at h
    split at h
    · obtain ⟨x, _, rfl⟩ := List.mem_map.mp h
      exact ⟨_, _, rfl, rfl⟩
    · exact absurd h List.not_mem_nil
  | ali t => exact ⟨_, _, List.mem_singleton.mp h, rfl⟩
theorem at_len {e : Ent} (he : e.ok) (s a u : Str) (ms : List Str) : (e.at_ s a u ms).length ≤ 8 := by
  cases e with
  | lst mem tag mk cl =>
    show (atL mem tag mk cl s a u ms).length ≤ 8
    unfold atL
    split
    · rw [List.length_map]; exact he.mm.len
    · exact Nat.zero_le _
  | ali t => exact (show 1 ≤ 8 by decide)
theorem perm_two {α : Type} {ys : List α} {x y : α} (h : ys.Perm [x, y]) : ys = [x, y] ∨ ys = [y, x] := by
  have hl := h.length_eq
  match ys, hl with
  | [u, v], _ =>
    have hu : u ∈ [x, y] := h.subset List.mem_cons_self
    rcases List.mem_cons.mp hu with e | e
    · subst e
      have := h.cons_inv
      rw [List.singleton_perm_singleton.mp this]
      exact .inl rfl
    · have e := List.mem_singleton.mp e
      subst e
      have := (h.trans (List.Perm.swap u x [])).cons_inv
      rw [List.singleton_perm_singleton.mp this]
      exact .inr rfl
mutual
theorem eqv_rf : ∀ d : PyData, d.plain = true → PyData.eqv d d = true
  | .none, _ => rfl
  | .bool b, _ => by simp [PyData.eqv]
  | .int i, _ => by rw [eqv_int]; exact decide_eq_true rfl
  | .str x, _ => eqv_str x
  | .list xs, h => by
    simp only [PyData.plain] at h
    simp only [PyData.eqv]
    exact eqvAll_rf xs h
  | .tuple xs, h => by
    simp only [PyData.plain] at h
    simp only [PyData.eqv]
    exact eqvAll_rf xs h
  | .dict _, h => by simp only [PyData.plain] at h; cases h
theorem eqvAll_rf : ∀ xs : List PyData, PyData.plainAll xs = true → PyData.eqvAll xs xs = true
  | [], _ => rfl
  | x :: xs, h => by
    simp only [PyData.plainAll, Bool.and_eq_true] at h
    simp only [PyData.eqvAll, eqv_rf x h.1, eqvAll_rf xs h.2, Bool.and_self]
end
theorem pl_all : ∀ xs : List PyData, PyData.plainAll xs = xs.all PyData.plain
  | [] => rfl
  | x :: xs => by simp only [PyData.plainAll, List.all_cons, pl_all xs]
theorem pl_msg {s a u : Str} {ms : List Str} : (msgP s a u ms).plain = true := by
  have := plain_strs ms
  simp only [PyData.plain] at this
  simp only [PyData.plain, PyData.plainAll, this, Bool.and_self]
theorem dp_msg {s a u : Str} {ms : List Str} : (msgP s a u ms).depth ≤ 2 := by
  simp only [PyData.depth, PyData.depthAll, depthAll_strs]
  decide
inductive Act where
  | dd (w p : Str) | en (w : Str)
def Act.d : Act → PyData
  | .dd w p => .tuple [.str w, .str p]
  | .en w => .tuple [.str w]
def Act.w : Act → Str
  | .dd w _ => w
  | .en w => w
def Act.p : Act → Str
  | .dd _ p => p
  | .en w => w
structure MS where
  u : Str
  ms : List Str
  filed : List PyData
  sent : List PyData
  fin : Str
abbrev cutP (a : Str) (pl n : Nat) : PyData := .tuple [.str "sent", .str a, .int (pl : Nat), .int (n : Nat)]
noncomputable def actS (s a : Str) (pl n : Nat) (w p : Str) (σ : MS) : MS :=
  if eqW (.str w) "file" = true then { σ with filed := σ.filed ++ [.tuple [.str p, msgP s a σ.u σ.ms]] }
  else if eqW (.str w) "forward" = true then { σ with sent := σ.sent ++ [.tuple [cutP a pl n, msgP s p σ.u σ.ms]] }
  else if eqW (.str w) "reply" = true then { σ with sent := σ.sent ++ [.tuple [cutP a pl n, msgP a s (p ++ σ.u) (rs (σ.ms ++ [Str.ofString "auto"]))]] }
  else if eqW (.str w) "tag" = true then { σ with u := p ++ σ.u }
  else if eqW (.str w) "mark" = true then { σ with ms := rs (σ.ms ++ [p]) }
  else { σ with fin := w }
noncomputable def runA (s a : Str) (pl : Nat) : Nat → List Act → MS → MS
  | _, [], σ => σ
  | n, x :: xs, σ => runA s a pl (n + 1) xs (actS s a pl n x.w x.p σ)
structure Rl where
  c : Cnd
  as : List Act
def Rl.d (r : Rl) : PyData := .tuple [r.c.d, .tuple (r.as.map Act.d)]
/-- what fires: places, the state behind them -/
noncomputable def runR (s a : Str) : Nat → List Rl → List Nat → MS → List Nat × MS
  | _, [], f, σ => (f, σ)
  | k, r :: rs', f, σ => if r.c.hold s σ.u σ.ms = true then
      (if (runA s a k 0 r.as σ).fin.length = 0 then runR s a (k + 1) rs' (f ++ [k]) (runA s a k 0 r.as σ) else (f ++ [k], runA s a k 0 r.as σ))
    else runR s a (k + 1) rs' f σ
noncomputable def lastS (s a : Str) (σ : MS) : List PyData := if σ.filed.isEmpty && !eqW (.str σ.fin) "drop" then σ.filed ++ [.tuple [.str "inbox", msgP s a σ.u σ.ms]] else σ.filed
theorem rs_len (xs : List Str) : (rs xs).length ≤ xs.length := by
  unfold rs
  split
  · rename_i h
    obtain ⟨k1, k2⟩ := Classical.choose_spec h
    exact ris_len k1 fun z hz => (k2 z).mp hz
  · exact Nat.zero_le _
theorem actS_u (s a : Str) (pl n : Nat) (w p : Str) (σ : MS) : (actS s a pl n w p σ).u.length ≤ σ.u.length + p.length ∧ (actS s a pl n w p σ).ms.length ≤ σ.ms.length + 1 := by
  have hl : (p ++ σ.u).length = p.length + σ.u.length := by
    show (p.cps ++ σ.u.cps).size = p.cps.size + σ.u.cps.size
    exact Array.size_append
  have hm := rs_len (σ.ms ++ [p])
  rw [List.length_append, List.length_singleton] at hm
  unfold actS
  split
  · exact ⟨Nat.le_add_right _ _, Nat.le_succ _⟩
  split
  · exact ⟨Nat.le_add_right _ _, Nat.le_succ _⟩
  split
  · exact ⟨Nat.le_add_right _ _, Nat.le_succ _⟩
  split
  · exact ⟨by show (p ++ σ.u).length ≤ _; omega, Nat.le_succ _⟩
  split
  · exact ⟨Nat.le_add_right _ _, hm⟩
  · exact ⟨Nat.le_add_right _ _, Nat.le_succ _⟩
theorem runA_u (s a : Str) (pl : Nat) : ∀ (as : List Act) (n : Nat) (σ : MS), (∀ x ∈ as, x.p.length ≤ 12) → (runA s a pl n as σ).u.length ≤ σ.u.length + 12 * as.length ∧ (runA s a pl n as σ).ms.length ≤ σ.ms.length + as.length
  | [], n, σ, _ => ⟨Nat.le_add_right _ _, Nat.le_add_right _ _⟩
  | x :: xs, n, σ, h => by
    have q := runA_u s a pl xs (n + 1) (actS s a pl n x.w x.p σ) fun y m => h y (List.mem_cons_of_mem _ m)
    have r := actS_u s a pl n x.w x.p σ
    have hx := h x List.mem_cons_self
    rw [List.length_cons]
    exact ⟨by show (runA s a pl (n + 1) xs _).u.length ≤ _; omega, by show (runA s a pl (n + 1) xs _).ms.length ≤ _; omega⟩
theorem runA_app (s a : Str) (pl : Nat) : ∀ (as : List Act) (n : Nat) (x : Act) (σ : MS), runA s a pl n (as ++ [x]) σ = actS s a pl (n + as.length) x.w x.p (runA s a pl n as σ)
  | [], n, x, σ => rfl
  | y :: as, n, x, σ => by
    show runA s a pl (n + 1) (as ++ [x]) _ = _
    rw [runA_app s a pl as (n + 1) x, List.length_cons, show n + 1 + as.length = n + (as.length + 1) by omega]
    rfl
structure Rl.ok (r : Rl) : Prop where
  c : r.c.okn 4
  len : r.as.length ≤ 6
  p : ∀ x ∈ r.as, x.p.length ≤ 12
def gMb : FL := fun ds R => ∃ (rl : List Rl) (s a u : Str) (ms : List Str), ds = [.p (.tuple (rl.map Rl.d)), .p (msgP s a u ms)] ∧ rl.length ≤ 10 ∧ (∀ r ∈ rl, r.ok) ∧ (∀ r ∈ rl, ∀ x ∈ r.as, x.w.length ≤ 1000) ∧ u.length ≤ 200 ∧ ms.length ≤ 50 ∧
  R (.p (.tuple [.list ((runR s a 0 rl [] ⟨u, ms, [], [], ""⟩).1.map fun (k : Nat) => .int (k : Nat)), .list (lastS s a (runR s a 0 rl [] ⟨u, ms, [], [], ""⟩).2), .list (runR s a 0 rl [] ⟨u, ms, [], [], ""⟩).2.sent]))
def msgT (b c : Nat) (u m : TD) : TD := dTup (dCons (dVar b) (dCons (dVar c) (dCons u (dCons m dNil))))
def actBody : TDS := dSeq (dPar 15 16 (dCons (dOp fIx (dVar 14) (dC (.p (.int 0)))) (dCons (dOp fIx (dVar 14) (dUn (fun d R => match d with | .p (.int i) => R (.p (.int (-i))) | _ => False) (dC (.p (.int 1))))) dNil)))
  (dSeq (dSet 17 (dTup (dCons (dC (.p (.str (Str.ofString "sent")))) (dCons (dVar 3) (dCons (dVar 10) (dCons (dVar 13) dNil))))))
  (dIfS (dB (dOp fEqW (dVar 15) (dC (.p (.str (Str.ofString "file")))))) (dApp 7 (dTup (dCons (dVar 16) (dCons (dTup (dCons (dVar 2) (dCons (dVar 3) (dCons (dVar 4) (dCons (dVar 5) dNil))))) dNil))))
  (dIfS (dB (dOp fEqW (dVar 15) (dC (.p (.str (Str.ofString "forward")))))) (dApp 8 (dTup (dCons (dVar 17) (dCons (dTup (dCons (dVar 2) (dCons (dVar 16) (dCons (dVar 4) (dCons (dVar 5) dNil))))) dNil))))
  (dIfS (dB (dOp fEqW (dVar 15) (dC (.p (.str (Str.ofString "reply")))))) (dApp 8 (dTup (dCons (dVar 17) (dCons (dTup (dCons (dVar 3) (dCons (dVar 2) (dCons (dOp fAdd (dVar 16) (dVar 4)) (dCons (dCall gWmB (dCons (dVar 5) (dCons (dC (.p (.str (Str.ofString "auto")))) dNil))) dNil))))) dNil))))
  (dIfS (dB (dOp fEqW (dVar 15) (dC (.p (.str (Str.ofString "tag")))))) (dSet 4 (dOp fAdd (dVar 16) (dVar 4)))
  (dIfS (dB (dOp fEqW (dVar 15) (dC (.p (.str (Str.ofString "mark")))))) (dSet 5 (dCall gWmB (dCons (dVar 5) (dCons (dVar 16) dNil)))) (dSet 9 (dVar 15))))))))
abbrev mbS (r0 m1 : Sl) (s a : Str) (σ : MS) (f : List Nat) (x10 x11 x12 x13 x14 x15 x16 x17 : Sl) : Dn := [r0, m1, .v (.p (.str s)), .v (.p (.str a)), .v (.p (.str σ.u)), .v (.p (.tuple (σ.ms.map .str))), .own (f.map fun (k : Nat) => .int (k : Nat)), .own σ.filed, .own σ.sent, .v (.p (.str σ.fin)), x10, x11, x12, x13, x14, x15, x16, x17]
theorem act_l {E : DE} {r0 m1 x11 x12 x15 x16 x17 : Sl} {s a : Str} {σ : MS} {f : List Nat} {pl n : Nat} {x : Act} (hp : x.p.length ≤ 12) (hu : σ.u.length ≤ 4000) (hm : σ.ms.length ≤ 1000) (hf : σ.filed.length < 1000) (hs : σ.sent.length < 1000)
    (h : ∀ y15 y16 y17, E.nx (mbS r0 m1 s a (actS s a pl n x.w x.p σ) f (.v (.p (.int (pl : Nat)))) x11 x12 (.v (.p (.int (n : Nat)))) (.v (.p x.d)) y15 y16 y17)) :
    actBody E (mbS r0 m1 s a σ f (.v (.p (.int (pl : Nat)))) x11 x12 (.v (.p (.int (n : Nat)))) (.v (.p x.d)) x15 x16 x17) := by
  have bu : x.p.length + σ.u.length ≤ sizeLine := Nat.le_trans (show x.p.length + σ.u.length ≤ 4012 by omega) (by decide)
  have key : ∀ w p : Str, w = x.w → p = x.p → (dIfS (dB (dOp fEqW (dVar 15) (dC (.p (.str (Str.ofString "file")))))) (dApp 7 (dTup (dCons (dVar 16) (dCons (dTup (dCons (dVar 2) (dCons (dVar 3) (dCons (dVar 4) (dCons (dVar 5) dNil))))) dNil))))
  (dIfS (dB (dOp fEqW (dVar 15) (dC (.p (.str (Str.ofString "forward")))))) (dApp 8 (dTup (dCons (dVar 17) (dCons (dTup (dCons (dVar 2) (dCons (dVar 16) (dCons (dVar 4) (dCons (dVar 5) dNil))))) dNil))))
  (dIfS (dB (dOp fEqW (dVar 15) (dC (.p (.str (Str.ofString "reply")))))) (dApp 8 (dTup (dCons (dVar 17) (dCons (dTup (dCons (dVar 3) (dCons (dVar 2) (dCons (dOp fAdd (dVar 16) (dVar 4)) (dCons (dCall gWmB (dCons (dVar 5) (dCons (dC (.p (.str (Str.ofString "auto")))) dNil))) dNil))))) dNil))))
  (dIfS (dB (dOp fEqW (dVar 15) (dC (.p (.str (Str.ofString "tag")))))) (dSet 4 (dOp fAdd (dVar 16) (dVar 4)))
  (dIfS (dB (dOp fEqW (dVar 15) (dC (.p (.str (Str.ofString "mark")))))) (dSet 5 (dCall gWmB (dCons (dVar 5) (dCons (dVar 16) dNil)))) (dSet 9 (dVar 15))))))) E
      (mbS r0 m1 s a σ f (.v (.p (.int (pl : Nat)))) x11 x12 (.v (.p (.int (n : Nat)))) (.v (.p x.d)) (.v (.p (.str w))) (.v (.p (.str p))) (.v (.p (cutP a pl n)))) := fun w p ew ep => by
    rw [← ew, ← ep] at h
    rw [← ep] at bu
    have l2 : 2 ≤ sizeLine := by decide
    have l4 : 4 ≤ sizeLine := by decide
    have lf : σ.filed.length < sizeLine := Nat.lt_trans hf (by decide)
    have ls : σ.sent.length < sizeLine := Nat.lt_trans hs (by decide)
    unfold actS at h
    simp only [dSeq, dNext, dBreak, dCont, dDrop, dRet, dRetN, dIfS, dSet, dB, dNotT, dAndT, dOrT, dNot, dAnd, dOr, dIf, dChain, dVar, dC, dOp, dUn, dNil, dCons, dCall, dTup, dLst, pyAll, dSl, dNo, dPart, dAsg, dPar, dDig, dMix, dPutD, dPutM, dM1, dFor, dItL, dItU, dItS, dItR1, dItR2, dItSc, dItZip, dLc, dYes, gdName, wipeD, asP, asB, asI, asS, asL, asU, sliceD, fCmp, fAdd, startD, fI, true_and, and_true, List.getD_cons_zero, List.getD_cons_succ, List.set_cons_zero, List.set_cons_succ, List.map_cons, List.map_nil, List.length_cons, List.length_nil, Nat.zero_add, Nat.reduceAdd, Nat.reduceSub, List.replicate, List.cons_append, List.nil_append, if_true, if_false, reduceIte, Bool.false_eq_true, Bool.not_true, Bool.not_false]
    by_cases q1 : eqW (.str w) "file" = true
    · rw [if_pos q1] at h
      refine fEqW_of (b := true) q1 (ite_t ?_)
      exact ⟨l4, l2, lf, rfl, h _ _ _⟩
    rw [if_neg q1] at h
    refine fEqW_of (b := false) (Bool.eq_false_iff.mpr q1) (ite_f ?_)
    by_cases q2 : eqW (.str w) "forward" = true
    · rw [if_pos q2] at h
      refine fEqW_of (b := true) q2 (ite_t ?_)
      exact ⟨l4, l2, ls, rfl, h _ _ _⟩
    rw [if_neg q2] at h
    refine fEqW_of (b := false) (Bool.eq_false_iff.mpr q2) (ite_f ?_)
    by_cases q3 : eqW (.str w) "reply" = true
    · rw [if_pos q3] at h
      refine fEqW_of (b := true) q3 (ite_t ?_)
      exact ⟨bu, σ.ms, Str.ofString "auto", rfl, hm, l4, l2, ls, rfl, h _ _ _⟩
    rw [if_neg q3] at h
    refine fEqW_of (b := false) (Bool.eq_false_iff.mpr q3) (ite_f ?_)
    by_cases q4 : eqW (.str w) "tag" = true
    · rw [if_pos q4] at h
      refine fEqW_of (b := true) q4 (ite_t ?_)
      exact ⟨bu, h _ _ _⟩
    rw [if_neg q4] at h
    refine fEqW_of (b := false) (Bool.eq_false_iff.mpr q4) (ite_f ?_)
    by_cases q5 : eqW (.str w) "mark" = true
    · rw [if_pos q5] at h
      refine fEqW_of (b := true) q5 (ite_t ?_)
      exact ⟨σ.ms, p, rfl, hm, h _ _ _⟩
    rw [if_neg q5] at h
    refine fEqW_of (b := false) (Bool.eq_false_iff.mpr q5) (ite_f ?_)
    exact h _ _ _
  cases x with
  | dd w p => exact ⟨_, rfl, _, rfl, _, _, rfl, (show 4 ≤ sizeLine by decide), key w p rfl rfl⟩
  | en w => exact ⟨_, rfl, _, rfl, _, _, rfl, (show 4 ≤ sizeLine by decide), key w w rfl rfl⟩
theorem actS_f (s a : Str) (pl n : Nat) (w p : Str) (σ : MS) : (actS s a pl n w p σ).filed.length ≤ σ.filed.length + 1 ∧ (actS s a pl n w p σ).sent.length ≤ σ.sent.length + 1 := by
  unfold actS
  split
  · exact ⟨by rw [List.length_append, List.length_singleton]; exact Nat.le_refl _, Nat.le_succ _⟩
  split
  · exact ⟨Nat.le_succ _, by rw [List.length_append, List.length_singleton]; exact Nat.le_refl _⟩
  split
  · exact ⟨Nat.le_succ _, by rw [List.length_append, List.length_singleton]; exact Nat.le_refl _⟩
  split
  · exact ⟨Nat.le_succ _, Nat.le_succ _⟩
  split
  · exact ⟨Nat.le_succ _, Nat.le_succ _⟩
  · exact ⟨Nat.le_succ _, Nat.le_succ _⟩
theorem runA_f (s a : Str) (pl : Nat) : ∀ (as : List Act) (n : Nat) (σ : MS), (runA s a pl n as σ).filed.length ≤ σ.filed.length + as.length ∧ (runA s a pl n as σ).sent.length ≤ σ.sent.length + as.length
  | [], n, σ => ⟨Nat.le_refl _, Nat.le_refl _⟩
  | x :: xs, n, σ => by
    have q := runA_f s a pl xs (n + 1) (actS s a pl n x.w x.p σ)
    have r := actS_f s a pl n x.w x.p σ
    rw [List.length_cons]
    exact ⟨by show (runA s a pl (n + 1) xs _).filed.length ≤ _; omega, by show (runA s a pl (n + 1) xs _).sent.length ≤ _; omega⟩
def actsD : TDS := dFor (dItEU (dCons (dVar 12) dNil)) (gdTup 2 (gdCons (gdName 13) (gdCons (gdName 14) gdNil))) actBody
theorem acts_l {E : DE} {r0 m1 x11 x13 x14 x15 x16 x17 : Sl} {s a : Str} {σ : MS} {f : List Nat} {pl : Nat} {as : List Act} (hl : as.length ≤ 6) (hp : ∀ x ∈ as, x.p.length ≤ 12) (hu : σ.u.length ≤ 3900) (hm : σ.ms.length ≤ 900) (hf : σ.filed.length < 900) (hs : σ.sent.length < 900)
    (h : ∀ y13 y14 y15 y16 y17, E.nx (mbS r0 m1 s a (runA s a pl 0 as σ) f (.v (.p (.int (pl : Nat)))) x11 (.v (.p (.tuple (as.map Act.d)))) y13 y14 y15 y16 y17)) :
    actsD E (mbS r0 m1 s a σ f (.v (.p (.int (pl : Nat)))) x11 (.v (.p (.tuple (as.map Act.d)))) x13 x14 x15 x16 x17) := by
  refine ⟨as.map Act.d, rfl, for_en (fun pre δ => ∃ bs r : List Act, pre = bs.map Act.d ∧ as = bs ++ r ∧ ∃ y13 y14 y15 y16 y17, δ = mbS r0 m1 s a (runA s a pl 0 bs σ) f (.v (.p (.int (pl : Nat)))) x11 (.v (.p (.tuple (as.map Act.d)))) y13 y14 y15 y16 y17) ⟨[], as, rfl, rfl, _, _, _, _, _, rfl⟩ (fun pre x hx δ' hI E' hrt hnx hct hbk => ?_) fun δ' hI => ?_⟩
  · obtain ⟨bs, r, rfl, e1, y13, y14, y15, y16, y17, rfl⟩ := hI
    obtain ⟨r2, e2⟩ := hx
    rw [e1, List.map_append] at e2
    have e3 := List.append_cancel_left e2
    cases r with
    | nil => cases e3
    | cons y r =>
      rw [List.map_cons] at e3
      obtain ⟨e4, -⟩ := List.cons.inj e3
      subst e4
      have lb : bs.length + 1 ≤ 6 := by
        rw [e1, List.length_append, List.length_cons] at hl
        omega
      have hb : ∀ z ∈ bs, z.p.length ≤ 12 := fun z m => hp z (by rw [e1]; exact List.mem_append_left _ m)
      have b1 := runA_u s a pl bs 0 σ hb
      have b2 := runA_f s a pl bs 0 σ
      refine ⟨rfl, _, _, rfl, _, _, rfl, rfl, ?_⟩
      rw [List.length_map]
      refine act_l (n := bs.length) (x := y) (hp y (by rw [e1]; exact List.mem_append_right _ List.mem_cons_self)) (by omega) (by omega) (by omega) (by omega) fun z15 z16 z17 => hnx _ ⟨bs ++ [y], r, by rw [List.map_append]; rfl, by rw [e1, List.append_assoc]; rfl, .v (.p (.int (bs.length : Nat))), .v (.p y.d), z15, z16, z17, by rw [runA_app, Nat.zero_add]⟩
  · obtain ⟨bs, r, e0, e1, y13, y14, y15, y16, y17, rfl⟩ := hI
    have e2 : r = [] := by
      have := congrArg List.length e0
      rw [List.length_map, List.length_map, e1, List.length_append] at this
      exact List.eq_nil_of_length_eq_zero (by omega)
    rw [e2, List.append_nil] at e1
    subst e1
    exact h _ _ _ _ _
def ruleBody : TDS := dSeq (dIfS (dNotT (dB (dCall (gHold 4) (dCons (dVar 11) (dCons (dTup (dCons (dVar 2) (dCons (dVar 3) (dCons (dVar 4) (dCons (dVar 5) dNil))))) dNil))))) dCont dNext) (dSeq (dApp 6 (dVar 10)) (dSeq actsD (dIfS (dTruS (dVar 9)) dBreak dNext)))
theorem rule_l {E : DE} {r0 m1 x13 x14 x15 x16 x17 : Sl} {s a : Str} {σ : MS} {f : List Nat} {pl : Nat} {r : Rl} (ok : r.ok) (hu : σ.u.length ≤ 3900) (hm : σ.ms.length ≤ 900) (hf : σ.filed.length < 900) (hs : σ.sent.length < 900) (hw : (runA s a pl 0 r.as σ).fin.length ≤ 1000) (hfl : f.length < 1000)
    (hno : ¬ r.c.hold s σ.u σ.ms = true → ∀ y13 y14 y15 y16 y17, E.ct (mbS r0 m1 s a σ f (.v (.p (.int (pl : Nat)))) (.v (.p r.c.d)) (.v (.p (.tuple (r.as.map Act.d)))) y13 y14 y15 y16 y17))
    (hgo : r.c.hold s σ.u σ.ms = true → (runA s a pl 0 r.as σ).fin.length = 0 → ∀ y13 y14 y15 y16 y17, E.nx (mbS r0 m1 s a (runA s a pl 0 r.as σ) (f ++ [pl]) (.v (.p (.int (pl : Nat)))) (.v (.p r.c.d)) (.v (.p (.tuple (r.as.map Act.d)))) y13 y14 y15 y16 y17))
    (hst : r.c.hold s σ.u σ.ms = true → ¬ (runA s a pl 0 r.as σ).fin.length = 0 → ∀ y13 y14 y15 y16 y17, E.bk (mbS r0 m1 s a (runA s a pl 0 r.as σ) (f ++ [pl]) (.v (.p (.int (pl : Nat)))) (.v (.p r.c.d)) (.v (.p (.tuple (r.as.map Act.d)))) y13 y14 y15 y16 y17)) :
    ruleBody E (mbS r0 m1 s a σ f (.v (.p (.int (pl : Nat)))) (.v (.p r.c.d)) (.v (.p (.tuple (r.as.map Act.d)))) x13 x14 x15 x16 x17) := by
  refine ⟨(show 4 ≤ sizeLine by decide), r.c, s, a, σ.u, σ.ms, rfl, ok.c, Nat.le_trans hu (by decide), ?_⟩
  show if (!r.c.hold s σ.u σ.ms) = true then _ else _
  by_cases q : r.c.hold s σ.u σ.ms = true
  · rw [q]
    have e : (f ++ [pl]).map (fun (k : Nat) => PyData.int (k : Nat)) = f.map (fun (k : Nat) => PyData.int (k : Nat)) ++ [.int (pl : Nat)] := by rw [List.map_append]; rfl
    refine ⟨by rw [List.length_map]; exact Nat.lt_trans hfl (by decide), rfl, ?_⟩
    have fin : ∀ y13 y14 y15 y16 y17, dIfS (dTruS (dVar 9)) dBreak dNext E (mbS r0 m1 s a (runA s a pl 0 r.as σ) (f ++ [pl]) (.v (.p (.int (pl : Nat)))) (.v (.p r.c.d)) (.v (.p (.tuple (r.as.map Act.d)))) y13 y14 y15 y16 y17) := fun y13 y14 y15 y16 y17 => by
      refine ⟨Nat.le_trans hw (by decide), ?_⟩
      by_cases z : (runA s a pl 0 r.as σ).fin.length = 0
      · rw [decide_eq_true z]
        exact hgo q z _ _ _ _ _
      · rw [decide_eq_false z]
        exact hst q z _ _ _ _ _
    have := acts_l (E := { E with nx := dIfS (dTruS (dVar 9)) dBreak dNext E }) (r0 := r0) (m1 := m1) (x11 := .v (.p r.c.d)) (x13 := x13) (x14 := x14) (x15 := x15) (x16 := x16) (x17 := x17) (s := s) (a := a) (σ := σ) (f := f ++ [pl]) (pl := pl) ok.len ok.p hu hm hf hs fin
    unfold mbS at this
    rw [e] at this
    exact this
  · rw [Bool.eq_false_iff.mpr q]
    exact hno q _ _ _ _ _
theorem actS_w (s a : Str) (pl n : Nat) (w p : Str) (σ : MS) (hw : w.length ≤ 1000) (h : σ.fin.length ≤ 1000) : (actS s a pl n w p σ).fin.length ≤ 1000 := by
  unfold actS
  split
  · exact h
  split
  · exact h
  split
  · exact h
  split
  · exact h
  split
  · exact h
  · exact hw
theorem runA_w (s a : Str) (pl : Nat) : ∀ (as : List Act) (n : Nat) (σ : MS), (∀ x ∈ as, x.w.length ≤ 1000) → σ.fin.length ≤ 1000 → (runA s a pl n as σ).fin.length ≤ 1000
  | [], n, σ, _, h => h
  | x :: xs, n, σ, hx, h => runA_w s a pl xs (n + 1) _ (fun y m => hx y (List.mem_cons_of_mem _ m)) (actS_w s a pl n x.w x.p σ (hx x List.mem_cons_self) h)
structure Bnd (k : Nat) (f : List Nat) (σ : MS) : Prop where
  f : f.length ≤ k
  u : σ.u.length ≤ 200 + 72 * k
  m : σ.ms.length ≤ 50 + 6 * k
  fl : σ.filed.length ≤ 6 * k
  st : σ.sent.length ≤ 6 * k
def rulesD : TDS := dFor (dItEU (dCons (dVar 0) dNil)) (gdTup 2 (gdCons (gdName 10) (gdCons (gdTup 2 (gdCons (gdName 11) (gdCons (gdName 12) gdNil))) gdNil))) ruleBody
theorem rules_l {E : DE} {m1 x10 x11 x12 x13 x14 x15 x16 x17 : Sl} {s a : Str} {σ0 : MS} {rl : List Rl} (hl : rl.length ≤ 10) (ok : ∀ r ∈ rl, r.ok) (ow : ∀ r ∈ rl, ∀ x ∈ r.as, x.w.length ≤ 1000) (b0 : Bnd 0 [] σ0) (z0 : σ0.fin.length = 0)
    (h : ∀ f σ, runR s a 0 rl [] σ0 = (f, σ) → Bnd 10 f σ → ∀ y10 y11 y12 y13 y14 y15 y16 y17, E.nx (mbS (.v (.p (.tuple (rl.map Rl.d)))) m1 s a σ f y10 y11 y12 y13 y14 y15 y16 y17)) :
    rulesD E (mbS (.v (.p (.tuple (rl.map Rl.d)))) m1 s a σ0 [] x10 x11 x12 x13 x14 x15 x16 x17) := by
  have up : ∀ {k : Nat} {f : List Nat} {σ : MS}, k ≤ 10 → Bnd k f σ → Bnd 10 f σ := fun hk b => ⟨Nat.le_trans b.f hk, by have := b.u; omega, by have := b.m; omega, by have := b.fl; omega, by have := b.st; omega⟩
  refine ⟨rl.map Rl.d, rfl, for_en (fun pre δ => ∃ bs r : List Rl, pre = bs.map Rl.d ∧ rl = bs ++ r ∧ ∃ f σ, runR s a 0 rl [] σ0 = runR s a bs.length r f σ ∧ Bnd bs.length f σ ∧ σ.fin.length = 0 ∧ ∃ y10 y11 y12 y13 y14 y15 y16 y17, δ = mbS (.v (.p (.tuple (rl.map Rl.d)))) m1 s a σ f y10 y11 y12 y13 y14 y15 y16 y17) ⟨[], rl, rfl, rfl, [], σ0, rfl, b0, z0, _, _, _, _, _, _, _, _, rfl⟩ (fun pre x hx δ' hI E' hrt hnx hct hbk => ?_) fun δ' hI => ?_⟩
  · obtain ⟨bs, r, rfl, e1, f, σ, er, b, z, y10, y11, y12, y13, y14, y15, y16, y17, rfl⟩ := hI
    obtain ⟨r2, e2⟩ := hx
    rw [e1, List.map_append] at e2
    have e3 := List.append_cancel_left e2
    cases r with
    | nil => cases e3
    | cons y r =>
      rw [List.map_cons] at e3
      obtain ⟨e4, -⟩ := List.cons.inj e3
      subst e4
      have lb : bs.length + 1 ≤ 10 := by
        rw [e1, List.length_append, List.length_cons] at hl
        omega
      have my : y ∈ rl := by rw [e1]; exact List.mem_append_right _ List.mem_cons_self
      have oy := ok y my
      have q1 := runA_u s a bs.length y.as 0 σ oy.p
      have q2 := runA_f s a bs.length y.as 0 σ
      have ol := oy.len
      have nb : Bnd (bs.length + 1) (f ++ [bs.length]) (runA s a bs.length 0 y.as σ) := ⟨by rw [List.length_append, List.length_singleton]; have := b.f; omega, by have := b.u; omega, by have := b.m; omega, by have := b.fl; omega, by have := b.st; omega⟩
      have sb : Bnd (bs.length + 1) f σ := ⟨Nat.le_succ_of_le b.f, by have := b.u; omega, by have := b.m; omega, by have := b.fl; omega, by have := b.st; omega⟩
      have lc : (bs ++ [y]).length = bs.length + 1 := by rw [List.length_append, List.length_singleton]
      refine ⟨rfl, _, _, rfl, _, _, rfl, rfl, _, _, rfl, _, _, rfl, rfl, rfl, ?_⟩
      rw [List.length_map]
      refine rule_l (pl := bs.length) (r := y) oy (by have := b.u; omega) (by have := b.m; omega) (by have := b.fl; omega) (by have := b.st; omega) (runA_w s a _ _ _ _ (ow y my) (by omega)) (by have := b.f; omega) (fun hn z13 z14 z15 z16 z17 => ?_) (fun hy hz z13 z14 z15 z16 z17 => ?_) (fun hy hz z13 z14 z15 z16 z17 => ?_)
      · refine hct _ ⟨bs ++ [y], r, by rw [List.map_append]; rfl, by rw [e1, List.append_assoc]; rfl, f, σ, ?_, by rw [lc]; exact sb, z, _, _, _, z13, z14, z15, z16, z17, rfl⟩
        rw [er, lc]
        show (if y.c.hold s σ.u σ.ms = true then _ else _) = _
        rw [if_neg hn]
      · refine hnx _ ⟨bs ++ [y], r, by rw [List.map_append]; rfl, by rw [e1, List.append_assoc]; rfl, f ++ [bs.length], _, ?_, by rw [lc]; exact nb, hz, _, _, _, z13, z14, z15, z16, z17, rfl⟩
        rw [er, lc]
        show (if y.c.hold s σ.u σ.ms = true then _ else _) = _
        rw [if_pos hy, if_pos hz]
      · refine hbk _ (h _ _ ?_ (up lb nb) _ _ _ _ _ _ _ _)
        rw [er]
        show (if y.c.hold s σ.u σ.ms = true then _ else _) = _
        rw [if_pos hy, if_neg hz]
  · obtain ⟨bs, r, e0, e1, f, σ, er, b, z, y10, y11, y12, y13, y14, y15, y16, y17, rfl⟩ := hI
    have e2 : r = [] := by
      have := congrArg List.length e0
      rw [List.length_map, List.length_map, e1, List.length_append] at this
      exact List.eq_nil_of_length_eq_zero (by omega)
    subst e2
    have lb : bs.length ≤ 10 := by
      rw [e1, List.length_append] at hl
      omega
    exact h f σ er (up lb b) _ _ _ _ _ _ _ _
def lastD : TDS := dIfS (dFrzT 7 (dAndT (dNotT (dTruL (dVar 7))) (dB (dOp (fEqQ true) (dVar 9) (dC (.p (.str (Str.ofString "drop")))))))) (dApp 7 (dTup (dCons (dC (.p (.str (Str.ofString "inbox")))) (dCons (dTup (dCons (dVar 2) (dCons (dVar 3) (dCons (dVar 4) (dCons (dVar 5) dNil))))) dNil)))) dNext
def retD : TDS := dFrz 6 (dFrz 7 (dFrz 8 (dRet (dTup (dCons (dVar 6) (dCons (dVar 7) (dCons (dVar 8) dNil)))))))
theorem last_l {E : DE} {r0 m1 y10 y11 y12 y13 y14 y15 y16 y17 : Sl} {s a : Str} {σ : MS} {f : List Nat} (hf : σ.filed.length ≤ 100)
    (h : E.rt (.p (.tuple [.list (f.map fun (k : Nat) => .int (k : Nat)), .list (lastS s a σ), .list σ.sent]))) :
    dSeq lastD retD E (mbS r0 m1 s a σ f y10 y11 y12 y13 y14 y15 y16 y17) := by
  have ret : ∀ fl : List PyData, fl = lastS s a σ → retD E (mbS r0 m1 s a { σ with filed := fl } f y10 y11 y12 y13 y14 y15 y16 y17) := fun fl e => ⟨(show 3 ≤ sizeLine by decide), by rw [e]; exact h⟩
  have go : ∀ b : Bool, b = (σ.filed.isEmpty && !eqW (.str σ.fin) "drop") → if b = true then (dApp 7 (dTup (dCons (dC (.p (.str (Str.ofString "inbox")))) (dCons (dTup (dCons (dVar 2) (dCons (dVar 3) (dCons (dVar 4) (dCons (dVar 5) dNil))))) dNil)))) { E with nx := retD E } (mbS r0 m1 s a σ f y10 y11 y12 y13 y14 y15 y16 y17) else retD E (mbS r0 m1 s a σ f y10 y11 y12 y13 y14 y15 y16 y17) := fun b e => by
    cases b with
    | true =>
      exact ⟨(show 4 ≤ sizeLine by decide), (show 2 ≤ sizeLine by decide), Nat.lt_of_le_of_lt hf (by decide), rfl, ret _ (by unfold lastS; rw [if_pos e.symm])⟩
    | false => exact ret σ.filed (by unfold lastS; rw [if_neg (by rw [← e]; decide)])
  have tst : ∀ K : Bool → Prop, K (σ.filed.isEmpty && !eqW (.str σ.fin) "drop") → dFrzT 7 (dAndT (dNotT (dTruL (dVar 7))) (dB (dOp (fEqQ true) (dVar 9) (dC (.p (.str (Str.ofString "drop"))))))) (mbS r0 m1 s a σ f y10 y11 y12 y13 y14 y15 y16 y17) K := fun K hK => by
    simp only [dFrzT, dAndT, dNotT, dTruL, dVar, dB, dOp, dC, mbS, asL, List.getD_cons_zero, List.getD_cons_succ, List.set_cons_succ, List.set_cons_zero]
    cases e : σ.filed.isEmpty with
    | false => rw [e] at hK; exact hK
    | true =>
      rw [e] at hK
      refine ⟨rfl, rfl, Nat.zero_le _, ?_⟩
      show K (!PyData.eqv (.str σ.fin) (.str (Str.ofString "drop")))
      rw [eqv_ss]
      exact hK
  unfold dSeq lastD dIfS
  exact tst _ (go _ rfl)
structure EqS (σ τ : MS) : Prop where
  u : σ.u = τ.u
  ms : σ.ms = τ.ms
  fl : σ.filed = τ.filed
  st : σ.sent.map sndD = τ.sent.map sndD
  fn : σ.fin = τ.fin
theorem EqS.refl (σ : MS) : EqS σ σ := ⟨rfl, rfl, rfl, rfl, rfl⟩
theorem EqS.symm {σ τ : MS} (h : EqS σ τ) : EqS τ σ := ⟨h.u.symm, h.ms.symm, h.fl.symm, h.st.symm, h.fn.symm⟩
theorem EqS.trans {σ τ ρ : MS} (h : EqS σ τ) (g : EqS τ ρ) : EqS σ ρ := ⟨h.u.trans g.u, h.ms.trans g.ms, h.fl.trans g.fl, h.st.trans g.st, h.fn.trans g.fn⟩
theorem actS_eq {s a : Str} {pl n pl' n' : Nat} {w p : Str} {σ τ : MS} (h : EqS σ τ) : EqS (actS s a pl n w p σ) (actS s a pl' n' w p τ) := by
  obtain ⟨h1, h2, h3, h4, h5⟩ := h
  unfold actS
  by_cases q1 : eqW (.str w) "file" = true
  · rw [if_pos q1, if_pos q1]
    exact ⟨h1, h2, by show σ.filed ++ _ = τ.filed ++ _; rw [h1, h2, h3], h4, h5⟩
  rw [if_neg q1, if_neg q1]
  by_cases q2 : eqW (.str w) "forward" = true
  · rw [if_pos q2, if_pos q2]
    exact ⟨h1, h2, h3, by show (σ.sent ++ _).map sndD = (τ.sent ++ _).map sndD; rw [List.map_append, List.map_append, h4, h1, h2]; rfl, h5⟩
  rw [if_neg q2, if_neg q2]
  by_cases q3 : eqW (.str w) "reply" = true
  · rw [if_pos q3, if_pos q3]
    exact ⟨h1, h2, h3, by show (σ.sent ++ _).map sndD = (τ.sent ++ _).map sndD; rw [List.map_append, List.map_append, h4, h1, h2]; rfl, h5⟩
  rw [if_neg q3, if_neg q3]
  by_cases q4 : eqW (.str w) "tag" = true
  · rw [if_pos q4, if_pos q4]
    exact ⟨by show p ++ σ.u = p ++ τ.u; rw [h1], h2, h3, h4, h5⟩
  rw [if_neg q4, if_neg q4]
  by_cases q5 : eqW (.str w) "mark" = true
  · rw [if_pos q5, if_pos q5]
    exact ⟨h1, by show rs (σ.ms ++ [p]) = rs (τ.ms ++ [p]); rw [h2], h3, h4, h5⟩
  rw [if_neg q5, if_neg q5]
  exact ⟨h1, h2, h3, h4, rfl⟩
theorem runA_eq {s a : Str} {pl pl' : Nat} : ∀ (as : List Act) (n n' : Nat) {σ τ : MS}, EqS σ τ → EqS (runA s a pl n as σ) (runA s a pl' n' as τ)
  | [], _, _, _, _, h => h
  | x :: as, n, n', _, _, h => runA_eq as (n + 1) (n' + 1) (actS_eq h)
def Sim (X Y : List Nat × MS) : Prop := X.1.length = Y.1.length ∧ EqS X.2 Y.2
theorem Sim.trans {X Y Z : List Nat × MS} (h : Sim X Y) (g : Sim Y Z) : Sim X Z := ⟨h.1.trans g.1, h.2.trans g.2⟩
theorem Sim.symm {X Y : List Nat × MS} (h : Sim X Y) : Sim Y X := ⟨h.1.symm, h.2.symm⟩
theorem runR_cons (s a : Str) (k : Nat) (r : Rl) (rs' : List Rl) (f : List Nat) (σ : MS) : runR s a k (r :: rs') f σ = if r.c.hold s σ.u σ.ms = true then
      (if (runA s a k 0 r.as σ).fin.length = 0 then runR s a (k + 1) rs' (f ++ [k]) (runA s a k 0 r.as σ) else (f ++ [k], runA s a k 0 r.as σ))
    else runR s a (k + 1) rs' f σ := rfl
theorem runR_sim {s a : Str} : ∀ (xs : List Rl) (k k' : Nat) (f f' : List Nat) {σ τ : MS}, f.length = f'.length → EqS σ τ → Sim (runR s a k xs f σ) (runR s a k' xs f' τ)
  | [], _, _, _, _, _, _, hf, h => ⟨hf, h⟩
  | r :: xs, k, k', f, f', σ, τ, hf, h => by
    rw [runR_cons, runR_cons, ← h.u, ← h.ms]
    have ha := runA_eq (s := s) (a := a) (pl := k) (pl' := k') r.as 0 0 h
    have hl : (f ++ [k]).length = (f' ++ [k']).length := by rw [List.length_append, List.length_append, hf]; rfl
    by_cases q : r.c.hold s σ.u σ.ms = true
    · rw [if_pos q, if_pos q, ← ha.fn]
      by_cases z : (runA s a k 0 r.as σ).fin.length = 0
      · rw [if_pos z, if_pos z]
        exact runR_sim xs _ _ _ _ hl ha
      · rw [if_neg z, if_neg z]
        exact ⟨hl, ha⟩
    · rw [if_neg q, if_neg q]
      exact runR_sim xs _ _ _ _ hf h
theorem runR_app (s a : Str) : ∀ (xs ys : List Rl) (k : Nat) (f : List Nat) (σ : MS), σ.fin.length = 0 → runR s a k (xs ++ ys) f σ = if (runR s a k xs f σ).2.fin.length = 0 then runR s a (k + xs.length) ys (runR s a k xs f σ).1 (runR s a k xs f σ).2 else runR s a k xs f σ
  | [], ys, k, f, σ, h => by
    show runR s a k ys f σ = if σ.fin.length = 0 then runR s a k ys f σ else _
    rw [if_pos h]
  | r :: xs, ys, k, f, σ, h => by
    rw [List.cons_append, runR_cons, runR_cons, List.length_cons, show k + (xs.length + 1) = k + 1 + xs.length by omega]
    by_cases q : r.c.hold s σ.u σ.ms = true
    · rw [if_pos q, if_pos q]
      by_cases z : (runA s a k 0 r.as σ).fin.length = 0
      · rw [if_pos z, if_pos z]
        exact runR_app s a xs ys (k + 1) _ _ z
      · rw [if_neg z, if_neg z, if_neg z]
    · rw [if_neg q, if_neg q]
      exact runR_app s a xs ys (k + 1) _ _ h
/-- behind two runs that go alike, what follows goes alike -/
theorem sim_app {s a : Str} {xs ys zs ws : List Rl} {k k' : Nat} {f f' : List Nat} {σ τ : MS} (z : σ.fin.length = 0) (z' : τ.fin.length = 0) (h : Sim (runR s a k xs f σ) (runR s a k' ys f' τ))
    (g : ∀ (j j' : Nat) (l l' : List Nat) (ρ ρ' : MS), l.length = l'.length → EqS ρ ρ' → ρ.fin.length = 0 → Sim (runR s a j zs l ρ) (runR s a j' ws l' ρ')) : Sim (runR s a k (xs ++ zs) f σ) (runR s a k' (ys ++ ws) f' τ) := by
  rw [runR_app s a xs zs k f σ z, runR_app s a ys ws k' f' τ z', ← h.2.fn]
  by_cases q : (runR s a k xs f σ).2.fin.length = 0
  · rw [if_pos q, if_pos q]
    exact g _ _ _ _ _ _ h.1 h.2 q
  · rw [if_neg q, if_neg q]
    exact h
def PlainA (as : List Act) : Prop := (∀ x ∈ as, eqW (.str x.w) "tag" = false ∧ eqW (.str x.w) "mark" = false) ∨ ∃ bs w, as = bs ++ [Act.en w] ∧ w.length ≠ 0 ∧ (eqW (.str w) "file" = false ∧ eqW (.str w) "forward" = false ∧ eqW (.str w) "reply" = false ∧ eqW (.str w) "tag" = false ∧ eqW (.str w) "mark" = false)
theorem actS_um {s a : Str} {pl n : Nat} {w p : Str} {σ : MS} (h1 : eqW (.str w) "tag" = false) (h2 : eqW (.str w) "mark" = false) : (actS s a pl n w p σ).u = σ.u ∧ (actS s a pl n w p σ).ms = σ.ms := by
  unfold actS
  split
  · exact ⟨rfl, rfl⟩
  split
  · exact ⟨rfl, rfl⟩
  split
  · exact ⟨rfl, rfl⟩
  split
  · rename_i q; rw [h1] at q; cases q
  split
  · rename_i q; rw [h2] at q; cases q
  · exact ⟨rfl, rfl⟩
theorem runA_um {s a : Str} {pl : Nat} : ∀ (as : List Act) (n : Nat) (σ : MS), (∀ x ∈ as, eqW (.str x.w) "tag" = false ∧ eqW (.str x.w) "mark" = false) → (runA s a pl n as σ).u = σ.u ∧ (runA s a pl n as σ).ms = σ.ms
  | [], _, _, _ => ⟨rfl, rfl⟩
  | x :: as, n, σ, h => by
    have h1 := h x List.mem_cons_self
    have q := actS_um (s := s) (a := a) (pl := pl) (n := n) (p := x.p) (σ := σ) h1.1 h1.2
    have r := runA_um (s := s) (a := a) (pl := pl) as (n + 1) (actS s a pl n x.w x.p σ) fun y m => h y (List.mem_cons_of_mem _ m)
    exact ⟨r.1.trans q.1, r.2.trans q.2⟩
theorem plain_um {s a : Str} {pl : Nat} {as : List Act} {σ : MS} (h : PlainA as) (z : (runA s a pl 0 as σ).fin.length = 0) : (runA s a pl 0 as σ).u = σ.u ∧ (runA s a pl 0 as σ).ms = σ.ms := by
  rcases h with h | ⟨bs, w, rfl, hw, q1, q2, q3, q4, q5⟩
  · exact runA_um as 0 σ h
  · exfalso
    rw [runA_app] at z
    refine hw ?_
    have e : (actS s a pl (0 + bs.length) (Act.en w).w (Act.en w).p (runA s a pl 0 bs σ)).fin = w := by
      show (actS s a pl (0 + bs.length) w w (runA s a pl 0 bs σ)).fin = w
      unfold actS
      rw [if_neg (by rw [q1]; decide), if_neg (by rw [q2]; decide), if_neg (by rw [q3]; decide), if_neg (by rw [q4]; decide), if_neg (by rw [q5]; decide)]
    rw [e] at z
    exact z
/-- a rule parted in two by a test -/
theorem parted_sim {s a : Str} {k k' : Nat} {f f' : List Nat} {σ τ : MS} {r q1 q2 : Rl} (pl : PlainA r.as) (e1 : q1.as = r.as) (e2 : q2.as = r.as)
    (hc : ∀ u ms, (r.c.hold s u ms = true ∧ ((q1.c.hold s u ms = true ∧ q2.c.hold s u ms = false) ∨ (q1.c.hold s u ms = false ∧ q2.c.hold s u ms = true))) ∨ (r.c.hold s u ms = false ∧ q1.c.hold s u ms = false ∧ q2.c.hold s u ms = false))
    (hf : f.length = f'.length) (h : EqS σ τ) : Sim (runR s a k [r] f σ) (runR s a k' [q1, q2] f' τ) := by
  rw [runR_cons, runR_cons, runR_cons, e1]
  show Sim (if r.c.hold s σ.u σ.ms = true then (if (runA s a k 0 r.as σ).fin.length = 0 then (f ++ [k], runA s a k 0 r.as σ) else (f ++ [k], runA s a k 0 r.as σ)) else (f, σ)) _
  have hl : ∀ j j' : Nat, (f ++ [j]).length = (f' ++ [j']).length := fun j j' => by rw [List.length_append, List.length_append, hf]; rfl
  have ha := runA_eq (s := s) (a := a) (pl := k) (pl' := k') r.as 0 0 h
  rcases hc τ.u τ.ms with ⟨c0, ⟨c1, c2⟩ | ⟨c1, c2⟩⟩ | ⟨c0, c1, c2⟩
  · rw [if_pos (by rw [h.u, h.ms]; exact c0), ite_self, if_pos c1]
    by_cases z : (runA s a k' 0 r.as τ).fin.length = 0
    · obtain ⟨u1, u2⟩ := plain_um pl z
      rw [if_pos z, u1, u2, if_neg (by rw [c2]; decide)]
      exact ⟨hl _ _, ha⟩
    · rw [if_neg z]
      exact ⟨hl _ _, ha⟩
  · rw [if_pos (by rw [h.u, h.ms]; exact c0), ite_self, if_neg (by rw [c1]; decide), runR_cons, if_pos c2, e2]
    have ha2 := runA_eq (s := s) (a := a) (pl := k) (pl' := k' + 1) r.as 0 0 h
    show Sim _ (if (runA s a (k' + 1) 0 r.as τ).fin.length = 0 then (f' ++ [k' + 1], runA s a (k' + 1) 0 r.as τ) else (f' ++ [k' + 1], runA s a (k' + 1) 0 r.as τ))
    rw [ite_self]
    exact ⟨hl _ _, ha2⟩
  · rw [if_neg (by rw [h.u, h.ms, c0]; decide), if_neg (by rw [c1]; decide), runR_cons, if_neg (by rw [c2]; decide)]
    exact ⟨hf, h⟩
theorem never_sim {s a : Str} {k k' : Nat} {f f' : List Nat} {σ τ : MS} {q : Rl} (hc : ∀ u ms, q.c.hold s u ms = false) (hf : f.length = f'.length) (h : EqS σ τ) : Sim (runR s a k [] f σ) (runR s a k' [q] f' τ) := by
  rw [runR_cons, if_neg (by rw [hc]; decide)]
  exact ⟨hf, h⟩
theorem pair_sim {s a : Str} {k k' : Nat} {f f' : List Nat} {σ τ : MS} {p q : Rl} (hc : (∀ u ms, p.c.hold s u ms = false) ∨ (∀ u ms, q.c.hold s u ms = false)) (hf : f.length = f'.length) (h : EqS σ τ) : Sim (runR s a k [p, q] f σ) (runR s a k' [q, p] f' τ) := by
  rcases hc with c | c
  · have e1 : runR s a k [p, q] f σ = runR s a (k + 1) [q] f σ := by rw [runR_cons, if_neg (by rw [c]; decide)]
    have e2 : ∀ (j : Nat) (g : List Nat) (ρ : MS), runR s a j [p] g ρ = (g, ρ) := fun j g ρ => by rw [runR_cons, if_neg (by rw [c]; decide)]; rfl
    have e3 : runR s a k' [q, p] f' τ = runR s a k' [q] f' τ := by rw [runR_cons, e2, e2, runR_cons]; rfl
    rw [e1, e3]
    exact runR_sim _ _ _ _ _ hf h
  · have e1 : runR s a k' [q, p] f' τ = runR s a (k' + 1) [p] f' τ := by rw [runR_cons, if_neg (by rw [c]; decide)]
    have e2 : ∀ (j : Nat) (g : List Nat) (ρ : MS), runR s a j [q] g ρ = (g, ρ) := fun j g ρ => by rw [runR_cons, if_neg (by rw [c]; decide)]; rfl
    have e3 : runR s a k [p, q] f σ = runR s a k [p] f σ := by rw [runR_cons, e2, e2, runR_cons]; rfl
    rw [e1, e3]
    exact runR_sim _ _ _ _ _ hf h
/-- the places that fire -/
theorem runR_pl {s a : Str} : ∀ (xs : List Rl) (k : Nat) (f : List Nat) (σ : MS), ∃ g, (runR s a k xs f σ).1 = f ++ g ∧ (∀ j ∈ g, k ≤ j ∧ j < k + xs.length)
  | [], k, f, σ => ⟨[], (List.append_nil f).symm, fun _ h => absurd h List.not_mem_nil⟩
  | r :: xs, k, f, σ => by
    rw [runR_cons]
    by_cases q : r.c.hold s σ.u σ.ms = true
    · rw [if_pos q]
      by_cases z : (runA s a k 0 r.as σ).fin.length = 0
      · rw [if_pos z]
        obtain ⟨g, e, h⟩ := runR_pl xs (k + 1) (f ++ [k]) (runA s a k 0 r.as σ)
        refine ⟨k :: g, by rw [e, List.append_assoc]; rfl, fun j m => ?_⟩
        rw [List.length_cons]
        rcases List.mem_cons.mp m with rfl | m
        · exact ⟨Nat.le_refl _, by omega⟩
        · have := h j m
          omega
      · rw [if_neg z]
        refine ⟨[k], rfl, fun j m => ?_⟩
        rw [List.length_cons, List.mem_singleton.mp m]
        exact ⟨Nat.le_refl _, by omega⟩
    · rw [if_neg q]
      obtain ⟨g, e, h⟩ := runR_pl xs (k + 1) f σ
      refine ⟨g, e, fun j m => ?_⟩
      have := h j m
      rw [List.length_cons]
      omega
theorem early_eq {s a : Str} {A X : List Rl} {σ : MS} (z : σ.fin.length = 0) : (runR s a 0 (A ++ X) [] σ).1.filter (fun j => decide (j < A.length)) = (runR s a 0 A [] σ).1 := by
  have hA : ((runR s a 0 A [] σ).1.filter fun j => decide (j < A.length)) = (runR s a 0 A [] σ).1 := by
    obtain ⟨g, e, h⟩ := runR_pl (s := s) (a := a) A 0 [] σ
    rw [e, List.nil_append]
    refine List.filter_eq_self.mpr fun j m => decide_eq_true ?_
    have := h j m
    omega
  rw [runR_app s a A X 0 [] σ z]
  by_cases q : (runR s a 0 A [] σ).2.fin.length = 0
  · rw [if_pos q]
    obtain ⟨g, e, h⟩ := runR_pl (s := s) (a := a) X (0 + A.length) (runR s a 0 A [] σ).1 (runR s a 0 A [] σ).2
    rw [e, List.filter_append, hA]
    rw [show g.filter (fun j => decide (j < A.length)) = [] from List.filter_eq_nil_iff.mpr fun j m => by
      have := h j m
      rw [decide_eq_false (by omega)]
      decide, List.append_nil]
  · rw [if_neg q, hA]
theorem k29_sim {s a : Str} {A B : List Rl} {r q1 q2 nv p1 p2 : Rl} {σ : MS} (z : σ.fin.length = 0) (pl : PlainA r.as) (e1 : q1.as = r.as) (e2 : q2.as = r.as)
    (hc : ∀ u ms, (r.c.hold s u ms = true ∧ ((q1.c.hold s u ms = true ∧ q2.c.hold s u ms = false) ∨ (q1.c.hold s u ms = false ∧ q2.c.hold s u ms = true))) ∨ (r.c.hold s u ms = false ∧ q1.c.hold s u ms = false ∧ q2.c.hold s u ms = false))
    (hn : ∀ u ms, nv.c.hold s u ms = false) (hp : (∀ u ms, p1.c.hold s u ms = false) ∨ (∀ u ms, p2.c.hold s u ms = false)) :
    Sim (runR s a 0 (A ++ ([r] ++ (B ++ [p1, p2]))) [] σ) (runR s a 0 (A ++ ([q1, q2] ++ ([nv] ++ (B ++ [p2, p1])))) [] σ) := by
  refine sim_app z z (runR_sim A 0 0 [] [] rfl (EqS.refl σ)) fun j j' l l' ρ ρ' hl he hz => ?_
  refine sim_app hz (by rw [← he.fn]; exact hz) (parted_sim pl e1 e2 hc hl he) fun j j' l l' ρ ρ' hl he hz => ?_
  refine sim_app (xs := []) (zs := B ++ [p1, p2]) hz (by rw [← he.fn]; exact hz) (never_sim hn hl he) fun j j' l l' ρ ρ' hl he hz => ?_
  exact sim_app hz (by rw [← he.fn]; exact hz) (runR_sim B _ _ _ _ hl he) fun j j' l l' ρ ρ' hl he hz => pair_sim hp hl he
theorem lastS_eq {s a : Str} {σ τ : MS} (h : EqS σ τ) : lastS s a σ = lastS s a τ := by
  unfold lastS
  rw [h.fl, h.fn, h.u, h.ms]
structure ShS (σ : MS) : Prop where
  fl : ∀ d ∈ σ.filed, ∃ (p : Str) (m : PyData), d = .tuple [.str p, m]
  st : ∀ d ∈ σ.sent, ∃ (c : PyData) (s a u : Str) (ms : List Str), d = .tuple [c, msgP s a u ms]
theorem actS_sh {s a : Str} {pl n : Nat} {w p : Str} {σ : MS} (h : ShS σ) : ShS (actS s a pl n w p σ) := by
  unfold actS
  split
  · exact ⟨fun d m => by
      rcases List.mem_append.mp m with m | m
      · exact h.fl d m
      · exact ⟨_, _, List.mem_singleton.mp m⟩, h.st⟩
  split
  · exact ⟨h.fl, fun d m => by
      rcases List.mem_append.mp m with m | m
      · exact h.st d m
      · exact ⟨_, _, _, _, _, List.mem_singleton.mp m⟩⟩
  split
  · exact ⟨h.fl, fun d m => by
      rcases List.mem_append.mp m with m | m
      · exact h.st d m
      · exact ⟨_, _, _, _, _, List.mem_singleton.mp m⟩⟩
  split
  · exact ⟨h.fl, h.st⟩
  split
  · exact ⟨h.fl, h.st⟩
  · exact ⟨h.fl, h.st⟩
theorem runA_sh {s a : Str} {pl : Nat} : ∀ (as : List Act) (n : Nat) {σ : MS}, ShS σ → ShS (runA s a pl n as σ)
  | [], _, _, h => h
  | x :: as, n, _, h => runA_sh as (n + 1) (actS_sh h)
theorem runR_sh {s a : Str} : ∀ (xs : List Rl) (k : Nat) (f : List Nat) {σ : MS}, ShS σ → ShS (runR s a k xs f σ).2
  | [], _, _, _, h => h
  | r :: xs, k, f, σ, h => by
    rw [runR_cons]
    by_cases q : r.c.hold s σ.u σ.ms = true
    · rw [if_pos q]
      by_cases z : (runA s a k 0 r.as σ).fin.length = 0
      · rw [if_pos z]
        exact runR_sh xs _ _ (runA_sh _ _ h)
      · rw [if_neg z]
        exact runA_sh _ _ h
    · rw [if_neg q]
      exact runR_sh xs _ _ h
theorem lastS_sh {s a : Str} {σ : MS} (h : ShS σ) : ∀ d ∈ lastS s a σ, ∃ (p : Str) (m : PyData), d = .tuple [.str p, m] := by
  unfold lastS
  split
  · intro d m
    rcases List.mem_append.mp m with m | m
    · exact h.fl d m
    · exact ⟨_, _, List.mem_singleton.mp m⟩
  · exact h.fl

theorem perm_map {α β : Type} {f : α → β} : ∀ {ys l : List β}, ys.Perm l → ∀ xs : List α, l = xs.map f → ∃ zs : List α, zs.Perm xs ∧ ys = zs.map f := by
  intro ys l h
  induction h with
  | nil => exact fun xs e => ⟨[], by rw [List.map_eq_nil_iff.mp e.symm], rfl⟩
  | cons x _ ih =>
    intro xs e
    match xs, e with
    | y :: xs, e =>
      rw [List.map_cons] at e
      obtain ⟨e1, e2⟩ := List.cons.inj e
      obtain ⟨zs, p, rfl⟩ := ih xs e2
      exact ⟨y :: zs, p.cons y, by rw [e1, List.map_cons]⟩
  | swap x y l =>
    intro xs e
    match xs, e with
    | a :: b :: xs, e =>
      rw [List.map_cons, List.map_cons] at e
      obtain ⟨e1, e2⟩ := List.cons.inj e
      obtain ⟨e3, e4⟩ := List.cons.inj e2
      exact ⟨b :: a :: xs, .swap _ _ _, by rw [List.map_cons, List.map_cons, e1, e3, e4]⟩
  | trans _ _ ih1 ih2 =>
    intro xs e
    obtain ⟨zs, p, rfl⟩ := ih2 xs e
    obtain ⟨ws, p2, rfl⟩ := ih1 zs rfl
    exact ⟨ws, p2.trans p, rfl⟩
theorem map_of {α : Type} {q : α → Prop} {f : α → PyData} : ∀ {zs : List PyData}, (∀ z ∈ zs, ∃ y, q y ∧ z = f y) → ∃ ys : List α, zs = ys.map f ∧ ∀ y ∈ ys, q y
  | [], _ => ⟨[], rfl, fun _ h => absurd h List.not_mem_nil⟩
  | z :: zs, h => by
    obtain ⟨y, hy, rfl⟩ := h z List.mem_cons_self
    obtain ⟨ys, rfl, hs⟩ := map_of fun w m => h w (List.mem_cons_of_mem _ m)
    exact ⟨y :: ys, rfl, fun w m => by
      rcases List.mem_cons.mp m with rfl | m
      · exact hy
      · exact hs w m⟩
theorem ris_sorted : ∀ {zs : List Str}, sortedS zs = true → zs.Nodup → risB (zs.map .str) = true
  | [], _, _ => rfl
  | [x], _, _ => rfl
  | x :: y :: r, h, nd => by
    have h : (!ltCps y.cps.toList x.cps.toList && risingS y r) = true := h
    rw [Bool.and_eq_true, Bool.not_eq_true', ltCps_eq, decide_eq_false_iff_not] at h
    obtain ⟨n1, n2⟩ := List.nodup_cons.mp nd
    show (ltS x y && risB ((y :: r).map .str)) = true
    rw [ris_sorted (zs := y :: r) h.2 n2, Bool.and_true]
    refine decide_eq_true (Std.lt_of_le_of_ne (List.not_lt.mp h.1) fun z => n1 ?_)
    have e : x = y := by
      cases x with | mk a => cases y with | mk b =>
      have z' : a.toList = b.toList := z
      rw [show a = b from Array.toList_inj.mp z']
    rw [e]
    exact List.mem_cons_self
theorem nt_of {zs L : List Str} (hs : sortedS zs = true) (nd : zs.Nodup) (hm : ∀ z ∈ zs, z ∈ L) (hL : ∀ x ∈ L, isName (.str x) = true) : isNT (.tuple (zs.map .str)) = true := by
  show ((zs.map PyData.str).all isName && risB (zs.map .str)) = true
  rw [ris_sorted hs nd, Bool.and_true]
  refine List.all_eq_true.mpr fun d hd => ?_
  obtain ⟨x, hx, rfl⟩ := List.mem_map.mp hd
  exact hL x (hm x hx)
theorem wAll {W : Nat} : ∀ {xs : List PyData}, (∀ x ∈ xs, x.weight ≤ W) → PyData.weightAll xs ≤ xs.length * (W + 1)
  | [], _ => by simp only [PyData.weightAll]; exact Nat.zero_le _
  | x :: xs, h => by
    have h1 := h x List.mem_cons_self
    have h2 := wAll (W := W) (xs := xs) fun y m => h y (List.mem_cons_of_mem _ m)
    simp only [PyData.weightAll, List.length_cons, Nat.add_mul]
    omega
def T7 : List Str := ["a", "b", "ab", "re ", "[t]", " ", "~a"]
def N5 : List Str := ["b", "c", "l", "x", "y"]
theorem N5_ok : (∀ x ∈ N5, isName (.str x) = true) ∧ N5.Nodup ∧ ∀ x ∈ N5, (PyData.str x).weight ≤ 1 := by decide +kernel
structure LfG (l : Lf) : Prop where
  ok : l.ok
  sg : isSing (.str l.w) l.pt = true
  wt : (Cnd.lf l).d.weight ≤ 16
structure CndG (n W : Nat) (c : Cnd) : Prop where
  ok : c.okn n
  cw : isCW n c.d = true
  wt : c.d.weight ≤ W
theorem CndG.up {n W V : Nat} {c : Cnd} (g : CndG n W c) (h : W ≤ V) : CndG n V c := ⟨g.ok, g.cw, Nat.le_trans g.wt h⟩
theorem cg_lf {l : Lf} (g : LfG l) (n : Nat) : CndG (n + 1) 16 (.lf l) := by
  obtain ⟨q1, q2⟩ := lf_w g.ok
  refine ⟨g.ok, ?_, g.wt⟩
  show (if eqW (.str l.w) "not" = true then isCW n l.pt else if inW (.str l.w) ["all", "any"] = true then (match l.pt with | .tuple xs => decide (xs.length ≤ 8) && xs.all (isCW n) | _ => false) else isSing (.str l.w) l.pt) = true
  rw [if_neg (by rw [q1]; decide), if_neg (by rw [q2]; decide)]
  exact g.sg
theorem cg_nt {n W : Nat} {c : Cnd} (g : CndG n W c) : CndG (n + 1) (W + 5) (.nt c) := by
  refine ⟨g.ok, ?_, ?_⟩
  · show (if eqW (.str (Str.ofString "not")) "not" = true then isCW n c.d else _) = true
    rw [if_pos (by decide +kernel)]
    exact g.cw
  · show (PyData.tuple [.str (Str.ofString "not"), c.d]).weight ≤ _
    simp only [PyData.weight, PyData.weightAll]
    have := g.wt
    have e : (Str.ofString "not").cps.size = 3 := by decide +kernel
    omega
theorem ds_map : ∀ cs : List Cnd, Cnd.ds cs = cs.map Cnd.d
  | [] => by simp only [Cnd.ds, List.map_nil]
  | c :: cs => by simp only [Cnd.ds, List.map_cons, ds_map cs]
theorem cg_gr {n W : Nat} {b : Bool} {cs : List Cnd} (h : ∀ c ∈ cs, CndG n W c) (hl : cs.length ≤ 3) : CndG (n + 1) (3 * (W + 1) + 10) (.gr b cs) := by
  obtain ⟨q1, q2, _, _⟩ := grW_f b
  refine ⟨⟨by omega, fun c m => (h c m).ok⟩, ?_, ?_⟩
  · show (if eqW (.str (grW b)) "not" = true then _ else if inW (.str (grW b)) ["all", "any"] = true then (decide ((Cnd.ds cs).length ≤ 8) && (Cnd.ds cs).all (isCW n)) else _) = true
    rw [if_neg (by rw [q1]; decide), if_pos q2, ds_map, List.length_map, decide_eq_true (by omega), Bool.true_and]
    refine List.all_eq_true.mpr fun d hd => ?_
    obtain ⟨c, hc, rfl⟩ := List.mem_map.mp hd
    exact (h c hc).cw
  · show (PyData.tuple [.str (grW b), .tuple (Cnd.ds cs)]).weight ≤ _
    have h1 := wAll (W := W) (xs := Cnd.ds cs) fun d hd => by
      rw [ds_map] at hd
      obtain ⟨c, hc, rfl⟩ := List.mem_map.mp hd
      exact (h c hc).wt
    rw [show (Cnd.ds cs).length = cs.length by rw [ds_map, List.length_map]] at h1
    have h2 : cs.length * (W + 1) ≤ 3 * (W + 1) := Nat.mul_le_mul_right _ hl
    have e : (grW b).cps.size = 3 := by cases b <;> decide +kernel
    simp only [PyData.weight, PyData.weightAll]
    omega
def W3 : List Str := ["contains", "begins", "ends", "contains"]
def I4 : List Str := ["", "a", "ab", "re a"]
def K3 : List Str := ["p", "q", "auto"]
def lfC (l : Lf) : Bool := isSing (.str l.w) l.pt && decide ((Cnd.lf l).d.weight ≤ 16)
theorem txt_g {w t : Str} (hw : w ∈ W3) (ht : t ∈ T7) : LfG (.txt w t) := by
  have k : (W3.all fun w => T7.all fun t => inW (.str w) ["contains", "begins", "ends", "is"] && decide (t.length ≤ 4000) && lfC (.txt w t)) = true := by decide +kernel
  have q := List.all_eq_true.mp (List.all_eq_true.mp k w hw) t ht
  simp only [lfC, Bool.and_eq_true, decide_eq_true_eq] at q
  exact ⟨⟨q.1.1, q.1.2⟩, q.2.1, q.2.2⟩
theorem is_g {t : Str} (ht : t ∈ I4) : LfG (.txt "is" t) := by
  have k : (I4.all fun t => inW (.str "is") ["contains", "begins", "ends", "is"] && decide (t.length ≤ 4000) && lfC (.txt "is" t)) = true := by decide +kernel
  have q := List.all_eq_true.mp k t ht
  simp only [lfC, Bool.and_eq_true, decide_eq_true_eq] at q
  exact ⟨⟨q.1.1, q.1.2⟩, q.2.1, q.2.2⟩
theorem mrk_g {t : Str} (ht : t ∈ K3) : LfG (.mrk t) := by
  have k : (K3.all fun t => lfC (.mrk t)) = true := by decide +kernel
  have q := List.all_eq_true.mp k t ht
  simp only [lfC, Bool.and_eq_true, decide_eq_true_eq] at q
  exact ⟨trivial, q.1, q.2⟩
theorem frm_g {zs : List Str} (hs : sortedS zs = true) (nd : zs.Nodup) (hm : ∀ z ∈ zs, z ∈ N5) (hl : zs.length ≤ 2) (h0 : 0 < zs.length) : LfG (.frm zs) := by
  refine ⟨trivial, ?_, ?_⟩
  · show (if eqW (.str (Str.ofString "from")) "from" = true then isNT (.tuple (zs.map .str)) && neU (.tuple (zs.map .str)) else _) = true
    rw [if_pos (by decide +kernel), nt_of hs nd hm N5_ok.1]
    cases zs with
    | nil => exact absurd h0 (by decide)
    | cons x r => rfl
  · show (PyData.tuple [.str (Str.ofString "from"), .tuple (zs.map .str)]).weight ≤ 16
    have h1 := wAll (W := 1) (xs := zs.map PyData.str) fun d hd => by
      obtain ⟨x, hx, rfl⟩ := List.mem_map.mp hd
      exact N5_ok.2.2 x (hm x hx)
    rw [List.length_map] at h1
    have e : (Str.ofString "from").cps.size = 4 := by decide +kernel
    simp only [PyData.weight, PyData.weightAll]
    omega
structure ActG (x : Act) : Prop where
  db : deedB x.d = true
  p : x.p.length ≤ 8
  w : x.w.length ≤ 8
  wt : x.d.weight ≤ 20
def acB (w p : Str) : Bool := deedB (.tuple [.str w, .str p]) && decide (p.length ≤ 8) && decide (w.length ≤ 8) && decide ((PyData.tuple [.str w, .str p]).weight ≤ 20)
theorem ac_of {w p : Str} (h : acB w p = true) : ActG (.dd w p) := by
  simp only [acB, Bool.and_eq_true, decide_eq_true_eq] at h
  exact ⟨h.1.1.1, h.1.1.2, h.1.2, h.2⟩
def F3 : List Str := ["f", "g", "inbox"]
def O5 : List Str := ["b", "c", "l", "e", "x"]
def P2 : List Str := ["p", "q"]
theorem ac_file : ∀ p ∈ F3, acB "file" p = true := by decide +kernel
theorem ac_fwd : ∀ p ∈ O5, acB "forward" p = true := by decide +kernel
theorem ac_tag : ∀ p ∈ T7, acB "tag" p = true := by decide +kernel
theorem ac_mark : ∀ p ∈ P2, acB "mark" p = true := by decide +kernel
theorem ac_reply : ∀ p ∈ T7, acB "reply" p = true := by decide +kernel
def E2 : List Str := ["drop", "stop"]
structure ActsG (as : List Act) : Prop where
  ab : actsB (.tuple (as.map Act.d)) = true
  len : as.length ≤ 4
  p : ∀ x ∈ as, x.p.length ≤ 8
  w : ∀ x ∈ as, x.w.length ≤ 8
  wt : PyData.weightAll (as.map Act.d) ≤ 84
theorem acts_g {as : List Act} (h : ∀ x ∈ as, ActG x) (hl : as.length ≤ 3) : ActsG as := by
  have hd : ∀ d ∈ as.map Act.d, deedB d = true := fun d m => by
    obtain ⟨x, hx, rfl⟩ := List.mem_map.mp m
    exact (h x hx).db
  refine ⟨?_, by omega, fun x m => (h x m).p, fun x m => (h x m).w, ?_⟩
  · show (decide ((as.map Act.d).length ≤ 6) && ((cutD (as.map Act.d) none (some (-1))).all deedB && (cutD (as.map Act.d) (some (-1)) none).all fun z => deedB z || endB z)) = true
    rw [List.length_map, decide_eq_true (by omega), Bool.true_and, Bool.and_eq_true]
    exact ⟨List.all_eq_true.mpr fun d m => hd d (cut_mem m), List.all_eq_true.mpr fun d m => by rw [hd d (cut_mem m)]; rfl⟩
  · have h1 := wAll (W := 20) (xs := as.map Act.d) fun d m => by
      obtain ⟨x, hx, rfl⟩ := List.mem_map.mp m
      exact (h x hx).wt
    rw [List.length_map] at h1
    omega
theorem E2_ok : ∀ w ∈ E2, endB (.tuple [.str w]) = true ∧ w.length ≤ 8 ∧ (PyData.tuple [.str w]).weight ≤ 20 ∧ w.length ≠ 0 ∧ (eqW (.str w) "file" = false ∧ eqW (.str w) "forward" = false ∧ eqW (.str w) "reply" = false ∧ eqW (.str w) "tag" = false ∧ eqW (.str w) "mark" = false) := by decide +kernel
theorem acts_ge {as : List Act} {w : Str} (h : ∀ x ∈ as, ActG x) (hl : as.length ≤ 3) (hw : w ∈ E2) : ActsG (as ++ [.en w]) := by
  obtain ⟨w1, w2, w3, _, _⟩ := E2_ok w hw
  have hd : ∀ d ∈ as.map Act.d, deedB d = true := fun d m => by
    obtain ⟨x, hx, rfl⟩ := List.mem_map.mp m
    exact (h x hx).db
  have e1 : cutD ((as ++ [Act.en w]).map Act.d) none (some (-1)) = as.map Act.d := by
    match as, hl with
    | [], _ => rfl
    | [a], _ => rfl
    | [a, b], _ => rfl
    | [a, b, c], _ => rfl
  have e2 : cutD ((as ++ [Act.en w]).map Act.d) (some (-1)) none = [.tuple [.str w]] := by
    match as, hl with
    | [], _ => rfl
    | [a], _ => rfl
    | [a, b], _ => rfl
    | [a, b, c], _ => rfl
  refine ⟨?_, by rw [List.length_append, List.length_singleton]; omega, fun x m => ?_, fun x m => ?_, ?_⟩
  · show (decide (((as ++ [Act.en w]).map Act.d).length ≤ 6) && ((cutD ((as ++ [Act.en w]).map Act.d) none (some (-1))).all deedB && (cutD ((as ++ [Act.en w]).map Act.d) (some (-1)) none).all fun z => deedB z || endB z)) = true
    rw [e1, e2, List.length_map, List.length_append, List.length_singleton, decide_eq_true (by omega), Bool.true_and, Bool.and_eq_true]
    refine ⟨List.all_eq_true.mpr hd, ?_⟩
    rw [List.all_cons, List.all_nil, w1, Bool.or_true]
    rfl
  · rcases List.mem_append.mp m with m | m
    · exact (h x m).p
    · rw [List.mem_singleton.mp m]; exact w2
  · rcases List.mem_append.mp m with m | m
    · exact (h x m).w
    · rw [List.mem_singleton.mp m]; exact w2
  · have h1 := wAll (W := 20) (xs := (as ++ [Act.en w]).map Act.d) fun d m => by
      obtain ⟨x, hx, rfl⟩ := List.mem_map.mp m
      rcases List.mem_append.mp hx with hx | hx
      · exact (h x hx).wt
      · rw [List.mem_singleton.mp hx]; exact w3
    rw [List.length_map, List.length_append, List.length_singleton] at h1
    omega
structure RlG (r : Rl) : Prop where
  c : CndG 4 300 r.c
  as : ActsG r.as
theorem RlG.ok {r : Rl} (g : RlG r) : r.ok := ⟨g.c.ok, Nat.le_trans g.as.len (by decide), fun x m => Nat.le_trans (g.as.p x m) (by decide)⟩
theorem RlG.rule {r : Rl} (g : RlG r) : ruleB r.d = true ∧ Wt r.d := by
  refine ⟨?_, ?_⟩
  · show (isCW 4 r.c.d && actsB (.tuple (r.as.map Act.d))) = true
    rw [g.c.cw, g.as.ab]
    rfl
  · show (PyData.tuple [r.c.d, .tuple (r.as.map Act.d)]).weight ≤ 4000
    have h1 := g.c.wt
    have h2 := g.as.wt
    simp only [PyData.weight, PyData.weightAll]
    omega
structure PlG (r : Rl) : Prop where
  c3 : CndG 3 95 r.c
  c4 : CndG 4 95 r.c
  as : ActsG r.as
  pl : PlainA r.as
theorem PlG.rl {r : Rl} (g : PlG r) : RlG r := ⟨g.c4.up (by decide), g.as⟩
def prt1 (r : Rl) (l : Lf) : Rl := ⟨.gr true [r.c, .lf l], r.as⟩
def prt2 (r : Rl) (l : Lf) : Rl := ⟨.gr true [r.c, .nt (.lf l)], r.as⟩
theorem prt1_g {r : Rl} {l : Lf} (g : PlG r) (hl : LfG l) : RlG (prt1 r l) := ⟨(cg_gr (W := 95) (cs := [r.c, .lf l]) (fun c m => by
  rcases List.mem_cons.mp m with rfl | m
  · exact g.c3.up (by decide)
  · rw [List.mem_singleton.mp m]; exact (cg_lf hl 2).up (by decide)) (Nat.le_succ 2)).up (by decide), g.as⟩
theorem prt2_g {r : Rl} {l : Lf} (g : PlG r) (hl : LfG l) : RlG (prt2 r l) := ⟨(cg_gr (W := 95) (cs := [r.c, .nt (.lf l)]) (fun c m => by
  rcases List.mem_cons.mp m with rfl | m
  · exact g.c3.up (by decide)
  · rw [List.mem_singleton.mp m]; exact (cg_nt (cg_lf hl 1)).up (by decide)) (Nat.le_succ 2)).up (by decide), g.as⟩
inductive Pg where
  | mb (rl : List Rl) | en (e : Ent)
def Pg.d : Pg → PyData
  | .mb rl => .tuple [.str "mailbox", .tuple (rl.map Rl.d)]
  | .en e => e.d
structure MbG (rl : List Rl) : Prop where
  len : rl.length ≤ 10
  g : ∀ r ∈ rl, RlG r
def Pg.ok : Pg → Prop
  | .mb rl => MbG rl
  | .en e => e.ok
abbrev st0 (u : Str) (ms : List Str) : MS := ⟨u, ms, [], [], ""⟩
noncomputable def Pg.fired : Pg → Str → Str → Str → List Str → List PyData
  | .mb rl, s, a, u, ms => (runR s a 0 rl [] (st0 u ms)).1.map fun (k : Nat) => .int (k : Nat)
  | .en _, _, _, _, _ => []
noncomputable def Pg.filed : Pg → Str → Str → Str → List Str → List PyData
  | .mb rl, s, a, u, ms => lastS s a (runR s a 0 rl [] (st0 u ms)).2
  | .en _, _, _, _, _ => []
noncomputable def Pg.cuts : Pg → Str → Str → Str → List Str → List PyData
  | .mb rl, s, a, u, ms => (runR s a 0 rl [] (st0 u ms)).2.sent
  | .en e, s, a, u, ms => e.at_ s a u ms
def fstD (d : PyData) : PyData := match d with | .tuple [p, _] => p | _ => .none
theorem runR_len {s a : Str} : ∀ (xs : List Rl) (k : Nat) (f : List Nat) (σ : MS), (∀ r ∈ xs, r.as.length ≤ 6) → (runR s a k xs f σ).2.filed.length ≤ σ.filed.length + 6 * xs.length ∧ (runR s a k xs f σ).2.sent.length ≤ σ.sent.length + 6 * xs.length
  | [], _, _, _, _ => ⟨Nat.le_add_right _ _, Nat.le_add_right _ _⟩
  | r :: xs, k, f, σ, h => by
    have h0 := h r List.mem_cons_self
    have h1 := runA_f s a k r.as 0 σ
    have ih := fun f σ => runR_len (s := s) (a := a) xs (k + 1) f σ fun q m => h q (List.mem_cons_of_mem _ m)
    rw [runR_cons, List.length_cons]
    by_cases q : r.c.hold s σ.u σ.ms = true
    · rw [if_pos q]
      by_cases z : (runA s a k 0 r.as σ).fin.length = 0
      · rw [if_pos z]
        have := ih (f ++ [k]) (runA s a k 0 r.as σ)
        omega
      · rw [if_neg z]
        show (runA s a k 0 r.as σ).filed.length ≤ _ ∧ (runA s a k 0 r.as σ).sent.length ≤ _
        omega
    · rw [if_neg q]
      have := ih f σ
      omega
theorem sh0 (u : Str) (ms : List Str) : ShS (st0 u ms) := ⟨fun _ m => absurd m List.not_mem_nil, fun _ m => absurd m List.not_mem_nil⟩
theorem filed_sh {e : Pg} {s a u : Str} {ms : List Str} : ∀ d ∈ e.filed s a u ms, ∃ (p : Str) (m : PyData), d = .tuple [.str p, m] := by
  cases e with
  | mb rl => exact lastS_sh (runR_sh rl 0 [] (sh0 u ms))
  | en e => exact fun d m => absurd m List.not_mem_nil
theorem out_m {e : Ent} {s a u : Str} {ms : List Str} {d : PyData} (h : d ∈ e.at_ s a u ms) : ∃ (c : PyData) (s a u : Str) (ms : List Str), d = .tuple [c, msgP s a u ms] := by
  cases e with
  | lst mem tag mk cl =>
    have h : d ∈ atL mem tag mk cl s a u ms := h
    unfold atL at h
    split at h
    · obtain ⟨x, _, rfl⟩ := List.mem_map.mp h
      exact ⟨_, _, _, _, _, rfl⟩
    · exact absurd h List.not_mem_nil
  | ali t => exact ⟨_, _, _, _, _, List.mem_singleton.mp h⟩
theorem cuts_sh {e : Pg} {s a u : Str} {ms : List Str} : ∀ d ∈ e.cuts s a u ms, ∃ (c : PyData) (s a u : Str) (ms : List Str), d = .tuple [c, msgP s a u ms] := by
  cases e with
  | mb rl => exact (runR_sh rl 0 [] (sh0 u ms)).st
  | en e => exact fun d m => out_m m
theorem pg_len {e : Pg} {s a u : Str} {ms : List Str} (h : e.ok) : (e.filed s a u ms).length ≤ 61 ∧ (e.cuts s a u ms).length ≤ 60 := by
  cases e with
  | mb rl =>
    have h : MbG rl := h
    have hl := h.len
    have q := runR_len (s := s) (a := a) rl 0 [] (st0 u ms) fun r m => (h.g r m).ok.len
    have q1 : (runR s a 0 rl [] (st0 u ms)).2.filed.length ≤ 0 + 6 * rl.length := q.1
    have q2 : (runR s a 0 rl [] (st0 u ms)).2.sent.length ≤ 0 + 6 * rl.length := q.2
    refine ⟨?_, show (runR s a 0 rl [] (st0 u ms)).2.sent.length ≤ 60 by omega⟩
    show (lastS s a (runR s a 0 rl [] (st0 u ms)).2).length ≤ 61
    unfold lastS
    split
    · rw [List.length_append, List.length_singleton]; omega
    · omega
  | en e => exact ⟨Nat.zero_le _, Nat.le_trans (at_len h s a u ms) (by decide)⟩
def gShuf29 : FL := fun ds R => ∃ xs : List PyData, ds = [.well, .p (.list xs)] ∧ xs.length ≤ 100 ∧ ∀ ys : List PyData, ys.Perm xs → R (.p (.list ys))
def gNeedR : FL := fun ds R => ∃ rl : List Rl, ds = [.p (.list (rl.map Rl.d))] ∧ MbG rl ∧ R (.p (.tuple (rl.map Rl.d)))
def gHas (C : Addr) : FL := fun ds R => ∃ es n, ds = [.hs C es, .p (.str n)] ∧ isName (.str n) = true ∧ R (.p (.bool (getE es n).isSome))
def gNeed (C : Addr) : FL := fun ds R => ∃ es n so x, ds = [.hs C es, .p (.str n), .p (.str so)] ∧ isName (.str n) = true ∧ getE es n = some (.tuple [.str so, x]) ∧ R (.p x)
def gRulesOf (C : Addr) : FL := fun ds R => ∃ es n x, ds = [.hs C es, .p (.str n)] ∧ isName (.str n) = true ∧ getE es n = some (.tuple [.str "mailbox", x]) ∧ R (.p x)
def hMbx (C : Addr) : FH := fun o ds R => ∃ a d es n rl, o = .hs C a d es ∧ ds = [.raw (.ref a), .p (.str n), .p (.list (rl.map Rl.d))] ∧ isName (.str n) = true ∧ getE es n = none ∧ es.length < 20 ∧ MbG rl ∧ R .none (.hs C a d (putE es n (Pg.mb rl).d))
def gArrAtP (C : Addr) : FL := fun ds R => ∃ es s a u ms e, ds = [.hs C es, .p (msgP s a u ms)] ∧ getE es a = some (Pg.d e) ∧ e.ok ∧ u.length ≤ 100 ∧ ms.length ≤ 50 ∧ R (.p (.tuple [.list (e.fired s a u ms), .list (e.filed s a u ms), .list (e.cuts s a u ms)]))
def gArrsP (C : Addr) : FL := fun ds R => ∃ es s a u ms e, ds = [.hs C es, .p (msgP s a u ms)] ∧ getE es a = some (Pg.d e) ∧ R (.p (.bool true))
def gArrP (C : Addr) : FL := fun ds R => ∃ es s a u ms e, ds = [.hs C es, .p (msgP s a u ms)] ∧ isMsg (msgP s a u ms) = true ∧ Wt (msgP s a u ms) ∧ getE es a = some (Pg.d e) ∧ e.ok ∧ u.length ≤ 100 ∧ ms.length ≤ 50 ∧ R (.p (.tuple [.list ((e.filed s a u ms).map fstD), .list ((e.cuts s a u ms).map sndD)]))
def gFirP (C : Addr) : FL := fun ds R => ∃ es s a u ms rl, ds = [.hs C es, .p (msgP s a u ms)] ∧ isMsg (msgP s a u ms) = true ∧ Wt (msgP s a u ms) ∧ getE es a = some (Pg.mb rl).d ∧ MbG rl ∧ u.length ≤ 100 ∧ ms.length ≤ 50 ∧ R (.p (.tuple ((Pg.mb rl).fired s a u ms)))
theorem name_of {s a u : Str} {ms : List Str} (h : isMsg (msgP s a u ms) = true) : isName (.str a) = true := by
  have h : (isName (.str s) && isName (.str a) && isSubj (.str u) && isNT (.tuple (ms.map .str))) = true := h
  simp only [Bool.and_eq_true] at h
  exact h.1.1.2
def gTxt29 : FL := fun ds R => ds = [.well] ∧ ∀ t ∈ T7, R (.p (.str t))
def gLeaf29 : FL := fun ds R => ds = [.well] ∧ ∀ l, LfG l → R (.p (.tuple [.str l.w, l.pt]))
def gCond29 : FL := fun ds R => ds = [.well] ∧ ∀ c, CndG 4 300 c → R (.p c.d)
def gAct29 : FL := fun ds R => ds = [.well] ∧ ∀ x, ActG x → R (.p x.d)
def gRule29 : FL := fun ds R => ds = [.well] ∧ ∀ r, RlG r → R (.p r.d)
def gPlain29 : FL := fun ds R => ds = [.well] ∧ ∀ r, PlG r → R (.p r.d)
def gPart29 : FL := fun ds R => ∃ r : Rl, ds = [.well, .p r.d] ∧ ∀ l, LfG l → R (.p (.list [(prt1 r l).d, (prt2 r l).d])) ∧ R (.p (.list [(prt2 r l).d, (prt1 r l).d]))
structure MsgG (s a u : Str) (ms : List Str) : Prop where
  m : isMsg (msgP s a u ms) = true
  w : Wt (msgP s a u ms)
  ul : u.length ≤ 100
  ml : ms.length ≤ 4
def gMsg29 : FL := fun ds R => ∃ a : Str, ds = [.well, .p (.str a)] ∧ isName (.str a) = true ∧ ∀ s u ms, MsgG s a u ms → R (.p (msgP s a u ms))
theorem prt1_d (r : Rl) (l : Lf) : (prt1 r l).d = .tuple [.tuple [.str (Str.ofString "all"), .tuple [r.c.d, .tuple [.str l.w, l.pt]]], .tuple (r.as.map Act.d)] := by
  simp only [prt1, Rl.d, Cnd.d, Cnd.ds, grW, if_true]
theorem prt2_d (r : Rl) (l : Lf) : (prt2 r l).d = .tuple [.tuple [.str (Str.ofString "all"), .tuple [r.c.d, .tuple [.str (Str.ofString "not"), .tuple [.str l.w, l.pt]]]], .tuple (r.as.map Act.d)] := by
  simp only [prt2, Rl.d, Cnd.d, Cnd.ds, grW, if_true]
def partTail : TDS := dSeq (dSet 4 (dCall gLeaf29 (dCons (dVar 0) dNil)))
      (dSeq
        (dSet 5
          (dLst
            (dCons
              (dTup
                (dCons
                  (dTup
                    (dCons (dC (DV.p (PyData.str (Str.ofString "all"))))
                      (dCons (dTup (dCons (dVar 2) (dCons (dVar 4) dNil))) dNil)))
                  (dCons (dVar 3) dNil)))
              (dCons
                (dTup
                  (dCons
                    (dTup
                      (dCons (dC (DV.p (PyData.str (Str.ofString "all"))))
                        (dCons
                          (dTup
                            (dCons (dVar 2)
                              (dCons (dTup (dCons (dC (DV.p (PyData.str (Str.ofString "not")))) (dCons (dVar 4) dNil)))
                                dNil)))
                          dNil)))
                    (dCons (dVar 3) dNil)))
                dNil))))
        (dRet (dCall gShuf29 (dCons (dVar 0) (dCons (dVar 5) dNil)))))
def prtA (c t : PyData) (as : PyData) : PyData := .tuple [.tuple [.str (Str.ofString "all"), .tuple [c, t]], as]
theorem part_l {E : DE} {c as : PyData} {y1 y4 y5 : Sl} (h : ∀ l, LfG l → E.rt (.p (.list [prtA c (.tuple [.str l.w, l.pt]) as, prtA c (.tuple [.str (Str.ofString "not"), .tuple [.str l.w, l.pt]]) as])) ∧ E.rt (.p (.list [prtA c (.tuple [.str (Str.ofString "not"), .tuple [.str l.w, l.pt]]) as, prtA c (.tuple [.str l.w, l.pt]) as]))) : partTail E [.v .well, y1, .v (.p c), .v (.p as), y4, y5] := by
  unfold partTail
  refine ⟨rfl, fun l gl => ?_⟩
  refine ⟨(show 2 ≤ sizeLine by decide), (show 2 ≤ sizeLine by decide), (show 2 ≤ sizeLine by decide), (show 2 ≤ sizeLine by decide), (show 2 ≤ sizeLine by decide), (show 2 ≤ sizeLine by decide), (show 2 ≤ sizeLine by decide), (show 2 ≤ sizeLine by decide), rfl, _, rfl, (show 2 ≤ 100 by decide), fun ys hp => ?_⟩
  obtain ⟨h1, h2⟩ := h l gl
  rcases perm_two hp with rfl | rfl
  · exact h1
  · exact h2
def plTail : TDS := dSeq (dSet 4 (dCall gLeaf29 (dCons (dVar 0) dNil)))
            (dSeq
              (dSet 5
                (dCall gChoose
                  (dCons (dVar 0)
                    (dCons
                      (dLst
                        (dCons (dVar 4)
                          (dCons (dTup (dCons (dC (DV.p (PyData.str (Str.ofString "not")))) (dCons (dVar 4) dNil)))
                            (dCons
                              (dTup
                                (dCons (dC (DV.p (PyData.str (Str.ofString "any"))))
                                  (dCons (dTup (dCons (dVar 4) (dCons (dCall gLeaf29 (dCons (dVar 0) dNil)) dNil)))
                                    dNil)))
                              dNil))))
                      dNil))))
              (dFrz 1 (dRet (dTup (dCons (dVar 5) (dCons (dCall fTuple (dCons (dVar 1) dNil)) dNil))))))
theorem pl_tail {E : DE} {bs : List Act} {y2 y3 y4 y5 : Sl} (ga : ActsG bs) (pl : PlainA bs) (h : ∀ r, PlG r → E.rt (.p r.d)) : plTail E [.v .well, .own (bs.map Act.d), y2, y3, y4, y5] := by
  unfold plTail
  simp only [dSeq, dNext, dBreak, dCont, dDrop, dRet, dRetN, dIfS, dSet, dB, dNotT, dAndT, dOrT, dNot, dAnd, dOr, dIf, dChain, dVar, dC, dOp, dUn, dNil, dCons, dCall, dTup, dLst, pyAll, dSl, dNo, dPart, dAsg, dPar, dDig, dMix, dPutD, dPutM, dM1, dFor, dItL, dItU, dItS, dItR1, dItR2, dItSc, dItZip, dLc, dYes, gdName, wipeD, asP, asB, asI, asS, asL, asU, sliceD, fCmp, fAdd, startD, fI, true_and, and_true, List.getD_cons_zero, List.getD_cons_succ, List.set_cons_zero, List.set_cons_succ, List.map_cons, List.map_nil, List.length_cons, List.length_nil, Nat.zero_add, Nat.reduceAdd, Nat.reduceSub, List.replicate, List.cons_append, List.nil_append, if_true, if_false, reduceIte, Bool.false_eq_true, Bool.not_true, Bool.not_false]
  refine ⟨rfl, fun l gl => ⟨(show 2 ≤ sizeLine by decide), rfl, fun l2 gl2 => ⟨(show 2 ≤ sizeLine by decide), (show 2 ≤ sizeLine by decide), (show 3 ≤ sizeLine by decide), rfl, _, rfl, by show 0 < 3; decide, by show 3 < 1000000; decide, fun c hc => ⟨_, .inl rfl, (show 2 ≤ sizeLine by decide), ?_⟩⟩⟩⟩
  rcases List.mem_cons.mp hc with rfl | hc
  · exact h ⟨.lf l, bs⟩ ⟨(cg_lf gl 2).up (by decide), (cg_lf gl 3).up (by decide), ga, pl⟩
  rcases List.mem_cons.mp hc with rfl | hc
  · exact h ⟨.nt (.lf l), bs⟩ ⟨(cg_nt (cg_lf gl 1)).up (by decide), (cg_nt (cg_lf gl 2)).up (by decide), ga, pl⟩
  · rw [List.mem_singleton.mp hc]
    have g : ∀ n, CndG (n + 2) 95 (.gr false [.lf l, .lf l2]) := fun n => (cg_gr (n := n + 1) (W := 16) (cs := [.lf l, .lf l2]) (fun c m => by
      rcases List.mem_cons.mp m with rfl | m
      · exact cg_lf gl n
      · rw [List.mem_singleton.mp m]; exact cg_lf gl2 n) (by show 2 ≤ 3; decide)).up (by decide)
    exact h ⟨.gr false [.lf l, .lf l2], bs⟩ ⟨g 1, g 2, ga, pl⟩
def tmB (d : PyData) : Bool := match d with | .tuple (.str w :: _) => inW (.str w) ["tag", "mark"] | _ => false
theorem tm_plain {as : List Act} : PlainA (as.filter fun x => !tmB x.d) := .inl fun x m => by
  have q := (List.mem_filter.mp m).2
  have q2 : inW (.str x.w) ["tag", "mark"] = false := by
    cases x with
    | dd w p => exact (Bool.not_eq_true' _).mp q
    | en w => exact (Bool.not_eq_true' _).mp q
  have q3 : (eqW (.str x.w) "tag" || (eqW (.str x.w) "mark" || false)) = false := q2
  rw [Bool.or_false, Bool.or_eq_false_iff] at q3
  exact q3
def S8 : List Str := ["b", "c", "l", "e", "x", "y", "zoe", "a"]
def B8 : List Str := ["a", "b", "ab", "re ", "[t]", " ", "~", "q"]
def M4s : List Str := ["p", "q", "auto", "zz"]
theorem S8_ok : ∀ s ∈ S8, isName (.str s) = true ∧ (PyData.str s).weight ≤ 12 := by decide +kernel
theorem B8_ok : ∀ s ∈ B8, isSubj (.str s) = true ∧ s.length ≤ 3 := by decide +kernel
theorem M4s_ok : (∀ x ∈ M4s, isName (.str x) = true) ∧ M4s.Nodup ∧ ∀ x ∈ M4s, (PyData.str x).weight ≤ 4 := by decide +kernel
theorem subj_join : ∀ {ys : List Str}, (∀ y ∈ ys, y ∈ B8) → isSubj (.str (Str.join (Str.ofString "") ys)) = true ∧ (Str.join (Str.ofString "") ys).length ≤ 3 * ys.length
  | [], _ => ⟨rfl, Nat.le_refl 0⟩
  | [x], h => B8_ok x (h x List.mem_cons_self)
  | x :: y :: r, h => by
    obtain ⟨q1, q2⟩ := B8_ok x (h x List.mem_cons_self)
    obtain ⟨i1, i2⟩ := subj_join (ys := y :: r) fun z hz => h z (List.mem_cons_of_mem _ hz)
    show isSubj (.str (x ++ Str.ofString "" ++ Str.join (Str.ofString "") (y :: r))) = true ∧ (x ++ Str.ofString "" ++ Str.join (Str.ofString "") (y :: r)).length ≤ _
    have e0 : (Str.ofString "").length = 0 := by decide
    rw [subj_app, subj_app, q1, i1, len_app, len_app, e0, List.length_cons]
    exact ⟨by decide +kernel, by omega⟩
theorem pieces_sum : ∀ {ys : List Str}, (∀ y ∈ ys, y ∈ B8) → (ys.map (·.length)).sum ≤ 3 * ys.length
  | [], _ => Nat.le_refl 0
  | y :: ys, h => by
    have q := (B8_ok y (h y List.mem_cons_self)).2
    have i := pieces_sum (ys := ys) fun z hz => h z (List.mem_cons_of_mem _ hz)
    rw [List.map_cons, List.sum_cons, List.length_cons]
    omega
theorem two_int {x : PyData} (h : x ∈ [PyData.int 0, .int 0, .int 0, .int 1, .int 2]) : ∃ k : Nat, k ≤ 2 ∧ x = .int k := by
  rcases List.mem_cons.mp h with rfl | h
  · exact ⟨0, by decide, rfl⟩
  rcases List.mem_cons.mp h with rfl | h
  · exact ⟨0, by decide, rfl⟩
  rcases List.mem_cons.mp h with rfl | h
  · exact ⟨0, by decide, rfl⟩
  rcases List.mem_cons.mp h with rfl | h
  · exact ⟨1, by decide, rfl⟩
  · exact ⟨2, by decide, List.mem_singleton.mp h⟩
theorem msg_g {s a : Str} {ys zs ms : List Str} {k : Nat} (hs : s ∈ S8) (ha : isName (.str a) = true) (hy : ∀ y ∈ ys, y ∈ B8) (ly : ys.length ≤ 3) (pm : ms.Perm M4s) (pz : zs.Perm (ms.take k)) (hk : k ≤ 2) (sz : sortedS zs = true) : MsgG s a (Str.join (Str.ofString "") ys) zs := by
  obtain ⟨j1, j2⟩ := subj_join hy
  have hm : ∀ z ∈ zs, z ∈ M4s := fun z m => pm.subset (List.mem_of_mem_take (pz.subset m))
  have nd : zs.Nodup := pz.nodup_iff.mpr ((pm.nodup_iff.mpr M4s_ok.2.1).sublist (List.take_sublist _ _))
  have lz : zs.length ≤ 2 := by rw [pz.length_eq, List.length_take]; omega
  have w1 := wAll (W := 4) (xs := zs.map PyData.str) fun d hd => by
    obtain ⟨x, hx, rfl⟩ := List.mem_map.mp hd
    exact M4s_ok.2.2 x (hm x hx)
  rw [List.length_map] at w1
  have w2 := (S8_ok s hs).2
  have w3 := isName_str ha
  refine ⟨?_, ?_, by omega, by omega⟩
  · show (isName (.str s) && isName (.str a) && isSubj (.str (Str.join (Str.ofString "") ys)) && isNT (.tuple (zs.map .str))) = true
    rw [(S8_ok s hs).1, ha, j1, nt_of sz nd hm M4s_ok.1]
    rfl
  · show PyData.weight (msgP s a (Str.join (Str.ofString "") ys) zs) ≤ 4000
    simp only [PyData.weight, PyData.weightAll] at w1 w2 ⊢
    have w3 : a.cps.size ≤ 12 := w3
    have w4 : (Str.join (Str.ofString "") ys).cps.size ≤ 3 * ys.length := j2
    omega
theorem lc_ff {g : TDG} {tt : TB} {te : TD} {δ : Dn} {fin : List PyData → Prop} (q : PyData → Bool) : ∀ (ds acc : List PyData),
    (∀ d ∈ ds, ∀ (K1 : PyData → Prop) (K2 : Prop), (if q d = true then K1 d else K2) → g (.p d) δ fun δ2 => tt δ2 fun b => if b = true then te δ2 fun y => asP y K1 else K2) →
    fin (acc ++ ds.filter q) → lcL g tt te δ fin ds acc
  | [], acc, _, h => by rw [List.filter_nil, List.append_nil] at h; exact h
  | d :: ds, acc, hd, h => by
    refine hd d List.mem_cons_self _ _ ?_
    by_cases e : q d = true
    · rw [if_pos e]
      rw [List.filter_cons_of_pos e] at h
      exact ⟨rfl, lc_ff q ds (acc ++ [d]) (fun d' m => hd d' (List.mem_cons_of_mem _ m)) (by rw [List.append_assoc]; exact h)⟩
    · rw [if_neg e]
      rw [List.filter_cons_of_neg e] at h
      exact lc_ff q ds acc (fun d' m => hd d' (List.mem_cons_of_mem _ m)) h
def aheadD : TD := dLc (dItR1 (dCons (dCall gDraw (dCons (dVar 2) (dCons (dC (DV.p (PyData.int 3))) dNil))) dNil)) (gdName 5) dYes (dCall gRule29 (dCons (dVar 2) dNil)) [5]
theorem rules_d {x0 x1 x3 x4 x5 x6 x7 x8 x9 x10 x11 x12 x13 x14 x15 x16 x17 : Sl} {N : DV → Prop} (h : ∀ A : List Rl, A.length ≤ 2 → (∀ r ∈ A, RlG r) → N (.p (.list (A.map Rl.d)))) : aheadD [x0, x1, .v .well, x3, x4, x5, x6, x7, x8, x9, x10, x11, x12, x13, x14, x15, x16, x17] N := by
  refine ⟨3, rfl, by decide, by decide, fun k hk => ⟨_, rfl, by omega, by omega, by rw [rng_len]; exact Nat.le_trans (show ((k : Int)).toNat ≤ 3 by omega) (by decide), lc_rel (fun z => ∃ r, RlG r ∧ z = r.d) (fun z hz => by obtain ⟨r, _, rfl⟩ := hz; rfl) _ [] (fun d3 hd3 K1 hk1 => ?_) fun zs lz pz => ?_⟩⟩
  · exact ⟨rfl, fun r gr => hk1 _ ⟨r, gr, rfl⟩⟩
  · rw [rng_len] at lz
    obtain ⟨A, rfl, gA⟩ := map_of pz
    exact h A (by rw [List.length_map] at lz; omega) gA
def parD : TDS := dPar 6 7 (dCons (dCall gPlain29 (dCons (dVar 2) dNil)) (dCons aheadD dNil))
theorem par_d {E : DE} {x0 x1 x3 x4 x5 x6 x7 x8 x9 x10 x11 x12 x13 x14 x15 x16 x17 : Sl} (h : ∀ (r : Rl) (B : List Rl), PlG r → B.length ≤ 2 → (∀ q ∈ B, RlG q) → E.nx [x0, x1, .v .well, x3, x4, x5, .v (.p r.d), .v (.p (.list (B.map Rl.d))), x8, x9, x10, x11, x12, x13, x14, x15, x16, x17]) : parD E [x0, x1, .v .well, x3, x4, x5, x6, x7, x8, x9, x10, x11, x12, x13, x14, x15, x16, x17] := by
  refine ⟨rfl, fun r gr => rules_d fun B lb gb => ⟨_, _, rfl, h r B gr lb gb⟩⟩
def N4 : List Str := ["b", "c", "x", "y"]
theorem N4_ok : (∀ x ∈ N4, isName (.str x) = true ∧ (PyData.str x).weight ≤ 1) ∧ N4.Nodup := by decide +kernel
def fsD : TDS := dAsg (dSl (dCall gShuf29 (dCons (dVar 2) (dCons (dLst (dCons (dC (DV.p (PyData.str (Str.ofString "b")))) (dCons (dC (DV.p (PyData.str (Str.ofString "c")))) (dCons (dC (DV.p (PyData.str (Str.ofString "x")))) (dCons (dC (DV.p (PyData.str (Str.ofString "y")))) dNil))))) dNil))) dNo (dPart (dC (DV.p (PyData.int 2))))) (gdLst 2 (gdCons (gdName 8) (gdCons (gdName 9) gdNil)))
theorem fs_d {E : DE} {x0 x1 x3 x4 x5 x6 x7 x8 x9 x10 x11 x12 x13 x14 x15 x16 x17 : Sl} (h : ∀ f g : Str, f ≠ g → f ∈ N4 → g ∈ N4 → E.nx [x0, x1, .v .well, x3, x4, x5, x6, x7, .v (.p (.str f)), .v (.p (.str g)), x10, x11, x12, x13, x14, x15, x16, x17]) : fsD E [x0, x1, .v .well, x3, x4, x5, x6, x7, x8, x9, x10, x11, x12, x13, x14, x15, x16, x17] := by
  refine ⟨(show 4 ≤ sizeLine by decide), rfl, _, rfl, (show 4 ≤ 100 by decide), fun ys hp => ?_⟩
  obtain ⟨zs, pz, rfl⟩ := perm_map (f := PyData.str) hp N4 rfl
  have nd := pz.nodup_iff.mpr N4_ok.2
  match zs, pz.length_eq with
  | [a, b, c, d], _ =>
    have nab : a ≠ b := fun e => (List.nodup_cons.mp nd).1 (by rw [e]; exact List.mem_cons_self)
    exact ⟨rfl, rfl, _, _, rfl, _, _, rfl, rfl, h a b nab (pz.subset List.mem_cons_self) (pz.subset (List.mem_cons_of_mem _ List.mem_cons_self))⟩
def frD (f : Str) (as : List Act) : PyData := .tuple [.tuple [.str (Str.ofString "from"), .tuple [.str f]], .tuple (as.map Act.d)]
def pairD : TD := dLst (dCons (dTup (dCons (dTup (dCons (dC (DV.p (PyData.str (Str.ofString "from")))) (dCons (dTup (dCons (dVar 8) dNil)) dNil))) (dCons (dOp fIx (dCall gRule29 (dCons (dVar 2) dNil)) (dC (DV.p (PyData.int 1)))) dNil))) (dCons (dTup (dCons (dTup (dCons (dC (DV.p (PyData.str (Str.ofString "from")))) (dCons (dTup (dCons (dVar 9) dNil)) dNil))) (dCons (dOp fIx (dCall gRule29 (dCons (dVar 2) dNil)) (dC (DV.p (PyData.int 1)))) dNil))) dNil))
theorem pair_d {x0 x1 x3 x4 x5 x6 x7 x10 x11 x12 x13 x14 x15 x16 x17 : Sl} {f g : Str} {N : DV → Prop} (h : ∀ as bs : List Act, ActsG as → ActsG bs → N (.p (.list [frD f as, frD g bs]))) : pairD [x0, x1, .v .well, x3, x4, x5, x6, x7, .v (.p (.str f)), .v (.p (.str g)), x10, x11, x12, x13, x14, x15, x16, x17] N := by
  refine ⟨(show 1 ≤ sizeLine by decide), (show 2 ≤ sizeLine by decide), rfl, fun r gr => ?_⟩
  refine ⟨_, rfl, (show 2 ≤ sizeLine by decide), (show 1 ≤ sizeLine by decide), (show 2 ≤ sizeLine by decide), rfl, fun r2 gr2 => ?_⟩
  exact ⟨_, rfl, (show 2 ≤ sizeLine by decide), (show 2 ≤ sizeLine by decide), rfl, h r.as r2.as gr.as gr2.as⟩
def neverD : TD := dTup (dCons (dTup (dCons (dC (DV.p (PyData.str (Str.ofString "all")))) (dCons (dTup (dCons (dTup (dCons (dC (DV.p (PyData.str (Str.ofString "is")))) (dCons (dC (DV.p (PyData.str (Str.ofString "ab")))) dNil))) (dCons (dTup (dCons (dC (DV.p (PyData.str (Str.ofString "begins")))) (dCons (dC (DV.p (PyData.str (Str.ofString "b")))) dNil))) dNil))) dNil))) (dCons (dTup (dCons (dTup (dCons (dC (DV.p (PyData.str (Str.ofString "drop")))) dNil)) dNil)) dNil))
def nvD : PyData := .tuple [.tuple [.str (Str.ofString "all"), .tuple [.tuple [.str (Str.ofString "is"), .str (Str.ofString "ab")], .tuple [.str (Str.ofString "begins"), .str (Str.ofString "b")]]], .tuple [.tuple [.str (Str.ofString "drop")]]]
theorem never_d {δ : Dn} {N : DV → Prop} (h : N (.p nvD)) : neverD δ N :=
  ⟨(show 2 ≤ sizeLine by decide), (show 2 ≤ sizeLine by decide), (show 2 ≤ sizeLine by decide), (show 2 ≤ sizeLine by decide), (show 1 ≤ sizeLine by decide), (show 1 ≤ sizeLine by decide), (show 2 ≤ sizeLine by decide), h⟩
def nvR : Rl := ⟨.gr true [.lf (.txt "is" "ab"), .lf (.txt "begins" "b")], [.en "drop"]⟩
theorem nv_d : nvR.d = nvD := by
  simp only [nvR, Rl.d, Cnd.d, Cnd.ds, grW, if_true, Lf.w, Lf.pt, List.map_cons, List.map_nil, Act.d]
  rfl
theorem fr_d (f : Str) (as : List Act) : (⟨.lf (.frm [f]), as⟩ : Rl).d = frD f as := by
  simp only [Rl.d, Cnd.d, Lf.w, Lf.pt, List.map_cons, List.map_nil]
  rfl
theorem nv_g : RlG nvR := by
  have g1 : LfG (.txt "is" "ab") := is_g (by decide +kernel)
  have g2 : LfG (.txt "begins" "b") := txt_g (by decide +kernel) (by decide +kernel)
  exact ⟨(cg_gr (n := 3) (W := 16) (cs := [.lf (.txt "is" "ab"), .lf (.txt "begins" "b")]) (fun c m => by
    rcases List.mem_cons.mp m with rfl | m
    · exact cg_lf g1 2
    · rw [List.mem_singleton.mp m]; exact cg_lf g2 2) (by show 2 ≤ 3; decide)).up (by decide), acts_ge (as := []) (fun x m => absurd m List.not_mem_nil) (by decide) (by decide +kernel)⟩
theorem fr_g {f : Str} {as : List Act} (hf : f ∈ N4) (ga : ActsG as) : RlG ⟨.lf (.frm [f]), as⟩ := by
  obtain ⟨n1, n2⟩ := N4_ok.1 f hf
  have g : LfG (.frm [f]) := ⟨trivial, by
    show (if eqW (.str (Str.ofString "from")) "from" = true then isNT (.tuple ([f].map .str)) && neU (.tuple ([f].map .str)) else _) = true
    rw [if_pos (by decide +kernel)]
    show ((isName (.str f) && true) && true) && true = true
    rw [n1]
    rfl, by
    show (PyData.tuple [.str (Str.ofString "from"), .tuple [.str f]]).weight ≤ 16
    have e : (Str.ofString "from").cps.size = 4 := by decide +kernel
    simp only [PyData.weight, PyData.weightAll] at n2 ⊢
    omega⟩
  exact ⟨(cg_lf g 3).up (by decide), ga⟩
theorem nv_no (s u : Str) (ms : List Str) : nvR.c.hold s u ms = false := by
  show (if pasB "is" "ab" u = true then (if pasB "begins" "b" u = true then true else false) else false) = false
  by_cases q : pasB "is" "ab" u = true
  · have e : u = "ab" := by
      have k : pasB "is" "ab" u = decide (u = "ab") := by
        unfold pasB
        rw [if_neg (by decide +kernel), if_neg (by decide +kernel), if_neg (by decide +kernel)]
      rw [k] at q
      exact of_decide_eq_true q
    rw [if_pos q, e]
    decide +kernel
  · rw [if_neg q]
theorem fr_no {f g s : Str} (h : f ≠ g) {as bs : List Act} : (∀ u ms, (⟨.lf (.frm [f]), as⟩ : Rl).c.hold s u ms = false) ∨ (∀ u ms, (⟨.lf (.frm [g]), bs⟩ : Rl).c.hold s u ms = false) := by
  by_cases q : s = f
  · refine .inr fun u ms => ?_
    show (decide (s = g) || false) = false
    rw [decide_eq_false (fun e => h (q.symm.trans e))]
    rfl
  · refine .inl fun u ms => ?_
    show (decide (s = f) || false) = false
    rw [decide_eq_false q]
    rfl
theorem prt_hold (r : Rl) (l : Lf) (s u : Str) (ms : List Str) : (r.c.hold s u ms = true ∧ (((prt1 r l).c.hold s u ms = true ∧ (prt2 r l).c.hold s u ms = false) ∨ ((prt1 r l).c.hold s u ms = false ∧ (prt2 r l).c.hold s u ms = true))) ∨ (r.c.hold s u ms = false ∧ (prt1 r l).c.hold s u ms = false ∧ (prt2 r l).c.hold s u ms = false) := by
  have e1 : (prt1 r l).c.hold s u ms = if r.c.hold s u ms = true then (if lfB l s u ms = true then true else false) else false := rfl
  have e2 : (prt2 r l).c.hold s u ms = if r.c.hold s u ms = true then (if (!lfB l s u ms) = true then true else false) else false := rfl
  rw [e1, e2]
  cases r.c.hold s u ms <;> cases lfB l s u ms <;> simp

def addD (C : Addr) : TDS := dMeth C 12 (hMbx C) (fun ds x => ds) (dCons (dC (DV.p (PyData.str (Str.ofString "b")))) (dCons (dOp fAdd (dOp fAdd (dOp fAdd (dVar 4) (dLst (dCons (dVar 6) dNil))) (dVar 7)) (dVar 10)) dNil)) dNil
def addD2 (C : Addr) : TDS := dMeth C 13 (hMbx C) (fun ds x => ds) (dCons (dC (DV.p (PyData.str (Str.ofString "b")))) (dCons (dOp fAdd (dOp fAdd (dOp fAdd (dOp fAdd (dVar 4) (dCall gPart29 (dCons (dVar 2) (dCons (dVar 6) dNil)))) (dLst (dCons (dVar 11) dNil))) (dVar 7)) (dRev (dVar 10) (dPart (dUn (fun d R => match d with | DV.p (PyData.int i) => R (DV.p (PyData.int (-i))) | x => False) (dC (DV.p (PyData.int 1))))))) dNil)) dNil
theorem b_name : isName (.str (Str.ofString "b")) = true := by decide +kernel
theorem len_m {xs : List PyData} {n : Nat} (h : xs.length ≤ n) (hn : n ≤ sizeLine := by decide) : xs.length ≤ sizeLine := Nat.le_trans h hn
theorem add_l {E : DE} {C a d : Addr} {o2 : Sl} {A B : List Rl} {r p1 p2 : Rl} {x0 x1 x3 x5 x8 x9 x11 x14 x15 x16 x17 : Sl} (lA : A.length ≤ 2) (lB : B.length ≤ 2) (g : ∀ q ∈ A ++ ([r] ++ (B ++ [p1, p2])), RlG q)
    (h : E.nx [x0, x1, .v .well, x3, .v (.p (.list (A.map Rl.d))), x5, .v (.p r.d), .v (.p (.list (B.map Rl.d))), x8, x9, .v (.p (.list [p1.d, p2.d])), x11, .od (.hs C a d (putE [] (Str.ofString "b") (Pg.mb (A ++ ([r] ++ (B ++ [p1, p2])))).d)), o2, x14, x15, x16, x17]) : addD C E [x0, x1, .v .well, x3, .v (.p (.list (A.map Rl.d))), x5, .v (.p r.d), .v (.p (.list (B.map Rl.d))), x8, x9, .v (.p (.list [p1.d, p2.d])), x11, .od (.hs C a d []), o2, x14, x15, x16, x17] := by
  have e : A.map Rl.d ++ [r.d] ++ B.map Rl.d ++ [p1.d, p2.d] = (A ++ ([r] ++ (B ++ [p1, p2]))).map Rl.d := by
    simp only [List.map_append, List.map_cons, List.map_nil, List.append_assoc, List.cons_append, List.nil_append]
  have l1 : (A.map Rl.d).length ≤ 2 := by rw [List.length_map]; exact lA
  have l2 : (B.map Rl.d).length ≤ 2 := by rw [List.length_map]; exact lB
  refine ⟨rfl, (show 1 ≤ sizeLine by decide), rfl, ?_, rfl, ?_, rfl, ?_, rfl, a, d, [], Str.ofString "b", A ++ ([r] ++ (B ++ [p1, p2])), rfl, congrArg (fun X => [DV.raw (.ref a), DV.p (.str (Str.ofString "b")), DV.p (.list X)]) e, b_name, rfl, by show 0 < 20; decide, ⟨?_, g⟩, h⟩
  · exact Nat.le_trans (Nat.add_le_add_right l1 1) (by decide)
  · refine Nat.le_trans (Nat.add_le_add ?_ l2) (show 3 + 2 ≤ sizeLine by decide)
    rw [List.length_append]
    exact Nat.add_le_add_right l1 1
  · refine Nat.le_trans (Nat.add_le_add_right ?_ 2) (show 5 + 2 ≤ sizeLine by decide)
    rw [List.length_append, List.length_append]
    exact Nat.add_le_add (Nat.add_le_add_right l1 1) l2
  · simp only [List.length_append, List.length_cons, List.length_nil]
    omega
theorem add2_l {E : DE} {C a d : Addr} {o1 : Sl} {A B : List Rl} {r p1 p2 : Rl} {x0 x1 x3 x5 x8 x9 x14 x15 x16 x17 : Sl} (lA : A.length ≤ 2) (lB : B.length ≤ 2) (gr : PlG r) (gA : ∀ q ∈ A, RlG q) (gB : ∀ q ∈ B, RlG q) (g1 : RlG p1) (g2 : RlG p2)
    (h : ∀ (l : Lf) (q1 q2 : Rl), LfG l → (q1 = prt1 r l ∧ q2 = prt2 r l ∨ q1 = prt2 r l ∧ q2 = prt1 r l) → MbG (A ++ ([q1, q2] ++ ([nvR] ++ (B ++ [p2, p1])))) → E.nx [x0, x1, .v .well, x3, .v (.p (.list (A.map Rl.d))), x5, .v (.p r.d), .v (.p (.list (B.map Rl.d))), x8, x9, .v (.p (.list [p1.d, p2.d])), .v (.p nvD), o1, .od (.hs C a d (putE [] (Str.ofString "b") (Pg.mb (A ++ ([q1, q2] ++ ([nvR] ++ (B ++ [p2, p1]))))).d)), x14, x15, x16, x17]) : addD2 C E [x0, x1, .v .well, x3, .v (.p (.list (A.map Rl.d))), x5, .v (.p r.d), .v (.p (.list (B.map Rl.d))), x8, x9, .v (.p (.list [p1.d, p2.d])), .v (.p nvD), o1, .od (.hs C a d []), x14, x15, x16, x17] := by
  have l1 : (A.map Rl.d).length ≤ 2 := by rw [List.length_map]; exact lA
  have l2 : (B.map Rl.d).length ≤ 2 := by rw [List.length_map]; exact lB
  have key : ∀ (l : Lf) (q1 q2 : Rl), LfG l → (q1 = prt1 r l ∧ q2 = prt2 r l ∨ q1 = prt2 r l ∧ q2 = prt1 r l) →
      fAdd (.p (.list (A.map Rl.d))) (.p (.list [q1.d, q2.d])) fun d1 => (dOp fAdd (dOp fAdd (fun _ R => R d1) (dLst (dCons (dVar 11) dNil))) (dVar 7)) [x0, x1, .v .well, x3, .v (.p (.list (A.map Rl.d))), x5, .v (.p r.d), .v (.p (.list (B.map Rl.d))), x8, x9, .v (.p (.list [p1.d, p2.d])), .v (.p nvD), o1, .v (.raw (.ref a)), x14, x15, x16, x17] fun d2 => fAdd d2 (.p (.list [p2.d, p1.d])) fun d3 => hMbx C (.hs C a d []) [.raw (.ref a), .p (.str (Str.ofString "b")), d3] fun z o' => nDrop E z (([x0, x1, .v .well, x3, .v (.p (.list (A.map Rl.d))), x5, .v (.p r.d), .v (.p (.list (B.map Rl.d))), x8, x9, .v (.p (.list [p1.d, p2.d])), .v (.p nvD), o1, .v (.raw (.ref a)), x14, x15, x16, x17] : Dn).set 13 (.od o')) := fun l q1 q2 gl hq => by
    have e : A.map Rl.d ++ [q1.d, q2.d] ++ [nvD] ++ B.map Rl.d ++ [p2.d, p1.d] = (A ++ ([q1, q2] ++ ([nvR] ++ (B ++ [p2, p1])))).map Rl.d := by
      simp only [List.map_append, List.map_cons, List.map_nil, List.append_assoc, List.cons_append, List.nil_append, nv_d]
    have gm : MbG (A ++ ([q1, q2] ++ ([nvR] ++ (B ++ [p2, p1])))) := by
      refine ⟨by simp only [List.length_append, List.length_cons, List.length_nil]; omega, fun q m => ?_⟩
      rcases List.mem_append.mp m with m | m
      · exact gA q m
      rcases List.mem_append.mp m with m | m
      · rcases hq with ⟨e1, e2⟩ | ⟨e1, e2⟩
        · rcases List.mem_cons.mp m with m | m
          · rw [m, e1]; exact prt1_g gr gl
          · rw [List.mem_singleton.mp m, e2]; exact prt2_g gr gl
        · rcases List.mem_cons.mp m with m | m
          · rw [m, e1]; exact prt2_g gr gl
          · rw [List.mem_singleton.mp m, e2]; exact prt1_g gr gl
      rcases List.mem_append.mp m with m | m
      · rw [List.mem_singleton.mp m]; exact nv_g
      rcases List.mem_append.mp m with m | m
      · exact gB q m
      · rcases List.mem_cons.mp m with m | m
        · rw [m]; exact g2
        · rw [List.mem_singleton.mp m]; exact g1
    refine ⟨?_, rfl, (show 1 ≤ sizeLine by decide), rfl, ?_, rfl, ?_, rfl, ?_, rfl, a, d, [], Str.ofString "b", _, rfl, congrArg (fun X => [DV.raw (.ref a), DV.p (.str (Str.ofString "b")), DV.p (.list X)]) e, b_name, rfl, by show 0 < 20; decide, gm, h l q1 q2 gl hq gm⟩
    · exact Nat.le_trans (Nat.add_le_add_right l1 2) (by decide)
    · refine Nat.le_trans (Nat.add_le_add_right ?_ 1) (show 4 + 1 ≤ sizeLine by decide)
      rw [List.length_append]
      exact Nat.add_le_add_right l1 2
    · refine Nat.le_trans (Nat.add_le_add ?_ l2) (show 5 + 2 ≤ sizeLine by decide)
      rw [List.length_append, List.length_append]
      exact Nat.add_le_add_right (Nat.add_le_add_right l1 2) 1
    · refine Nat.le_trans (Nat.add_le_add_right ?_ 2) (show 7 + 2 ≤ sizeLine by decide)
      rw [List.length_append, List.length_append, List.length_append]
      exact Nat.add_le_add (Nat.add_le_add_right (Nat.add_le_add_right l1 2) 1) l2
  refine ⟨rfl, r, rfl, fun l gl => ⟨?_, ?_⟩⟩
  · have q := key l _ _ gl (.inl ⟨rfl, rfl⟩)
    obtain ⟨q1, q2, q3, q4, q5, q6, q7, q8, q9⟩ := q
    exact ⟨q1, q2, q3, q4, q5, q6, q7, q8, rfl, rfl, q9⟩
  · have q := key l _ _ gl (.inr ⟨rfl, rfl⟩)
    obtain ⟨q1, q2, q3, q4, q5, q6, q7, q8, q9⟩ := q
    exact ⟨q1, q2, q3, q4, q5, q6, q7, q8, rfl, rfl, q9⟩

structure Alike (n : Nat) (X Y : List Rl) : Prop where
  sim : ∀ (s u : Str) (ms : List Str), Sim (runR s (Str.ofString "b") 0 X [] (st0 u ms)) (runR s (Str.ofString "b") 0 Y [] (st0 u ms))
  ear : ∀ (s u : Str) (ms : List Str), (runR s (Str.ofString "b") 0 X [] (st0 u ms)).1.filter (fun j => decide (j < n)) = (runR s (Str.ofString "b") 0 Y [] (st0 u ms)).1.filter (fun j => decide (j < n))
theorem alike_of {A B : List Rl} {r q1 q2 p1 p2 : Rl} {l : Lf} {f g : Str} {as bs : List Act} (gr : PlG r) (hq : q1 = prt1 r l ∧ q2 = prt2 r l ∨ q1 = prt2 r l ∧ q2 = prt1 r l) (hf : f ≠ g) (h1 : p1 = ⟨.lf (.frm [f]), as⟩) (h2 : p2 = ⟨.lf (.frm [g]), bs⟩) :
    Alike A.length (A ++ ([r] ++ (B ++ [p1, p2]))) (A ++ ([q1, q2] ++ ([nvR] ++ (B ++ [p2, p1])))) := by
  refine ⟨fun s u ms => ?_, fun s u ms => ?_⟩
  · have ea : q1.as = r.as ∧ q2.as = r.as := by rcases hq with ⟨rfl, rfl⟩ | ⟨rfl, rfl⟩ <;> exact ⟨rfl, rfl⟩
    refine k29_sim rfl gr.pl ea.1 ea.2 (fun u ms => ?_) (nv_no s) (by rw [h1, h2]; exact fr_no hf)
    rcases hq with ⟨rfl, rfl⟩ | ⟨rfl, rfl⟩
    · exact prt_hold r l s u ms
    · rcases prt_hold r l s u ms with ⟨c0, ⟨c1, c2⟩ | ⟨c1, c2⟩⟩ | ⟨c0, c1, c2⟩
      · exact .inl ⟨c0, .inr ⟨c2, c1⟩⟩
      · exact .inl ⟨c0, .inl ⟨c2, c1⟩⟩
      · exact .inr ⟨c0, c2, c1⟩
  · rw [early_eq rfl, early_eq rfl]
theorem arr_same {n : Nat} {X Y : List Rl} (h : Alike n X Y) (s u : Str) (ms : List Str) : ((Pg.mb X).filed s (Str.ofString "b") u ms).map fstD = ((Pg.mb Y).filed s (Str.ofString "b") u ms).map fstD ∧ ((Pg.mb X).cuts s (Str.ofString "b") u ms).map sndD = ((Pg.mb Y).cuts s (Str.ofString "b") u ms).map sndD := by
  have q := (h.sim s u ms).2
  refine ⟨?_, q.st⟩
  show (lastS s (Str.ofString "b") _).map fstD = (lastS s (Str.ofString "b") _).map fstD
  rw [lastS_eq q]
def fstsP (xs : List PyData) : Prop := ∀ d ∈ xs, ∃ p : Str, d = .str p
theorem ne_arr {xs ys : List PyData} {R : DV → Prop} (h1 : ∀ d ∈ xs, ∃ (p : Str) (m : PyData), d = .tuple [.str p, m]) (h2 : ∀ d ∈ ys, ∃ (c : PyData) (s a u : Str) (ms : List Str), d = .tuple [c, msgP s a u ms]) (h : R (.p (.bool false))) :
    fEqQ true (.p (.tuple [.list (xs.map fstD), .list (ys.map sndD)])) (.p (.tuple [.list (xs.map fstD), .list (ys.map sndD)])) R := by
  have a1 : ∀ d ∈ xs.map fstD, d.plain = true ∧ d.depth ≤ 2 := fun d hd => by
    obtain ⟨y, hy, rfl⟩ := List.mem_map.mp hd
    obtain ⟨p, m, rfl⟩ := h1 y hy
    refine ⟨rfl, ?_⟩
    show (PyData.str p).depth ≤ 2
    simp only [PyData.depth]
    decide
  have a2 : ∀ d ∈ ys.map sndD, d.plain = true ∧ d.depth ≤ 2 := fun d hd => by
    obtain ⟨y, hy, rfl⟩ := List.mem_map.mp hd
    obtain ⟨c, s, a, u, ms, rfl⟩ := h2 y hy
    exact ⟨pl_msg, dp_msg⟩
  have p1 : (PyData.tuple [.list (xs.map fstD), .list (ys.map sndD)]).plain = true := by
    simp only [PyData.plain, PyData.plainAll, pl_all, Bool.and_true, Bool.and_eq_true]
    exact ⟨List.all_eq_true.mpr fun d hd => (a1 d hd).1, List.all_eq_true.mpr fun d hd => (a2 d hd).1⟩
  have p2 : (PyData.tuple [.list (xs.map fstD), .list (ys.map sndD)]).depth ≤ 60 := by
    simp only [PyData.depth, PyData.depthAll]
    have q1 := dp_all (k := 2) (xs := xs.map fstD) |>.mpr fun d hd => (a1 d hd).2
    have q2 := dp_all (k := 2) (xs := ys.map sndD) |>.mpr fun d hd => (a2 d hd).2
    omega
  refine ⟨p1, p1, by omega, ?_⟩
  show R (.p (.bool (!PyData.eqv _ _)))
  rw [eqv_rf _ p1]
  exact h

theorem runR_fl {s a : Str} : ∀ (xs : List Rl) (k : Nat) (f : List Nat) (σ : MS), (runR s a k xs f σ).1.length ≤ f.length + xs.length
  | [], _, _, _ => Nat.le_refl _
  | r :: xs, k, f, σ => by
    rw [runR_cons, List.length_cons]
    have ih := fun f σ => runR_fl (s := s) (a := a) xs (k + 1) f σ
    by_cases q : r.c.hold s σ.u σ.ms = true
    · rw [if_pos q]
      by_cases z : (runA s a k 0 r.as σ).fin.length = 0
      · rw [if_pos z]
        have := ih (f ++ [k]) (runA s a k 0 r.as σ)
        rw [List.length_append, List.length_singleton] at this
        omega
      · rw [if_neg z]
        show (f ++ [k]).length ≤ _
        rw [List.length_append, List.length_singleton]
        omega
    · rw [if_neg q]
      have := ih f σ
      omega
theorem asBf {A B : Prop} (h : B) : asB (.p (.bool false)) (fun b => if b = true then A else B) := by
  show if false = true then A else B
  rw [if_neg Bool.false_ne_true]
  exact h
theorem cmp2_l {i : Nat} {v : DV} {t : TD} {δ : Dn} {K : Bool → Prop} (hv : δ.getD i .un = .v v) (h : t δ fun e => fEqQ true v e fun d => asB d K) : dB (dOp (fEqQ true) (dVar i) t) δ K := by
  unfold dB dOp dVar
  rw [hv]
  exact h
def earQ (n : Nat) (d : PyData) : Bool := match d with | .int i => decide (i < (n : Int)) | _ => false
theorem ear_map {n : Nat} {fs : List Nat} : (fs.map fun (k : Nat) => PyData.int (k : Nat)).filter (earQ n) = (fs.filter fun j => decide (j < n)).map fun (k : Nat) => PyData.int (k : Nat) := by
  rw [List.filter_map]
  congr 1
  apply List.filter_congr
  intro j _
  show decide ((j : Int) < (n : Int)) = decide (j < n)
  exact decide_eq_decide.mpr (by omega)
def earlyD (k : Nat) : TD := dLc (dItU (dVar k)) (gdName 17) (dB (dOp fLt (dVar 17) (dCall fLen (dCons (dVar 4) dNil)))) (dVar 17) [17]
theorem ne_ints {fs : List Nat} {R : DV → Prop} (h : R (.p (.bool false))) : fEqQ true (.p (.list (fs.map fun (k : Nat) => PyData.int (k : Nat)))) (.p (.list (fs.map fun (k : Nat) => PyData.int (k : Nat)))) R := by
  have p1 : (PyData.list (fs.map fun (k : Nat) => PyData.int (k : Nat))).plain = true := by
    simp only [PyData.plain, pl_all]
    exact List.all_eq_true.mpr fun d hd => by
      obtain ⟨j, _, rfl⟩ := List.mem_map.mp hd
      rfl
  have p2 : (PyData.list (fs.map fun (k : Nat) => PyData.int (k : Nat))).depth ≤ 60 := by
    simp only [PyData.depth]
    have q1 := dp_all (k := 1) (xs := fs.map fun (k : Nat) => PyData.int (k : Nat)) |>.mpr fun d hd => by
      obtain ⟨j, _, rfl⟩ := List.mem_map.mp hd
      simp only [PyData.depth]
      decide
    omega
  refine ⟨p1, p1, by omega, ?_⟩
  show R (.p (.bool (!PyData.eqv _ _)))
  rw [eqv_rf _ p1]
  exact h

theorem early8 {x0 x1 x3 x5 x6 x7 x9 x10 x11 x12 x13 x14 x15 x16 x17 : Sl} {A : List Rl} {fs : List Nat} {N : DV → Prop} (lA : A.length ≤ 2) (lf : fs.length ≤ 100) (h : N (.p (.list ((fs.filter fun j => decide (j < A.length)).map fun (k : Nat) => PyData.int (k : Nat))))) : earlyD 8 [x0, x1, .v .well, x3, .v (.p (.list (A.map Rl.d))), x5, x6, x7, .v (.p (.tuple (fs.map fun (k : Nat) => PyData.int (k : Nat)))), x9, x10, x11, x12, x13, x14, x15, x16, x17] N := by
  refine ⟨by rw [List.length_map]; exact Nat.le_trans lf (by decide), lc_ff (earQ A.length) _ [] (fun d hd K1 K2 hk => ?_) ?_⟩
  · obtain ⟨j, hj, rfl⟩ := List.mem_map.mp hd
    have lz : (A.map Rl.d).length ≤ sizeLine := by rw [List.length_map]; exact Nat.le_trans lA (by decide)
    refine ⟨_, _, rfl, rfl, lz, ?_⟩
    show if decide ((j : Int) < (((A.map Rl.d).length : Nat) : Int)) = true then K1 (.int j) else K2
    rw [List.length_map]
    exact hk
  · rw [List.nil_append, ear_map]
    exact h

theorem early9 {x0 x1 x3 x5 x6 x7 x8 x10 x11 x12 x13 x14 x15 x16 x17 : Sl} {A : List Rl} {gs : List Nat} {N : DV → Prop} (lA : A.length ≤ 2) (lf : gs.length ≤ 100) (h : N (.p (.list ((gs.filter fun j => decide (j < A.length)).map fun (k : Nat) => PyData.int (k : Nat))))) : earlyD 9 [x0, x1, .v .well, x3, .v (.p (.list (A.map Rl.d))), x5, x6, x7, x8, .v (.p (.tuple (gs.map fun (k : Nat) => PyData.int (k : Nat)))), x10, x11, x12, x13, x14, x15, x16, x17] N := by
  refine ⟨by rw [List.length_map]; exact Nat.le_trans lf (by decide), lc_ff (earQ A.length) _ [] (fun d hd K1 K2 hk => ?_) ?_⟩
  · obtain ⟨j, hj, rfl⟩ := List.mem_map.mp hd
    have lz : (A.map Rl.d).length ≤ sizeLine := by rw [List.length_map]; exact Nat.le_trans lA (by decide)
    refine ⟨_, _, rfl, rfl, lz, ?_⟩
    show if decide ((j : Int) < (((A.map Rl.d).length : Nat) : Int)) = true then K1 (.int j) else K2
    rw [List.length_map]
    exact hk
  · rw [List.nil_append, ear_map]
    exact h

def lookD (C : Addr) : TDS := dSeq (dSet 15 (dCall gMsg29 (dCons (dVar 2) (dCons (dC (DV.p (PyData.str (Str.ofString "b")))) dNil))))
  (dSeq (dIfS (dB (dOp (fEqQ true) (dLend 12 (dCall (gArrP C) (dCons (dVar 12) (dCons (dVar 15) dNil)))) (dLend 13 (dCall (gArrP C) (dCons (dVar 13) (dCons (dVar 15) dNil)))))) (dRet (dC (DV.p (PyData.bool false)))) dNext)
  (dSeq (dPar 8 9 (dCons (dLend 12 (dCall (gFirP C) (dCons (dVar 12) (dCons (dVar 15) dNil)))) (dCons (dLend 13 (dCall (gFirP C) (dCons (dVar 13) (dCons (dVar 15) dNil)))) dNil)))
  (dSeq (dSet 16 (earlyD 8)) (dIfS (dOrT (dB (dOp (fEqQ true) (dCall fLen (dCons (dVar 8) dNil)) (dCall fLen (dCons (dVar 9) dNil)))) (dB (dOp (fEqQ true) (dVar 16) (earlyD 9)))) (dRet (dC (DV.p (PyData.bool false)))) dNext))))
theorem look_l29 {E : DE} {C a d a' d' : Addr} {e1 e2 : Ents} {A rl1 rl2 : List Rl} {x0 x1 x3 x5 x6 x7 x8 x9 x10 x11 x14 x15 x16 x17 : Sl} (lA : A.length ≤ 2) (g1 : MbG rl1) (g2 : MbG rl2) (al : Alike A.length rl1 rl2) (h1 : getE e1 (Str.ofString "b") = some (Pg.mb rl1).d) (h2 : getE e2 (Str.ofString "b") = some (Pg.mb rl2).d)
    (h : ∀ y8 y9 y15 y16 y17, E.nx [x0, x1, .v .well, x3, .v (.p (.list (A.map Rl.d))), x5, x6, x7, y8, y9, x10, x11, .od (.hs C a d e1), .od (.hs C a' d' e2), x14, y15, y16, y17]) : lookD C E [x0, x1, .v .well, x3, .v (.p (.list (A.map Rl.d))), x5, x6, x7, x8, x9, x10, x11, .od (.hs C a d e1), .od (.hs C a' d' e2), x14, x15, x16, x17] := by
  refine st_set ⟨Str.ofString "b", rfl, b_name, fun s u ms mg => ?_⟩
  have lm : ms.length ≤ 50 := Nat.le_trans mg.ml (by decide)
  refine ⟨e1, s, Str.ofString "b", u, ms, .mb rl1, rfl, mg.m, mg.w, h1, g1, mg.ul, lm, ?_⟩
  refine ⟨e2, s, Str.ofString "b", u, ms, .mb rl2, rfl, mg.m, mg.w, h2, g2, mg.ul, lm, ?_⟩
  obtain ⟨q1, q2⟩ := arr_same al s u ms
  dsimp only [asP]
  show fEqQ true (.p (.tuple [.list (((Pg.mb rl1).filed s (Str.ofString "b") u ms).map fstD), .list (((Pg.mb rl1).cuts s (Str.ofString "b") u ms).map sndD)])) (.p (.tuple [.list (((Pg.mb rl2).filed s (Str.ofString "b") u ms).map fstD), .list (((Pg.mb rl2).cuts s (Str.ofString "b") u ms).map sndD)])) _
  rw [q1, q2]
  refine ne_arr filed_sh cuts_sh (asBf ?_)
  refine ⟨e1, s, Str.ofString "b", u, ms, rl1, rfl, mg.m, mg.w, h1, g1, mg.ul, lm, e2, s, Str.ofString "b", u, ms, rl2, rfl, mg.m, mg.w, h2, g2, mg.ul, lm, _, _, rfl, ?_⟩
  have f1 : (runR s (Str.ofString "b") 0 rl1 [] (st0 u ms)).1.length ≤ 100 := Nat.le_trans (runR_fl rl1 0 [] _) (by have := g1.len; show 0 + rl1.length ≤ 100; omega)
  have f2 : (runR s (Str.ofString "b") 0 rl2 [] (st0 u ms)).1.length ≤ 100 := Nat.le_trans (runR_fl rl2 0 [] _) (by have := g2.len; show 0 + rl2.length ≤ 100; omega)
  refine st_set (early8 lA f1 ?_)
  have z1 : ((Pg.mb rl1).fired s (Str.ofString "b") u ms).length ≤ sizeLine := by
    show ((runR s (Str.ofString "b") 0 rl1 [] (st0 u ms)).1.map _).length ≤ _
    rw [List.length_map]
    exact Nat.le_trans f1 (by decide)
  have z2 : ((Pg.mb rl2).fired s (Str.ofString "b") u ms).length ≤ sizeLine := by
    show ((runR s (Str.ofString "b") 0 rl2 [] (st0 u ms)).1.map _).length ≤ _
    rw [List.length_map]
    exact Nat.le_trans f2 (by decide)
  have el : ((Pg.mb rl1).fired s (Str.ofString "b") u ms).length = ((Pg.mb rl2).fired s (Str.ofString "b") u ms).length := by
    show ((runR s (Str.ofString "b") 0 rl1 [] (st0 u ms)).1.map _).length = ((runR s (Str.ofString "b") 0 rl2 [] (st0 u ms)).1.map _).length
    rw [List.length_map, List.length_map]
    exact (al.sim s u ms).1
  refine ⟨_, _, rfl, rfl, z1, _, _, rfl, rfl, z2, rfl, rfl, Nat.zero_le _, ?_⟩
  show if (!PyData.eqv (.int (((Pg.mb rl1).fired s (Str.ofString "b") u ms).length : Nat)) (.int (((Pg.mb rl2).fired s (Str.ofString "b") u ms).length : Nat))) = true then _ else _
  rw [eqv_int, el, decide_eq_true rfl]
  refine ite_f ?_
  refine cmp2_l (i := 16) rfl (early9 lA f2 ?_)
  rw [al.ear]
  refine ne_ints (asBf ?_)
  exact h _ _ _ _ _

theorem get_b {n : Str} {y : PyData} : getE (putE [] n y) n = some y := by
  show getE [(n, y)] n = some y
  unfold getE
  rw [List.find?_cons_of_pos (by exact decide_eq_true rfl)]
  rfl
def turnD (C : Addr) : TDS := dSeq (dSet 4 aheadD) (dSeq parD (dSeq fsD (dSeq (dSet 10 pairD) (dSeq (dSet 11 neverD) (dSeq (dPar2H C 12 13) (dSeq (addD C) (dSeq (addD2 C) (dFor (dItR1 (dCons (dC (DV.p (PyData.int 14))) dNil)) (gdName 14) (lookD C)))))))))
theorem turn_l29 {E : DE} {C : Addr} {x0 x1 x3 x4 x5 x6 x7 x8 x9 x10 x11 x12 x13 x14 x15 x16 x17 : Sl} (h : ∀ y3 y4 y5 y6 y7 y8 y9 y10 y11 y12 y13 y14 y15 y16 y17, E.nx [x0, x1, .v .well, y3, y4, y5, y6, y7, y8, y9, y10, y11, y12, y13, y14, y15, y16, y17]) : turnD C E [x0, x1, .v .well, x3, x4, x5, x6, x7, x8, x9, x10, x11, x12, x13, x14, x15, x16, x17] := by
  refine st_set (rules_d fun A lA gA => ?_)
  refine par_d fun r B gr lB gB => ?_
  refine fs_d fun f g nfg hf hg => st_set (pair_d fun as bs ga gb => ?_)
  rw [← fr_d f as, ← fr_d g bs]
  have g1 : RlG ⟨.lf (.frm [f]), as⟩ := fr_g hf ga
  have g2 : RlG ⟨.lf (.frm [g]), bs⟩ := fr_g hg gb
  generalize ep1 : (⟨.lf (.frm [f]), as⟩ : Rl) = p1 at g1 ⊢
  generalize ep2 : (⟨.lf (.frm [g]), bs⟩ : Rl) = p2 at g2 ⊢
  refine st_set (never_d ?_)
  intro a d a' d'
  have gall : ∀ q ∈ A ++ ([r] ++ (B ++ [p1, p2])), RlG q := fun q m => by
    rcases List.mem_append.mp m with m | m
    · exact gA q m
    rcases List.mem_append.mp m with m | m
    · rw [List.mem_singleton.mp m]; exact gr.rl
    rcases List.mem_append.mp m with m | m
    · exact gB q m
    · rcases List.mem_cons.mp m with m | m
      · rw [m]; exact g1
      · rw [List.mem_singleton.mp m]; exact g2
  refine add_l (a := a) (d := d) lA lB gall ?_
  refine add2_l (a := a') (d := d') lA lB gr gA gB g1 g2 fun l q1 q2 gl hq gm => ?_
  have al := alike_of (A := A) (B := B) gr hq nfg ep1.symm ep2.symm
  have gm1 : MbG (A ++ ([r] ++ (B ++ [p1, p2]))) := ⟨by simp only [List.length_append, List.length_cons, List.length_nil]; omega, gall⟩
  refine ⟨14, rfl, by decide, by decide, for_inv (fun δ => ∃ y3 y5 y8 y9 y14 y15 y16 y17, δ = [x0, x1, .v .well, y3, .v (.p (.list (A.map Rl.d))), y5, .v (.p r.d), .v (.p (.list (B.map Rl.d))), y8, y9, .v (.p (.list [p1.d, p2.d])), .v (.p nvD), .od (.hs C a d (putE [] (Str.ofString "b") (Pg.mb (A ++ ([r] ++ (B ++ [p1, p2])))).d)), .od (.hs C a' d' (putE [] (Str.ofString "b") (Pg.mb (A ++ ([q1, q2] ++ ([nvR] ++ (B ++ [p2, p1]))))).d)), y14, y15, y16, y17]) _ _ ⟨_, _, _, _, _, _, _, _, rfl⟩ (fun dd hd δ' hJ E' hrt hnx _ _ => ?_) fun δ' hJ => ?_⟩
  · obtain ⟨y3, y5, y8, y9, y14, y15, y16, y17, rfl⟩ := hJ
    exact look_l29 lA gm1 gm al get_b get_b fun z8 z9 z15 z16 z17 => hnx _ ⟨_, _, _, _, _, _, _, _, rfl⟩
  · obtain ⟨y3, y5, y8, y9, y14, y15, y16, y17, rfl⟩ := hJ
    exact h _ _ _ _ _ _ _ _ _ _ _ _ _ _ _
def J0 (ns : List Int) (δ : Dn) : Prop := ∃ y1 y2 y3 y4 y5 y6 y7 y8 y9 y10 y11 y12 y13 y14 y15 y16 y17 : Sl, δ = [.v (.scr ns), y1, y2, y3, y4, y5, y6, y7, y8, y9, y10, y11, y12, y13, y14, y15, y16, y17]
end MR

namespace MR
open PySem PySem.Spec PyProof.Rows L2
section
variable {P : Program} {w : World} {K : PySem.W.Frag} {mg : Str → Option Value} {base : Heap}
theorem ok_is_name (T : Tx K mg) {k : Nat} (hk : 1 ≤ k) : FnG P w K mg base CX0 k T.a_is_name T.d_is_name ["value"] (spD ⟨K, P, w⟩ (gP isName)) :=
  (okB T.F_is_name sc_is_name (fun ds R h => by obtain ⟨_, rfl, _⟩ := h; rfl) fun cdv A gd outer s H E hr => ⟨_, (dss_one (ds_ret (de_and (de_callB cd_isi (by rfl) T.n_isinstance bt_isinstance (da_cons (dv 0) (da_cons (de_bltn (v := .ty "str") (u := .type "str") (by rfl) T.n_str bt_str rfl) da_nil))) (de_and (de_chain od_le od_le de_int (de_callB cd_len (by rfl) T.n_len bt_len (da_cons (dv 0) da_nil)) (de_glob (d := .p (.int 12)) (v := .int 12) (by rfl) T.c_MOST_LETTERS ⟨_, rfl⟩ (fun _ => rfl))) (de_one (de_callB (cd_all rfl) (by rfl) T.n_all bt_all (da_cons (de_lc (own := [("letter", 1)]) rfl sc_is_name.nd (di_str (dv 0)) (blkOk_by (N := ["value", "letter"]) (own := [("letter", 1)]) (sc := defScope s_is_name) (by decide +kernel)) (fun _ _ _ _ _ => (dg_name (i := 1) (by decide) sc_is_name.nd rfl (by first | exact Or.inl rfl | exact Or.inr rfl))) (fun _ _ _ _ _ => dts_nil) (fun _ _ _ _ _ => (de_chain od_le od_le de_str (dv 1) de_str))) da_nil))))))), fun ds R h => by
      obtain ⟨d, rfl, hw, h⟩ := h
      simp only [dSeq, dNext, dBreak, dCont, dDrop, dRet, dRetN, dIfS, dSet, dB, dNotT, dAndT, dOrT, dNot, dAnd, dOr, dIf, dChain, dVar, dC, dOp, dUn, dNil, dCons, dCall, dTup, dLst, pyAll, dSl, dNo, dPart, dAsg, dPar, dDig, dMix, dPutD, dPutM, dM1, dFor, dItL, dItU, dItS, dItR1, dItR2, dItSc, dItZip, dLc, dYes, gdName, wipeD, asP, asB, asI, asS, asL, asU, sliceD, fCmp, fAdd, startD, fI, true_and, and_true, List.getD_cons_zero, List.getD_cons_succ, List.set_cons_zero, List.set_cons_succ, List.map_cons, List.map_nil, List.length_cons, List.length_nil, Nat.zero_add, Nat.reduceAdd, Nat.reduceSub, List.replicate, List.cons_append, List.nil_append, if_true, if_false, reduceIte, Bool.false_eq_true, Bool.not_true, Bool.not_false]
      refine isi_str ?_
      cases d with
      | str x =>
        have hx := wt_str hw
        simp only [isS, isName] at h ⊢
        simp only [dSeq, dNext, dBreak, dCont, dDrop, dRet, dRetN, dIfS, dSet, dB, dNotT, dAndT, dOrT, dNot, dAnd, dOr, dIf, dChain, dVar, dC, dOp, dUn, dNil, dCons, dCall, dTup, dLst, pyAll, dSl, dNo, dPart, dAsg, dPar, dDig, dMix, dPutD, dPutM, dM1, dFor, dItL, dItU, dItS, dItR1, dItR2, dItSc, dItZip, dLc, dYes, gdName, wipeD, asP, asB, asI, asS, asL, asU, sliceD, fCmp, fAdd, startD, fI, true_and, and_true, List.getD_cons_zero, List.getD_cons_succ, List.set_cons_zero, List.set_cons_succ, List.map_cons, List.map_nil, List.length_cons, List.length_nil, Nat.zero_add, Nat.reduceAdd, Nat.reduceSub, List.replicate, List.cons_append, List.nil_append, if_true, if_false, reduceIte, Bool.false_eq_true, Bool.not_true, Bool.not_false]
        refine len_str (big hx) ?_
        simp only [dSeq, dNext, dBreak, dCont, dDrop, dRet, dRetN, dIfS, dSet, dB, dNotT, dAndT, dOrT, dNot, dAnd, dOr, dIf, dChain, dVar, dC, dOp, dUn, dNil, dCons, dCall, dTup, dLst, pyAll, dSl, dNo, dPart, dAsg, dPar, dDig, dMix, dPutD, dPutM, dM1, dFor, dItL, dItU, dItS, dItR1, dItR2, dItSc, dItZip, dLc, dYes, gdName, wipeD, asP, asB, asI, asS, asL, asU, sliceD, fCmp, fAdd, startD, fI, true_and, and_true, List.getD_cons_zero, List.getD_cons_succ, List.set_cons_zero, List.set_cons_succ, List.map_cons, List.map_nil, List.length_cons, List.length_nil, Nat.zero_add, Nat.reduceAdd, Nat.reduceSub, List.replicate, List.cons_append, List.nil_append, if_true, if_false, reduceIte, Bool.false_eq_true, Bool.not_true, Bool.not_false]
        have e1 : decide ((1 : Int) ≤ (x.length : Int)) = decide (1 ≤ x.length) := by
          rw [decide_eq_decide]
          omega
        have e2 : decide ((x.length : Int) ≤ (12 : Int)) = decide (x.length ≤ 12) := by
          rw [decide_eq_decide]
          omega
        rw [e1, e2]
        cases q1 : decide (1 ≤ x.length) with
        | false => rw [q1] at h; exact h
        | true =>
          rw [q1] at h
          simp only [dSeq, dNext, dBreak, dCont, dDrop, dRet, dRetN, dIfS, dSet, dB, dNotT, dAndT, dOrT, dNot, dAnd, dOr, dIf, dChain, dVar, dC, dOp, dUn, dNil, dCons, dCall, dTup, dLst, pyAll, dSl, dNo, dPart, dAsg, dPar, dDig, dMix, dPutD, dPutM, dM1, dFor, dItL, dItU, dItS, dItR1, dItR2, dItSc, dItZip, dLc, dYes, gdName, wipeD, asP, asB, asI, asS, asL, asU, sliceD, fCmp, fAdd, startD, fI, true_and, and_true, List.getD_cons_zero, List.getD_cons_succ, List.set_cons_zero, List.set_cons_succ, List.map_cons, List.map_nil, List.length_cons, List.length_nil, Nat.zero_add, Nat.reduceAdd, Nat.reduceSub, List.replicate, List.cons_append, List.nil_append, if_true, if_false, reduceIte, Bool.false_eq_true, Bool.not_true, Bool.not_false]
          cases q2 : decide (x.length ≤ 12) with
          | false => rw [q2] at h; exact h
          | true =>
            rw [q2] at h
            simp only [dSeq, dNext, dBreak, dCont, dDrop, dRet, dRetN, dIfS, dSet, dB, dNotT, dAndT, dOrT, dNot, dAnd, dOr, dIf, dChain, dVar, dC, dOp, dUn, dNil, dCons, dCall, dTup, dLst, pyAll, dSl, dNo, dPart, dAsg, dPar, dDig, dMix, dPutD, dPutM, dM1, dFor, dItL, dItU, dItS, dItR1, dItR2, dItSc, dItZip, dLc, dYes, gdName, wipeD, asP, asB, asI, asS, asL, asU, sliceD, fCmp, fAdd, startD, fI, true_and, and_true, List.getD_cons_zero, List.getD_cons_succ, List.set_cons_zero, List.set_cons_succ, List.map_cons, List.map_nil, List.length_cons, List.length_nil, Nat.zero_add, Nat.reduceAdd, Nat.reduceSub, List.replicate, List.cons_append, List.nil_append, if_true, if_false, reduceIte, Bool.false_eq_true, Bool.not_true, Bool.not_false]
            refine ⟨by rw [signs_len]; exact big hx, lc_map (fun d => .bool (loD d)) (fun d hd K1 hk => ?_) (all_map_of ?_)⟩
            · obtain ⟨c, _, rfl⟩ := mem_signs hd
              simp only [dSeq, dNext, dBreak, dCont, dDrop, dRet, dRetN, dIfS, dSet, dB, dNotT, dAndT, dOrT, dNot, dAnd, dOr, dIf, dChain, dVar, dC, dOp, dUn, dNil, dCons, dCall, dTup, dLst, pyAll, dSl, dNo, dPart, dAsg, dPar, dDig, dMix, dPutD, dPutM, dM1, dFor, dItL, dItU, dItS, dItR1, dItR2, dItSc, dItZip, dLc, dYes, gdName, wipeD, asP, asB, asI, asS, asL, asU, sliceD, fCmp, fAdd, startD, fI, true_and, and_true, List.getD_cons_zero, List.getD_cons_succ, List.set_cons_zero, List.set_cons_succ, List.map_cons, List.map_nil, List.length_cons, List.length_nil, Nat.zero_add, Nat.reduceAdd, Nat.reduceSub, List.replicate, List.cons_append, List.nil_append, if_true, if_false, reduceIte, Bool.false_eq_true, Bool.not_true, Bool.not_false]
              rw [s_a, s_z, leS_1, leS_1]
              have hk : K1 (.bool (loC c)) := hk
              unfold loC at hk
              cases q3 : decide (97 ≤ c) with
              | false => rw [q3] at hk; exact hk
              | true => rw [q3] at hk; exact hk
            · rw [all_signs (p := loC) fun c => rfl]
              exact h
      | _ => exact h⟩).mono hk
theorem ok_is_name_tuple (T : Tx K mg) {k : Nat} (hk : 2 ≤ k) : FnG P w K mg base CX0 k T.a_is_name_tuple T.d_is_name_tuple ["value"] (spD ⟨K, P, w⟩ (gP isNT)) :=
  (okB T.F_is_name_tuple sc_is_name_tuple (fun ds R h => by obtain ⟨_, rfl, _⟩ := h; rfl) fun cdv A gd outer s H E hr => ⟨_, (dss_one (ds_ret (de_and (de_callB cd_isi (by rfl) T.n_isinstance bt_isinstance (da_cons (dv 0) (da_cons (de_bltn (v := .ty "tuple") (u := .type "tuple") (by rfl) T.n_tuple bt_tuple rfl) da_nil))) (de_and (de_callB (cd_all rfl) (by rfl) T.n_all bt_all (da_cons (de_lc (own := [("name", 1)]) rfl sc_is_name_tuple.nd (di_tup (dv 0)) (blkOk_by (N := ["value", "name", "one", "other"]) (own := [("name", 1)]) (sc := defScope s_is_name_tuple) (by decide +kernel)) (fun _ _ _ _ _ => (dg_name (i := 1) (by decide) sc_is_name_tuple.nd rfl (by first | exact Or.inl rfl | exact Or.inr rfl))) (fun _ _ _ _ _ => dts_nil) (fun _ _ _ _ _ => (de_call (ok_is_name T (k := 1) (by decide)) gd hr (by rfl) T.m_is_name T.F_is_name.kp T.b_is_name pass0 (da_cons (dv 1) da_nil)))) da_nil)) (de_one (de_callB (cd_all rfl) (by rfl) T.n_all bt_all (da_cons (de_lc (own := [("one", 2), ("other", 3)]) rfl sc_is_name_tuple.nd (di_zip (by rfl) T.n_zip (da_cons (dv 0) (da_cons (de_slice (dv 0) (do_some de_int) do_none) da_nil))) (blkOk_by (N := ["value", "name", "one", "other"]) (own := [("one", 2), ("other", 3)]) (sc := defScope s_is_name_tuple) (by decide +kernel)) (fun _ _ _ _ _ => (dg_tup (n := 2) rfl (dgs_cons (dg_name (i := 2) (by decide) sc_is_name_tuple.nd rfl (by first | exact Or.inl rfl | exact Or.inr rfl)) (dgs_cons (dg_name (i := 3) (by decide) sc_is_name_tuple.nd rfl (by first | exact Or.inl rfl | exact Or.inr rfl)) dgs_nil)))) (fun _ _ _ _ _ => dts_nil) (fun _ _ _ _ _ => (de_cmp od_lt (dv 2) (dv 3)))) da_nil))))))), fun ds R h => by
      obtain ⟨d, rfl, hw, h⟩ := h
      simp only [dSeq, dNext, dBreak, dCont, dDrop, dRet, dRetN, dIfS, dSet, dB, dNotT, dAndT, dOrT, dNot, dAnd, dOr, dIf, dChain, dVar, dC, dOp, dUn, dNil, dCons, dCall, dTup, dLst, pyAll, dSl, dNo, dPart, dAsg, dPar, dDig, dMix, dPutD, dPutM, dM1, dFor, dItL, dItU, dItS, dItR1, dItR2, dItSc, dItZip, dLc, dYes, gdName, wipeD, asP, asB, asI, asS, asL, asU, sliceD, fCmp, fAdd, startD, fI, true_and, and_true, List.getD_cons_zero, List.getD_cons_succ, List.set_cons_zero, List.set_cons_succ, List.map_cons, List.map_nil, List.length_cons, List.length_nil, Nat.zero_add, Nat.reduceAdd, Nat.reduceSub, List.replicate, List.cons_append, List.nil_append, if_true, if_false, reduceIte, Bool.false_eq_true, Bool.not_true, Bool.not_false]
      refine isi_tuple ?_
      cases d with
      | tuple xs =>
        simp only [isT, isNT] at h ⊢
        have hl : xs.length ≤ sizeLine := big (Nat.le_trans (wt_len xs) (wt_tup hw))
        simp only [dSeq, dNext, dBreak, dCont, dDrop, dRet, dRetN, dIfS, dSet, dB, dNotT, dAndT, dOrT, dNot, dAnd, dOr, dIf, dChain, dVar, dC, dOp, dUn, dNil, dCons, dCall, dTup, dLst, pyAll, dSl, dNo, dPart, dAsg, dPar, dDig, dMix, dPutD, dPutM, dM1, dFor, dItL, dItU, dItS, dItR1, dItR2, dItSc, dItZip, dLc, dYes, gdName, wipeD, asP, asB, asI, asS, asL, asU, sliceD, fCmp, fAdd, startD, fI, true_and, and_true, List.getD_cons_zero, List.getD_cons_succ, List.set_cons_zero, List.set_cons_succ, List.map_cons, List.map_nil, List.length_cons, List.length_nil, Nat.zero_add, Nat.reduceAdd, Nat.reduceSub, List.replicate, List.cons_append, List.nil_append, if_true, if_false, reduceIte, Bool.false_eq_true, Bool.not_true, Bool.not_false]
        refine ⟨hl, lc_map (fun d => .bool (isName d)) (fun d hd K1 hk => ?_) (all_map_of ?_)⟩
        · simp only [dSeq, dNext, dBreak, dCont, dDrop, dRet, dRetN, dIfS, dSet, dB, dNotT, dAndT, dOrT, dNot, dAnd, dOr, dIf, dChain, dVar, dC, dOp, dUn, dNil, dCons, dCall, dTup, dLst, pyAll, dSl, dNo, dPart, dAsg, dPar, dDig, dMix, dPutD, dPutM, dM1, dFor, dItL, dItU, dItS, dItR1, dItR2, dItSc, dItZip, dLc, dYes, gdName, wipeD, asP, asB, asI, asS, asL, asU, sliceD, fCmp, fAdd, startD, fI, true_and, and_true, List.getD_cons_zero, List.getD_cons_succ, List.set_cons_zero, List.set_cons_succ, List.map_cons, List.map_nil, List.length_cons, List.length_nil, Nat.zero_add, Nat.reduceAdd, Nat.reduceSub, List.replicate, List.cons_append, List.nil_append, if_true, if_false, reduceIte, Bool.false_eq_true, Bool.not_true, Bool.not_false]
          exact ⟨d, rfl, wt_in hw hd, hk⟩
        · cases q : xs.all isName with
          | false => rw [q] at h; exact h
          | true =>
            rw [q] at h
            simp only [dSeq, dNext, dBreak, dCont, dDrop, dRet, dRetN, dIfS, dSet, dB, dNotT, dAndT, dOrT, dNot, dAnd, dOr, dIf, dChain, dVar, dC, dOp, dUn, dNil, dCons, dCall, dTup, dLst, pyAll, dSl, dNo, dPart, dAsg, dPar, dDig, dMix, dPutD, dPutM, dM1, dFor, dItL, dItU, dItS, dItR1, dItR2, dItSc, dItZip, dLc, dYes, gdName, wipeD, asP, asB, asI, asS, asL, asU, sliceD, fCmp, fAdd, startD, fI, true_and, and_true, List.getD_cons_zero, List.getD_cons_succ, List.set_cons_zero, List.set_cons_succ, List.map_cons, List.map_nil, List.length_cons, List.length_nil, Nat.zero_add, Nat.reduceAdd, Nat.reduceSub, List.replicate, List.cons_append, List.nil_append, if_true, if_false, reduceIte, Bool.false_eq_true, Bool.not_true, Bool.not_false]
            refine ⟨xs, cutD xs (some ((1 : Nat) : Int)) none, .inr rfl, ?_⟩
            rw [cut_from]
            refine ⟨?_, lc_map (fun d => .bool (prB d)) (fun d hd K1 hk => ?_) (all_map_of ?_)⟩
            · unfold pairsD
              rw [List.length_zipWith]
              omega
            · obtain ⟨a, ha, b, hb, rfl⟩ := mem_pairs hd
              obtain ⟨x, rfl⟩ := name_str (List.all_eq_true.mp q a ha)
              obtain ⟨y, rfl⟩ := name_str (List.all_eq_true.mp q b (List.mem_of_mem_drop hb))
              refine ⟨rfl, _, _, rfl, _, _, rfl, rfl, ?_⟩
              simp only [dSeq, dNext, dBreak, dCont, dDrop, dRet, dRetN, dIfS, dSet, dB, dNotT, dAndT, dOrT, dNot, dAnd, dOr, dIf, dChain, dVar, dC, dOp, dUn, dNil, dCons, dCall, dTup, dLst, pyAll, dSl, dNo, dPart, dAsg, dPar, dDig, dMix, dPutD, dPutM, dM1, dFor, dItL, dItU, dItS, dItR1, dItR2, dItSc, dItZip, dLc, dYes, gdName, wipeD, asP, asB, asI, asS, asL, asU, sliceD, fCmp, fAdd, startD, fI, true_and, and_true, List.getD_cons_zero, List.getD_cons_succ, List.set_cons_zero, List.set_cons_succ, List.map_cons, List.map_nil, List.length_cons, List.length_nil, Nat.zero_add, Nat.reduceAdd, Nat.reduceSub, List.replicate, List.cons_append, List.nil_append, if_true, if_false, reduceIte, Bool.false_eq_true, Bool.not_true, Bool.not_false]
              exact hk
            · rw [all_pairs q]
              exact h
      | _ => exact h⟩).mono hk
theorem ok_is_subject_code (T : Tx K mg) {k : Nat} (hk : 1 ≤ k) : FnG P w K mg base CX0 k T.a_is_subject_code T.d_is_subject_code ["code"] (spD ⟨K, P, w⟩ gCode) :=
  (okB T.F_is_subject_code sc_is_subject_code (fun ds R h => by obtain ⟨_, rfl, _⟩ := h; rfl) fun cdv A gd outer s H E hr => ⟨_, (dss_one (ds_ret (de_and (de_chain od_le od_le (de_glob (d := .p (.int 32)) (v := .int 32) (by rfl) T.c_FIRST_CODE ⟨_, rfl⟩ (fun _ => rfl)) (dv 0) (de_glob (d := .p (.int 126)) (v := .int 126) (by rfl) T.c_LAST_CODE ⟨_, rfl⟩ (fun _ => rfl))) (de_one (de_cmp (od_neQ hr.units) (dv 0) (de_glob (d := .p (.int 37)) (v := .int 37) (by rfl) T.c_PERCENT_CODE ⟨_, rfl⟩ (fun _ => rfl))))))), fun ds R h => by
      obtain ⟨c, rfl, h⟩ := h
      simp only [dSeq, dNext, dBreak, dCont, dDrop, dRet, dRetN, dIfS, dSet, dB, dNotT, dAndT, dOrT, dNot, dAnd, dOr, dIf, dChain, dVar, dC, dOp, dUn, dNil, dCons, dCall, dTup, dLst, pyAll, dSl, dNo, dPart, dAsg, dPar, dDig, dMix, dPutD, dPutM, dM1, dFor, dItL, dItU, dItS, dItR1, dItR2, dItSc, dItZip, dLc, dYes, gdName, wipeD, asP, asB, asI, asS, asL, asU, sliceD, fCmp, fAdd, startD, fI, true_and, and_true, List.getD_cons_zero, List.getD_cons_succ, List.set_cons_zero, List.set_cons_succ, List.map_cons, List.map_nil, List.length_cons, List.length_nil, Nat.zero_add, Nat.reduceAdd, Nat.reduceSub, List.replicate, List.cons_append, List.nil_append, if_true, if_false, reduceIte, Bool.false_eq_true, Bool.not_true, Bool.not_false]
      have e1 : decide ((32 : Int) ≤ (c : Int)) = decide (32 ≤ c) := by
        rw [decide_eq_decide]
        omega
      have e2 : decide ((c : Int) ≤ (126 : Int)) = decide (c ≤ 126) := by
        rw [decide_eq_decide]
        omega
      rw [e1, e2]
      unfold okC at h
      cases q1 : decide (32 ≤ c) with
      | false => rw [q1] at h; exact h
      | true =>
        cases q2 : decide (c ≤ 126) with
        | false => rw [q1, q2] at h; exact h
        | true =>
          rw [q1, q2] at h
          refine ⟨rfl, rfl, Nat.zero_le _, ?_⟩
          have e3 : PyData.eqv (.int (c : Int)) (.int 37) = decide (c = 37) := by
            simp only [PyData.eqv]
            by_cases z : c = 37
            · subst z; rfl
            · rw [decide_eq_false z]
              exact beq_eq_false_iff_ne.mpr (by omega)
          show R (.p (.bool (!PyData.eqv (.int (c : Int)) (.int 37))))
          rw [e3]
          exact h⟩).mono hk
theorem ok_is_subject (T : Tx K mg) {k : Nat} (hk : 2 ≤ k) : FnG P w K mg base CX0 k T.a_is_subject T.d_is_subject ["value"] (spD ⟨K, P, w⟩ (gP isSubj)) :=
  (okB T.F_is_subject sc_is_subject (fun ds R h => by obtain ⟨_, rfl, _⟩ := h; rfl) fun cdv A gd outer s H E hr => ⟨_, (dss_one (ds_ret (de_and (de_callB cd_isi (by rfl) T.n_isinstance bt_isinstance (da_cons (dv 0) (da_cons (de_bltn (v := .ty "str") (u := .type "str") (by rfl) T.n_str bt_str rfl) da_nil))) (de_one (de_callB (cd_all rfl) (by rfl) T.n_all bt_all (da_cons (de_lc (own := [("sign", 1)]) rfl sc_is_subject.nd (di_list (de_callB (cd_sortK rfl hr) (by rfl) T.n_sorted bt_sorted (da_cons (de_callTy (cd_set rfl) (by rfl) T.n_set bt_set (da_cons (dv 0) da_nil)) da_nil))) (blkOk_by (N := ["value", "sign"]) (own := [("sign", 1)]) (sc := defScope s_is_subject) (by decide +kernel)) (fun _ _ _ _ _ => (dg_name (i := 1) (by decide) sc_is_subject.nd rfl (by first | exact Or.inl rfl | exact Or.inr rfl))) (fun _ _ _ _ _ => dts_nil) (fun _ _ _ _ _ => (de_call (ok_is_subject_code T (k := 1) (by decide)) gd hr (by rfl) T.m_is_subject_code T.F_is_subject_code.kp T.b_is_subject_code pass0 (da_cons (de_callB cd_ord (by rfl) T.n_ord bt_ord (da_cons (dv 1) da_nil)) da_nil)))) da_nil)))))), fun ds R h => by
      obtain ⟨d, rfl, hw, h⟩ := h
      simp only [dSeq, dNext, dBreak, dCont, dDrop, dRet, dRetN, dIfS, dSet, dB, dNotT, dAndT, dOrT, dNot, dAnd, dOr, dIf, dChain, dVar, dC, dOp, dUn, dNil, dCons, dCall, dTup, dLst, pyAll, dSl, dNo, dPart, dAsg, dPar, dDig, dMix, dPutD, dPutM, dM1, dFor, dItL, dItU, dItS, dItR1, dItR2, dItSc, dItZip, dLc, dYes, gdName, wipeD, asP, asB, asI, asS, asL, asU, sliceD, fCmp, fAdd, startD, fI, true_and, and_true, List.getD_cons_zero, List.getD_cons_succ, List.set_cons_zero, List.set_cons_succ, List.map_cons, List.map_nil, List.length_cons, List.length_nil, Nat.zero_add, Nat.reduceAdd, Nat.reduceSub, List.replicate, List.cons_append, List.nil_append, if_true, if_false, reduceIte, Bool.false_eq_true, Bool.not_true, Bool.not_false]
      refine isi_str ?_
      cases d with
      | str x =>
        have hx := wt_str hw
        simp only [isS, isSubj] at h ⊢
        simp only [dSeq, dNext, dBreak, dCont, dDrop, dRet, dRetN, dIfS, dSet, dB, dNotT, dAndT, dOrT, dNot, dAnd, dOr, dIf, dChain, dVar, dC, dOp, dUn, dNil, dCons, dCall, dTup, dLst, pyAll, dSl, dNo, dPart, dAsg, dPar, dDig, dMix, dPutD, dPutM, dM1, dFor, dItL, dItU, dItS, dItR1, dItR2, dItSc, dItZip, dLc, dYes, gdName, wipeD, asP, asB, asI, asS, asL, asU, sliceD, fCmp, fAdd, startD, fI, true_and, and_true, List.getD_cons_zero, List.getD_cons_succ, List.set_cons_zero, List.set_cons_succ, List.map_cons, List.map_nil, List.length_cons, List.length_nil, Nat.zero_add, Nat.reduceAdd, Nat.reduceSub, List.replicate, List.cons_append, List.nil_append, if_true, if_false, reduceIte, Bool.false_eq_true, Bool.not_true, Bool.not_false]
        refine ⟨_, _, rfl, rfl, by rw [List.length_map, Array.length_toList]; exact Nat.lt_of_le_of_lt (Nat.succ_le_succ hx) (by decide), x.cps.toList.map fun c => ⟨#[c]⟩, by rw [List.map_map]; rfl, fun zs hr hm hz => ?_⟩
        simp only [dSeq, dNext, dBreak, dCont, dDrop, dRet, dRetN, dIfS, dSet, dB, dNotT, dAndT, dOrT, dNot, dAnd, dOr, dIf, dChain, dVar, dC, dOp, dUn, dNil, dCons, dCall, dTup, dLst, pyAll, dSl, dNo, dPart, dAsg, dPar, dDig, dMix, dPutD, dPutM, dM1, dFor, dItL, dItU, dItS, dItR1, dItR2, dItSc, dItZip, dLc, dYes, gdName, wipeD, asP, asB, asI, asS, asL, asU, sliceD, fCmp, fAdd, startD, fI, true_and, and_true, List.getD_cons_zero, List.getD_cons_succ, List.set_cons_zero, List.set_cons_succ, List.map_cons, List.map_nil, List.length_cons, List.length_nil, Nat.zero_add, Nat.reduceAdd, Nat.reduceSub, List.replicate, List.cons_append, List.nil_append, if_true, if_false, reduceIte, Bool.false_eq_true, Bool.not_true, Bool.not_false]
        refine ⟨by rw [List.length_map]; exact hz, lc_map (fun d => .bool (okD' d)) (fun d hd K1 hk => ?_) (all_map_of ?_)⟩
        · obtain ⟨y, hy, rfl⟩ := List.mem_map.mp hd
          obtain ⟨c, hc, rfl⟩ := List.mem_map.mp ((hm y).mp hy)
          simp only [dSeq, dNext, dBreak, dCont, dDrop, dRet, dRetN, dIfS, dSet, dB, dNotT, dAndT, dOrT, dNot, dAnd, dOr, dIf, dChain, dVar, dC, dOp, dUn, dNil, dCons, dCall, dTup, dLst, pyAll, dSl, dNo, dPart, dAsg, dPar, dDig, dMix, dPutD, dPutM, dM1, dFor, dItL, dItU, dItS, dItR1, dItR2, dItSc, dItZip, dLc, dYes, gdName, wipeD, asP, asB, asI, asS, asL, asU, sliceD, fCmp, fAdd, startD, fI, true_and, and_true, List.getD_cons_zero, List.getD_cons_succ, List.set_cons_zero, List.set_cons_succ, List.map_cons, List.map_nil, List.length_cons, List.length_nil, Nat.zero_add, Nat.reduceAdd, Nat.reduceSub, List.replicate, List.cons_append, List.nil_append, if_true, if_false, reduceIte, Bool.false_eq_true, Bool.not_true, Bool.not_false]
          exact ⟨c, rfl, c, rfl, hk⟩
        · rw [all_sorted hm]
          exact h
      | _ => exact h⟩).mono hk
theorem ok_is_text (T : Tx K mg) {k : Nat} (hk : 3 ≤ k) : FnG P w K mg base CX0 k T.a_is_text T.d_is_text ["value"] (spD ⟨K, P, w⟩ (gP isTxt)) :=
  (okB T.F_is_text sc_is_text (fun ds R h => by obtain ⟨_, rfl, _⟩ := h; rfl) fun cdv A gd outer s H E hr => ⟨_, (dss_one (ds_ret (de_and (de_call (ok_is_subject T (k := 2) (by decide)) gd hr (by rfl) T.m_is_subject T.F_is_subject.kp T.b_is_subject pass0 (da_cons (dv 0) da_nil)) (de_one (de_chain od_le od_le de_int (de_callB cd_len (by rfl) T.n_len bt_len (da_cons (dv 0) da_nil)) (de_glob (d := .p (.int 8)) (v := .int 8) (by rfl) T.c_MOST_CHARACTERS ⟨_, rfl⟩ (fun _ => rfl))))))), fun ds R h => by
      obtain ⟨d, rfl, hw, h⟩ := h
      simp only [dSeq, dNext, dBreak, dCont, dDrop, dRet, dRetN, dIfS, dSet, dB, dNotT, dAndT, dOrT, dNot, dAnd, dOr, dIf, dChain, dVar, dC, dOp, dUn, dNil, dCons, dCall, dTup, dLst, pyAll, dSl, dNo, dPart, dAsg, dPar, dDig, dMix, dPutD, dPutM, dM1, dFor, dItL, dItU, dItS, dItR1, dItR2, dItSc, dItZip, dLc, dYes, gdName, wipeD, asP, asB, asI, asS, asL, asU, sliceD, fCmp, fAdd, startD, fI, true_and, and_true, List.getD_cons_zero, List.getD_cons_succ, List.set_cons_zero, List.set_cons_succ, List.map_cons, List.map_nil, List.length_cons, List.length_nil, Nat.zero_add, Nat.reduceAdd, Nat.reduceSub, List.replicate, List.cons_append, List.nil_append, if_true, if_false, reduceIte, Bool.false_eq_true, Bool.not_true, Bool.not_false]
      refine ⟨d, rfl, hw, ?_⟩
      cases d with
      | str x =>
        have hx := wt_str hw
        simp only [isTxt] at h
        cases q0 : isSubj (.str x) with
        | false => rw [q0] at h; exact h
        | true =>
          rw [q0] at h
          simp only [dSeq, dNext, dBreak, dCont, dDrop, dRet, dRetN, dIfS, dSet, dB, dNotT, dAndT, dOrT, dNot, dAnd, dOr, dIf, dChain, dVar, dC, dOp, dUn, dNil, dCons, dCall, dTup, dLst, pyAll, dSl, dNo, dPart, dAsg, dPar, dDig, dMix, dPutD, dPutM, dM1, dFor, dItL, dItU, dItS, dItR1, dItR2, dItSc, dItZip, dLc, dYes, gdName, wipeD, asP, asB, asI, asS, asL, asU, sliceD, fCmp, fAdd, startD, fI, true_and, and_true, List.getD_cons_zero, List.getD_cons_succ, List.set_cons_zero, List.set_cons_succ, List.map_cons, List.map_nil, List.length_cons, List.length_nil, Nat.zero_add, Nat.reduceAdd, Nat.reduceSub, List.replicate, List.cons_append, List.nil_append, if_true, if_false, reduceIte, Bool.false_eq_true, Bool.not_true, Bool.not_false]
          refine len_str (big hx) ?_
          simp only [dSeq, dNext, dBreak, dCont, dDrop, dRet, dRetN, dIfS, dSet, dB, dNotT, dAndT, dOrT, dNot, dAnd, dOr, dIf, dChain, dVar, dC, dOp, dUn, dNil, dCons, dCall, dTup, dLst, pyAll, dSl, dNo, dPart, dAsg, dPar, dDig, dMix, dPutD, dPutM, dM1, dFor, dItL, dItU, dItS, dItR1, dItR2, dItSc, dItZip, dLc, dYes, gdName, wipeD, asP, asB, asI, asS, asL, asU, sliceD, fCmp, fAdd, startD, fI, true_and, and_true, List.getD_cons_zero, List.getD_cons_succ, List.set_cons_zero, List.set_cons_succ, List.map_cons, List.map_nil, List.length_cons, List.length_nil, Nat.zero_add, Nat.reduceAdd, Nat.reduceSub, List.replicate, List.cons_append, List.nil_append, if_true, if_false, reduceIte, Bool.false_eq_true, Bool.not_true, Bool.not_false]
          have e1 : decide ((1 : Int) ≤ (x.length : Int)) = decide (1 ≤ x.length) := by
            rw [decide_eq_decide]
            omega
          have e2 : decide ((x.length : Int) ≤ (8 : Int)) = decide (x.length ≤ 8) := by
            rw [decide_eq_decide]
            omega
          rw [e1, e2]
          cases q1 : decide (1 ≤ x.length) with
          | false => rw [q1] at h; exact h
          | true => rw [q1] at h; exact h
      | _ => exact h⟩).mono hk
theorem ok_is_message (T : Tx K mg) {k : Nat} (hk : 3 ≤ k) : FnG P w K mg base CX0 k T.a_is_message T.d_is_message ["value"] (spD ⟨K, P, w⟩ (gP isMsg)) :=
  (okB T.F_is_message sc_is_message (fun ds R h => by obtain ⟨_, rfl, _⟩ := h; rfl) fun cdv A gd outer s H E hr => ⟨_, (dss_cons (ds_if (dw_or (dt_not (dt_val (de_callB cd_isi (by rfl) T.n_isinstance bt_isinstance (da_cons (dv 0) (da_cons (de_bltn (v := .ty "tuple") (u := .type "tuple") (by rfl) T.n_tuple bt_tuple rfl) da_nil))))) (dw_or1 (dt_cmp (od_neQ hr.units) (de_callB cd_len (by rfl) T.n_len bt_len (da_cons (dv 0) da_nil)) de_int))).pt (dss_one (ds_ret de_bl)) dss_nil)
    (dss_cons (ds_asg (vs := [1, 2, 3, 4]) (dv 0) (dg_tup (n := 4) rfl (dgs_cons (dg_name (i := 1) (by decide) sc_is_message.nd rfl (by first | exact Or.inl rfl | exact Or.inr rfl)) (dgs_cons (dg_name (i := 2) (by decide) sc_is_message.nd rfl (by first | exact Or.inl rfl | exact Or.inr rfl)) (dgs_cons (dg_name (i := 3) (by decide) sc_is_message.nd rfl (by first | exact Or.inl rfl | exact Or.inr rfl)) (dgs_cons (dg_name (i := 4) (by decide) sc_is_message.nd rfl (by first | exact Or.inl rfl | exact Or.inr rfl)) dgs_nil))))))
    (dss_one (ds_ret (de_and (de_call (ok_is_name T (k := 2) (by decide)) gd hr (by rfl) T.m_is_name T.F_is_name.kp T.b_is_name pass0 (da_cons (dv 1) da_nil)) (de_and (de_call (ok_is_name T (k := 2) (by decide)) gd hr (by rfl) T.m_is_name T.F_is_name.kp T.b_is_name pass0 (da_cons (dv 2) da_nil)) (de_and (de_call (ok_is_subject T (k := 2) (by decide)) gd hr (by rfl) T.m_is_subject T.F_is_subject.kp T.b_is_subject pass0 (da_cons (dv 3) da_nil)) (de_one (de_call (ok_is_name_tuple T (k := 2) (by decide)) gd hr (by rfl) T.m_is_name_tuple T.F_is_name_tuple.kp T.b_is_name_tuple pass0 (da_cons (dv 4) da_nil)))))))))), fun ds R h => by
      obtain ⟨d, rfl, hw, h⟩ := h
      simp only [dSeq, dNext, dBreak, dCont, dDrop, dRet, dRetN, dIfS, dSet, dB, dNotT, dAndT, dOrT, dNot, dAnd, dOr, dIf, dChain, dVar, dC, dOp, dUn, dNil, dCons, dCall, dTup, dLst, pyAll, dSl, dNo, dPart, dAsg, dPar, dDig, dMix, dPutD, dPutM, dM1, dFor, dItL, dItU, dItS, dItR1, dItR2, dItSc, dItZip, dLc, dYes, gdName, wipeD, asP, asB, asI, asS, asL, asU, sliceD, fCmp, fAdd, startD, fI, true_and, and_true, List.getD_cons_zero, List.getD_cons_succ, List.set_cons_zero, List.set_cons_succ, List.map_cons, List.map_nil, List.length_cons, List.length_nil, Nat.zero_add, Nat.reduceAdd, Nat.reduceSub, List.replicate, List.cons_append, List.nil_append, if_true, if_false, reduceIte, Bool.false_eq_true, Bool.not_true, Bool.not_false]
      refine isi_tuple ?_
      cases d with
      | tuple xs =>
        simp only [isT] at h ⊢
        have hl : xs.length ≤ sizeLine := big (Nat.le_trans (wt_len xs) (wt_tup hw))
        simp only [dSeq, dNext, dBreak, dCont, dDrop, dRet, dRetN, dIfS, dSet, dB, dNotT, dAndT, dOrT, dNot, dAnd, dOr, dIf, dChain, dVar, dC, dOp, dUn, dNil, dCons, dCall, dTup, dLst, pyAll, dSl, dNo, dPart, dAsg, dPar, dDig, dMix, dPutD, dPutM, dM1, dFor, dItL, dItU, dItS, dItR1, dItR2, dItSc, dItZip, dLc, dYes, gdName, wipeD, asP, asB, asI, asS, asL, asU, sliceD, fCmp, fAdd, startD, fI, true_and, and_true, List.getD_cons_zero, List.getD_cons_succ, List.set_cons_zero, List.set_cons_succ, List.map_cons, List.map_nil, List.length_cons, List.length_nil, Nat.zero_add, Nat.reduceAdd, Nat.reduceSub, List.replicate, List.cons_append, List.nil_append, if_true, if_false, reduceIte, Bool.false_eq_true, Bool.not_true, Bool.not_false]
        refine len_tup hl ⟨rfl, rfl, Nat.zero_le _, ?_⟩
        by_cases h4 : xs.length = 4
        · match xs, h4 with
          | [a, b, c, m], _ =>
            have wa : Wt a := wt_in hw (by simp)
            have wb : Wt b := wt_in hw (by simp)
            have wc : Wt c := wt_in hw (by simp)
            have wm : Wt m := wt_in hw (by simp)
            refine ⟨rfl, _, _, rfl, _, _, rfl, _, _, rfl, _, _, rfl, rfl, ?_⟩
            simp only [dSeq, dNext, dBreak, dCont, dDrop, dRet, dRetN, dIfS, dSet, dB, dNotT, dAndT, dOrT, dNot, dAnd, dOr, dIf, dChain, dVar, dC, dOp, dUn, dNil, dCons, dCall, dTup, dLst, pyAll, dSl, dNo, dPart, dAsg, dPar, dDig, dMix, dPutD, dPutM, dM1, dFor, dItL, dItU, dItS, dItR1, dItR2, dItSc, dItZip, dLc, dYes, gdName, wipeD, asP, asB, asI, asS, asL, asU, sliceD, fCmp, fAdd, startD, fI, true_and, and_true, List.getD_cons_zero, List.getD_cons_succ, List.set_cons_zero, List.set_cons_succ, List.map_cons, List.map_nil, List.length_cons, List.length_nil, Nat.zero_add, Nat.reduceAdd, Nat.reduceSub, List.replicate, List.cons_append, List.nil_append, if_true, if_false, reduceIte, Bool.false_eq_true, Bool.not_true, Bool.not_false]
            refine ⟨a, rfl, wa, ?_⟩
            simp only [isMsg] at h
            cases q1 : isName a with
            | false => rw [q1] at h; exact h
            | true =>
              rw [q1] at h
              simp only [dSeq, dNext, dBreak, dCont, dDrop, dRet, dRetN, dIfS, dSet, dB, dNotT, dAndT, dOrT, dNot, dAnd, dOr, dIf, dChain, dVar, dC, dOp, dUn, dNil, dCons, dCall, dTup, dLst, pyAll, dSl, dNo, dPart, dAsg, dPar, dDig, dMix, dPutD, dPutM, dM1, dFor, dItL, dItU, dItS, dItR1, dItR2, dItSc, dItZip, dLc, dYes, gdName, wipeD, asP, asB, asI, asS, asL, asU, sliceD, fCmp, fAdd, startD, fI, true_and, and_true, List.getD_cons_zero, List.getD_cons_succ, List.set_cons_zero, List.set_cons_succ, List.map_cons, List.map_nil, List.length_cons, List.length_nil, Nat.zero_add, Nat.reduceAdd, Nat.reduceSub, List.replicate, List.cons_append, List.nil_append, if_true, if_false, reduceIte, Bool.false_eq_true, Bool.not_true, Bool.not_false]
              refine ⟨b, rfl, wb, ?_⟩
              cases q2 : isName b with
              | false => rw [q2] at h; exact h
              | true =>
                rw [q2] at h
                simp only [dSeq, dNext, dBreak, dCont, dDrop, dRet, dRetN, dIfS, dSet, dB, dNotT, dAndT, dOrT, dNot, dAnd, dOr, dIf, dChain, dVar, dC, dOp, dUn, dNil, dCons, dCall, dTup, dLst, pyAll, dSl, dNo, dPart, dAsg, dPar, dDig, dMix, dPutD, dPutM, dM1, dFor, dItL, dItU, dItS, dItR1, dItR2, dItSc, dItZip, dLc, dYes, gdName, wipeD, asP, asB, asI, asS, asL, asU, sliceD, fCmp, fAdd, startD, fI, true_and, and_true, List.getD_cons_zero, List.getD_cons_succ, List.set_cons_zero, List.set_cons_succ, List.map_cons, List.map_nil, List.length_cons, List.length_nil, Nat.zero_add, Nat.reduceAdd, Nat.reduceSub, List.replicate, List.cons_append, List.nil_append, if_true, if_false, reduceIte, Bool.false_eq_true, Bool.not_true, Bool.not_false]
                refine ⟨c, rfl, wc, ?_⟩
                cases q3 : isSubj c with
                | false => rw [q3] at h; exact h
                | true =>
                  rw [q3] at h
                  simp only [dSeq, dNext, dBreak, dCont, dDrop, dRet, dRetN, dIfS, dSet, dB, dNotT, dAndT, dOrT, dNot, dAnd, dOr, dIf, dChain, dVar, dC, dOp, dUn, dNil, dCons, dCall, dTup, dLst, pyAll, dSl, dNo, dPart, dAsg, dPar, dDig, dMix, dPutD, dPutM, dM1, dFor, dItL, dItU, dItS, dItR1, dItR2, dItSc, dItZip, dLc, dYes, gdName, wipeD, asP, asB, asI, asS, asL, asU, sliceD, fCmp, fAdd, startD, fI, true_and, and_true, List.getD_cons_zero, List.getD_cons_succ, List.set_cons_zero, List.set_cons_succ, List.map_cons, List.map_nil, List.length_cons, List.length_nil, Nat.zero_add, Nat.reduceAdd, Nat.reduceSub, List.replicate, List.cons_append, List.nil_append, if_true, if_false, reduceIte, Bool.false_eq_true, Bool.not_true, Bool.not_false]
                  exact ⟨m, rfl, wm, h⟩
        · rw [isMsg_not h4] at h
          have e : PyData.eqv (.int (xs.length : Int)) (.int 4) = false := by
            rw [eqv_int]
            exact decide_eq_false (by omega)
          rw [e]
          exact h
      | _ => exact h⟩).mono hk
theorem ok_with_mark (T : Tx K mg) {k : Nat} (hk : 1 ≤ k) : FnG P w K mg base CX0 k T.a_with_mark T.d_with_mark ["marks", "mark"] (spD ⟨K, P, w⟩ gWmB) :=
  (okB T.F_with_mark sc_with_mark (fun ds R h => by obtain ⟨_, _, rfl, _⟩ := h; rfl) fun cdv A gd outer s H E hr => ⟨_, (dss_one (ds_ret (de_callTy cd_tuple (by rfl) T.n_tuple bt_tuple (da_cons (de_callB (cd_sortK rfl hr) (by rfl) T.n_sorted bt_sorted (da_cons (de_callTy (cd_set rfl) (by rfl) T.n_set bt_set (da_cons (de_lst (da_star (dv 0) (da_cons (dv 1) da_nil))) da_nil)) da_nil)) da_nil)))), fun ds R h => by
      obtain ⟨ms, mk, rfl, hl, h⟩ := h
      simp only [dSeq, dNext, dBreak, dCont, dDrop, dRet, dRetN, dIfS, dSet, dB, dNotT, dAndT, dOrT, dNot, dAnd, dOr, dIf, dChain, dVar, dC, dOp, dUn, dNil, dCons, dCall, dTup, dLst, pyAll, dSl, dNo, dPart, dAsg, dPar, dDig, dMix, dPutD, dPutM, dM1, dFor, dItL, dItU, dItS, dItR1, dItR2, dItSc, dItZip, dLc, dYes, gdName, wipeD, asP, asB, asI, asS, asL, asU, sliceD, fCmp, fAdd, startD, fI, true_and, and_true, List.getD_cons_zero, List.getD_cons_succ, List.set_cons_zero, List.set_cons_succ, List.map_cons, List.map_nil, List.length_cons, List.length_nil, Nat.zero_add, Nat.reduceAdd, Nat.reduceSub, List.replicate, List.cons_append, List.nil_append, if_true, if_false, reduceIte, Bool.false_eq_true, Bool.not_true, Bool.not_false]
      have e : ms.map PyData.str ++ [PyData.str mk] = (ms ++ [mk]).map .str := by rw [List.map_append]; rfl
      refine ⟨_, .inl rfl, pyAllApp ⟨by rw [List.length_append, List.length_map]; exact sz (Nat.add_le_add_right hl 1), by rw [e]; exact nP_strs _, _, (ms ++ [mk]).map Sum.inr, rfl, ?_, by rw [List.length_map, List.length_append]; exact Nat.lt_of_le_of_lt (Nat.add_le_add_right (Nat.add_le_add_right hl 1) 1) (by decide), ms ++ [mk], rfl, fun zs hr2 hm hz => ⟨_, .inl rfl, by rw [rs_of hr2 hm]; exact h⟩⟩⟩
      show ms.map .str ++ [.str mk] = List.map keyD ((ms ++ [mk]).map Sum.inr)
      rw [List.map_map, List.map_append]
      rfl⟩).mono hk
theorem ok_is_single (T : Tx K mg) {k : Nat} (hk : 4 ≤ k) : FnG P w K mg base CX0 k T.a_is_single T.d_is_single ["word", "part"] (spD ⟨K, P, w⟩ gSing) :=
  (okB T.F_is_single sc_is_single (fun ds R h => by obtain ⟨_, _, rfl, _⟩ := h; rfl) fun cdv A gd outer s H E hr => ⟨_, (dss_cons (ds_if (dt_cmp (od_eqW hr.units) (dv 0) de_str) (dss_one (ds_ret (de_and (de_call (ok_is_name_tuple T (k := 3) (by decide)) gd hr (by rfl) T.m_is_name_tuple T.F_is_name_tuple.kp T.b_is_name_tuple pass0 (da_cons (dv 1) da_nil)) (de_one (de_cmp od_gt (de_callB cd_len (by rfl) T.n_len bt_len (da_cons (dv 1) da_nil)) de_int))))) dss_nil)
    (dss_cons (ds_if (dt_cmp (od_eqW hr.units) (dv 0) de_str) (dss_one (ds_ret (de_call (ok_is_name T (k := 3) (by decide)) gd hr (by rfl) T.m_is_name T.F_is_name.kp T.b_is_name pass0 (da_cons (dv 1) da_nil)))) dss_nil)
    (dss_cons (ds_if (dt_cmp (od_eqW hr.units) (dv 0) de_str) (dss_one (ds_ret (de_and (de_call (ok_is_subject T (k := 3) (by decide)) gd hr (by rfl) T.m_is_subject T.F_is_subject.kp T.b_is_subject pass0 (da_cons (dv 1) da_nil)) (de_one (de_cmp od_le (de_callB cd_len (by rfl) T.n_len bt_len (da_cons (dv 1) da_nil)) (de_glob (d := .p (.int 8)) (v := .int 8) (by rfl) T.c_MOST_CHARACTERS_IS ⟨_, rfl⟩ (fun _ => rfl))))))) dss_nil)
    (dss_one (ds_ret (de_and (de_cmp (od_inW (u66 hr)) (dv 0) (de_globT (by rfl) T.c_TEXT_WORDS_conditions T.q_TEXT_WORDS_conditions)) (de_one (de_call (ok_is_text T (k := 3) (by decide)) gd hr (by rfl) T.m_is_text T.F_is_text.kp T.b_is_text pass0 (da_cons (dv 1) da_nil))))))))), fun ds R h => by
      obtain ⟨x, p, rfl, hw, h⟩ := h
      simp only [dSeq, dNext, dBreak, dCont, dDrop, dRet, dRetN, dIfS, dSet, dB, dNotT, dAndT, dOrT, dNot, dAnd, dOr, dIf, dChain, dVar, dC, dOp, dUn, dNil, dCons, dCall, dTup, dLst, pyAll, dSl, dNo, dPart, dAsg, dPar, dDig, dMix, dPutD, dPutM, dM1, dFor, dItL, dItU, dItS, dItR1, dItR2, dItSc, dItZip, dLc, dYes, gdName, wipeD, asP, asB, asI, asS, asL, asU, sliceD, fCmp, fAdd, startD, fI, true_and, and_true, List.getD_cons_zero, List.getD_cons_succ, List.set_cons_zero, List.set_cons_succ, List.map_cons, List.map_nil, List.length_cons, List.length_nil, Nat.zero_add, Nat.reduceAdd, Nat.reduceSub, List.replicate, List.cons_append, List.nil_append, if_true, if_false, reduceIte, Bool.false_eq_true, Bool.not_true, Bool.not_false]
      unfold isSing at h
      refine ite2 (fun q => ?_) fun q => ?_
      · rw [if_pos q] at h
        refine ⟨p, rfl, hw, ?_⟩
        cases q1 : isNT p with
        | false => rw [q1] at h; exact h
        | true =>
          rw [q1] at h
          simp only [dSeq, dNext, dBreak, dCont, dDrop, dRet, dRetN, dIfS, dSet, dB, dNotT, dAndT, dOrT, dNot, dAnd, dOr, dIf, dChain, dVar, dC, dOp, dUn, dNil, dCons, dCall, dTup, dLst, pyAll, dSl, dNo, dPart, dAsg, dPar, dDig, dMix, dPutD, dPutM, dM1, dFor, dItL, dItU, dItS, dItR1, dItR2, dItSc, dItZip, dLc, dYes, gdName, wipeD, asP, asB, asI, asS, asL, asU, sliceD, fCmp, fAdd, startD, fI, true_and, and_true, List.getD_cons_zero, List.getD_cons_succ, List.set_cons_zero, List.set_cons_succ, List.map_cons, List.map_nil, List.length_cons, List.length_nil, Nat.zero_add, Nat.reduceAdd, Nat.reduceSub, List.replicate, List.cons_append, List.nil_append, if_true, if_false, reduceIte, Bool.false_eq_true, Bool.not_true, Bool.not_false]
          cases p with
          | tuple xs =>
            have hl : xs.length ≤ sizeLine := big (Nat.le_trans (wt_len xs) (wt_tup hw))
            refine len_tup hl ?_
            simp only [dSeq, dNext, dBreak, dCont, dDrop, dRet, dRetN, dIfS, dSet, dB, dNotT, dAndT, dOrT, dNot, dAnd, dOr, dIf, dChain, dVar, dC, dOp, dUn, dNil, dCons, dCall, dTup, dLst, pyAll, dSl, dNo, dPart, dAsg, dPar, dDig, dMix, dPutD, dPutM, dM1, dFor, dItL, dItU, dItS, dItR1, dItR2, dItSc, dItZip, dLc, dYes, gdName, wipeD, asP, asB, asI, asS, asL, asU, sliceD, fCmp, fAdd, startD, fI, true_and, and_true, List.getD_cons_zero, List.getD_cons_succ, List.set_cons_zero, List.set_cons_succ, List.map_cons, List.map_nil, List.length_cons, List.length_nil, Nat.zero_add, Nat.reduceAdd, Nat.reduceSub, List.replicate, List.cons_append, List.nil_append, if_true, if_false, reduceIte, Bool.false_eq_true, Bool.not_true, Bool.not_false]
            have e : decide ((0 : Int) < (xs.length : Int)) = neU (.tuple xs) := by
              simp only [neU]
              cases xs with
              | nil => rfl
              | cons a b => exact decide_eq_true (by rw [List.length_cons]; omega)
            rw [e]
            exact h
          | _ => exact Bool.noConfusion q1
      · rw [if_neg q] at h
        refine ite2 (fun q => ?_) fun q => ?_
        · rw [if_pos q] at h
          exact ⟨p, rfl, hw, h⟩
        · rw [if_neg q] at h
          refine ite2 (fun q => ?_) fun q => ?_
          · rw [if_pos q] at h
            refine ⟨p, rfl, hw, ?_⟩
            cases q1 : isSubj p with
            | false => rw [q1] at h; exact h
            | true =>
              rw [q1] at h
              obtain ⟨y, rfl⟩ := subj_str q1
              have hx := wt_str hw
              simp only [dSeq, dNext, dBreak, dCont, dDrop, dRet, dRetN, dIfS, dSet, dB, dNotT, dAndT, dOrT, dNot, dAnd, dOr, dIf, dChain, dVar, dC, dOp, dUn, dNil, dCons, dCall, dTup, dLst, pyAll, dSl, dNo, dPart, dAsg, dPar, dDig, dMix, dPutD, dPutM, dM1, dFor, dItL, dItU, dItS, dItR1, dItR2, dItSc, dItZip, dLc, dYes, gdName, wipeD, asP, asB, asI, asS, asL, asU, sliceD, fCmp, fAdd, startD, fI, true_and, and_true, List.getD_cons_zero, List.getD_cons_succ, List.set_cons_zero, List.set_cons_succ, List.map_cons, List.map_nil, List.length_cons, List.length_nil, Nat.zero_add, Nat.reduceAdd, Nat.reduceSub, List.replicate, List.cons_append, List.nil_append, if_true, if_false, reduceIte, Bool.false_eq_true, Bool.not_true, Bool.not_false]
              refine len_str (big hx) ?_
              simp only [dSeq, dNext, dBreak, dCont, dDrop, dRet, dRetN, dIfS, dSet, dB, dNotT, dAndT, dOrT, dNot, dAnd, dOr, dIf, dChain, dVar, dC, dOp, dUn, dNil, dCons, dCall, dTup, dLst, pyAll, dSl, dNo, dPart, dAsg, dPar, dDig, dMix, dPutD, dPutM, dM1, dFor, dItL, dItU, dItS, dItR1, dItR2, dItSc, dItZip, dLc, dYes, gdName, wipeD, asP, asB, asI, asS, asL, asU, sliceD, fCmp, fAdd, startD, fI, true_and, and_true, List.getD_cons_zero, List.getD_cons_succ, List.set_cons_zero, List.set_cons_succ, List.map_cons, List.map_nil, List.length_cons, List.length_nil, Nat.zero_add, Nat.reduceAdd, Nat.reduceSub, List.replicate, List.cons_append, List.nil_append, if_true, if_false, reduceIte, Bool.false_eq_true, Bool.not_true, Bool.not_false]
              have e2 : decide ((y.length : Int) ≤ (8 : Int)) = decide (y.length ≤ 8) := by
                rw [decide_eq_decide]
                omega
              rw [e2]
              exact h
          · rw [if_neg q] at h
            refine ⟨["contains", "begins", "ends"], rfl, ?_⟩
            cases q1 : inW x ["contains", "begins", "ends"] with
            | false => rw [q1] at h; exact h
            | true =>
              rw [q1] at h
              exact ⟨p, rfl, hw, h⟩⟩).mono hk
-- above
theorem ok_both (T : Tx K mg) (n : Nat) : (∀ {k : Nat}, 2 * n + 5 ≤ k → FnG P w K mg base CX0 k T.a_is_condition_within T.d_is_condition_within ["value", "deep"] (spD ⟨K, P, w⟩ (gCW n))) ∧ (∀ {k : Nat}, 2 * n + 6 ≤ k → FnG P w K mg base CX0 k T.a_are_conditions_within T.d_are_conditions_within ["value", "deep"] (spD ⟨K, P, w⟩ (gAC n))) := by
  have second : ∀ n, FnG P w K mg base CX0 (2 * n + 5) T.a_is_condition_within T.d_is_condition_within ["value", "deep"] (spD ⟨K, P, w⟩ (gCW n)) → ∀ {k : Nat}, 2 * n + 6 ≤ k → FnG P w K mg base CX0 k T.a_are_conditions_within T.d_are_conditions_within ["value", "deep"] (spD ⟨K, P, w⟩ (gAC n)) := fun n F1 k hk =>
    (okB (k := 2 * n + 5) T.F_are_conditions_within sc_are_conditions_within (fun ds R h => by obtain ⟨_, rfl, _⟩ := h; rfl) fun cdv A gd outer s H E hr => ⟨_, (dss_cons (ds_if (dw_or (dt_not (dt_val (de_callB cd_isi (by rfl) T.n_isinstance bt_isinstance (da_cons (dv 0) (da_cons (de_bltn (v := .ty "tuple") (u := .type "tuple") (by rfl) T.n_tuple bt_tuple rfl) da_nil))))) (dw_or1 (dt_cmp od_gt (de_callB cd_len (by rfl) T.n_len bt_len (da_cons (dv 0) da_nil)) (de_glob (d := .p (.int 8)) (v := .int 8) (by rfl) T.c_MOST_CONDITIONS ⟨_, rfl⟩ (fun _ => rfl))))).pt (dss_one (ds_ret de_bl)) dss_nil)
    (dss_one (ds_ret (de_callB (cd_all rfl) (by rfl) T.n_all bt_all (da_cons (de_lc (own := [("inner", 2)]) rfl sc_are_conditions_within.nd (di_tup (dv 0)) (blkOk_by (N := ["value", "deep", "inner"]) (own := [("inner", 2)]) (sc := defScope s_are_conditions_within) (by decide +kernel)) (fun _ _ _ _ _ => (dg_name (i := 2) (by decide) sc_are_conditions_within.nd rfl (by first | exact Or.inl rfl | exact Or.inr rfl))) (fun _ _ _ _ _ => dts_nil) (fun _ _ _ _ _ => (de_call F1 gd hr (by rfl) T.m_is_condition_within T.F_is_condition_within.kp T.b_is_condition_within pass0 (da_cons (dv 2) (da_cons (dv 1) da_nil))))) da_nil))))), fun ds R h => by
      obtain ⟨v, rfl, hw, h⟩ := h
      simp only [dSeq, dNext, dBreak, dCont, dDrop, dRet, dRetN, dIfS, dSet, dB, dNotT, dAndT, dOrT, dNot, dAnd, dOr, dIf, dChain, dVar, dC, dOp, dUn, dNil, dCons, dCall, dTup, dLst, pyAll, dSl, dNo, dPart, dAsg, dPar, dDig, dMix, dPutD, dPutM, dM1, dFor, dItL, dItU, dItS, dItR1, dItR2, dItSc, dItZip, dLc, dYes, gdName, wipeD, asP, asB, asI, asS, asL, asU, sliceD, fCmp, fAdd, startD, fI, true_and, and_true, List.getD_cons_zero, List.getD_cons_succ, List.set_cons_zero, List.set_cons_succ, List.map_cons, List.map_nil, List.length_cons, List.length_nil, Nat.zero_add, Nat.reduceAdd, Nat.reduceSub, List.replicate, List.cons_append, List.nil_append, if_true, if_false, reduceIte, Bool.false_eq_true, Bool.not_true, Bool.not_false]
      refine isi_tuple ?_
      cases v with
      | tuple xs =>
        simp only [isT, isAC] at h ⊢
        have hl : xs.length ≤ sizeLine := big (Nat.le_trans (wt_len xs) (wt_tup hw))
        simp only [dSeq, dNext, dBreak, dCont, dDrop, dRet, dRetN, dIfS, dSet, dB, dNotT, dAndT, dOrT, dNot, dAnd, dOr, dIf, dChain, dVar, dC, dOp, dUn, dNil, dCons, dCall, dTup, dLst, pyAll, dSl, dNo, dPart, dAsg, dPar, dDig, dMix, dPutD, dPutM, dM1, dFor, dItL, dItU, dItS, dItR1, dItR2, dItSc, dItZip, dLc, dYes, gdName, wipeD, asP, asB, asI, asS, asL, asU, sliceD, fCmp, fAdd, startD, fI, true_and, and_true, List.getD_cons_zero, List.getD_cons_succ, List.set_cons_zero, List.set_cons_succ, List.map_cons, List.map_nil, List.length_cons, List.length_nil, Nat.zero_add, Nat.reduceAdd, Nat.reduceSub, List.replicate, List.cons_append, List.nil_append, if_true, if_false, reduceIte, Bool.false_eq_true, Bool.not_true, Bool.not_false]
        refine len_tup hl ?_
        simp only [dSeq, dNext, dBreak, dCont, dDrop, dRet, dRetN, dIfS, dSet, dB, dNotT, dAndT, dOrT, dNot, dAnd, dOr, dIf, dChain, dVar, dC, dOp, dUn, dNil, dCons, dCall, dTup, dLst, pyAll, dSl, dNo, dPart, dAsg, dPar, dDig, dMix, dPutD, dPutM, dM1, dFor, dItL, dItU, dItS, dItR1, dItR2, dItSc, dItZip, dLc, dYes, gdName, wipeD, asP, asB, asI, asS, asL, asU, sliceD, fCmp, fAdd, startD, fI, true_and, and_true, List.getD_cons_zero, List.getD_cons_succ, List.set_cons_zero, List.set_cons_succ, List.map_cons, List.map_nil, List.length_cons, List.length_nil, Nat.zero_add, Nat.reduceAdd, Nat.reduceSub, List.replicate, List.cons_append, List.nil_append, if_true, if_false, reduceIte, Bool.false_eq_true, Bool.not_true, Bool.not_false]
        by_cases h8 : xs.length ≤ 8
        · rw [decide_eq_false (show ¬ (8 : Int) < (xs.length : Int) by omega)]
          rw [decide_eq_true h8] at h
          refine ⟨hl, lc_map (fun d => .bool (isCW n d)) (fun d hd K1 hk => ?_) (all_map_of h)⟩
          simp only [dSeq, dNext, dBreak, dCont, dDrop, dRet, dRetN, dIfS, dSet, dB, dNotT, dAndT, dOrT, dNot, dAnd, dOr, dIf, dChain, dVar, dC, dOp, dUn, dNil, dCons, dCall, dTup, dLst, pyAll, dSl, dNo, dPart, dAsg, dPar, dDig, dMix, dPutD, dPutM, dM1, dFor, dItL, dItU, dItS, dItR1, dItR2, dItSc, dItZip, dLc, dYes, gdName, wipeD, asP, asB, asI, asS, asL, asU, sliceD, fCmp, fAdd, startD, fI, true_and, and_true, List.getD_cons_zero, List.getD_cons_succ, List.set_cons_zero, List.set_cons_succ, List.map_cons, List.map_nil, List.length_cons, List.length_nil, Nat.zero_add, Nat.reduceAdd, Nat.reduceSub, List.replicate, List.cons_append, List.nil_append, if_true, if_false, reduceIte, Bool.false_eq_true, Bool.not_true, Bool.not_false]
          exact ⟨d, rfl, wt_in hw hd, hk⟩
        · rw [decide_eq_true (show (8 : Int) < (xs.length : Int) by omega)]
          rw [decide_eq_false h8] at h
          exact h
      | _ => exact h⟩).mono (by omega)
  induction n with
  | zero =>
    have first : ∀ {k : Nat}, 5 ≤ k → FnG P w K mg base CX0 k T.a_is_condition_within T.d_is_condition_within ["value", "deep"] (spD ⟨K, P, w⟩ (gCW 0)) := fun {k} hk =>
      have F0 : FnG P w K mg base CX0 4 T.a_is_condition_within T.d_is_condition_within ["value", "deep"] (spD ⟨K, P, w⟩ fNoG) := fnNo
      have F2 : FnG P w K mg base CX0 4 T.a_are_conditions_within T.d_are_conditions_within ["value", "deep"] (spD ⟨K, P, w⟩ fNoG) := fnNo
      (okB (k := 4) T.F_is_condition_within sc_is_condition_within (fun ds R h => by obtain ⟨_, rfl, _⟩ := h; rfl) fun cdv A gd outer s H E hr => ⟨_, (dss_cons (ds_if (dw_or (dt_cmp (od_eqQ hr.units) (dv 1) de_int) (dw_or (dt_not (dt_val (de_callB cd_isi (by rfl) T.n_isinstance bt_isinstance (da_cons (dv 0) (da_cons (de_bltn (v := .ty "tuple") (u := .type "tuple") (by rfl) T.n_tuple bt_tuple rfl) da_nil))))) (dw_or1 (dt_cmp (od_neQ hr.units) (de_callB cd_len (by rfl) T.n_len bt_len (da_cons (dv 0) da_nil)) de_int)))).pt (dss_one (ds_ret de_bl)) dss_nil)
    (dss_cons (ds_asg (vs := [2, 3]) (dv 0) (dg_tup (n := 2) rfl (dgs_cons (dg_name (i := 2) (by decide) sc_is_condition_within.nd rfl (by first | exact Or.inl rfl | exact Or.inr rfl)) (dgs_cons (dg_name (i := 3) (by decide) sc_is_condition_within.nd rfl (by first | exact Or.inl rfl | exact Or.inr rfl)) dgs_nil))))
    (dss_cons (ds_if (dt_cmp (od_eqW hr.units) (dv 2) de_str) (dss_one (ds_ret (de_call F0 gd hr (by rfl) T.m_is_condition_within T.F_is_condition_within.kp T.b_is_condition_within pass0 (da_cons (dv 3) (da_cons (de_op od_sub (dv 1) de_int) da_nil))))) dss_nil)
    (dss_cons (ds_if (dt_cmp (od_inW (u66 hr)) (dv 2) (de_globT (by rfl) T.c_GROUP_WORDS T.q_GROUP_WORDS)) (dss_one (ds_ret (de_call F2 gd hr (by rfl) T.m_are_conditions_within T.F_are_conditions_within.kp T.b_are_conditions_within pass0 (da_cons (dv 3) (da_cons (de_op od_sub (dv 1) de_int) da_nil))))) dss_nil)
    (dss_one (ds_ret (de_call (ok_is_single T (k := 4) (by omega)) gd hr (by rfl) T.m_is_single T.F_is_single.kp T.b_is_single pass0 (da_cons (dv 2) (da_cons (dv 3) da_nil))))))))), fun ds R h => by
      obtain ⟨v, rfl, hw, h⟩ := h
      simp only [dSeq, dNext, dBreak, dCont, dDrop, dRet, dRetN, dIfS, dSet, dB, dNotT, dAndT, dOrT, dNot, dAnd, dOr, dIf, dChain, dVar, dC, dOp, dUn, dNil, dCons, dCall, dTup, dLst, pyAll, dSl, dNo, dPart, dAsg, dPar, dDig, dMix, dPutD, dPutM, dM1, dFor, dItL, dItU, dItS, dItR1, dItR2, dItSc, dItZip, dLc, dYes, gdName, wipeD, asP, asB, asI, asS, asL, asU, sliceD, fCmp, fAdd, startD, fI, true_and, and_true, List.getD_cons_zero, List.getD_cons_succ, List.set_cons_zero, List.set_cons_succ, List.map_cons, List.map_nil, List.length_cons, List.length_nil, Nat.zero_add, Nat.reduceAdd, Nat.reduceSub, List.replicate, List.cons_append, List.nil_append, if_true, if_false, reduceIte, Bool.false_eq_true, Bool.not_true, Bool.not_false]
      exact ⟨rfl, rfl, Nat.zero_le _, h⟩⟩).mono hk
    exact ⟨fun hk => first hk, second 0 (first (Nat.le_refl _))⟩
  | succ n ih =>
    obtain ⟨ih1, ih2⟩ := ih
    have F0 := ih1 (k := 2 * n + 6) (by omega)
    have F2 := ih2 (k := 2 * n + 6) (by omega)
    have first : ∀ {k : Nat}, 2 * (n + 1) + 5 ≤ k → FnG P w K mg base CX0 k T.a_is_condition_within T.d_is_condition_within ["value", "deep"] (spD ⟨K, P, w⟩ (gCW (n + 1))) := fun {k} hk =>
      (okB (k := 2 * n + 6) T.F_is_condition_within sc_is_condition_within (fun ds R h => by obtain ⟨_, rfl, _⟩ := h; rfl) fun cdv A gd outer s H E hr => ⟨_, (dss_cons (ds_if (dw_or (dt_cmp (od_eqQ hr.units) (dv 1) de_int) (dw_or (dt_not (dt_val (de_callB cd_isi (by rfl) T.n_isinstance bt_isinstance (da_cons (dv 0) (da_cons (de_bltn (v := .ty "tuple") (u := .type "tuple") (by rfl) T.n_tuple bt_tuple rfl) da_nil))))) (dw_or1 (dt_cmp (od_neQ hr.units) (de_callB cd_len (by rfl) T.n_len bt_len (da_cons (dv 0) da_nil)) de_int)))).pt (dss_one (ds_ret de_bl)) dss_nil)
    (dss_cons (ds_asg (vs := [2, 3]) (dv 0) (dg_tup (n := 2) rfl (dgs_cons (dg_name (i := 2) (by decide) sc_is_condition_within.nd rfl (by first | exact Or.inl rfl | exact Or.inr rfl)) (dgs_cons (dg_name (i := 3) (by decide) sc_is_condition_within.nd rfl (by first | exact Or.inl rfl | exact Or.inr rfl)) dgs_nil))))
    (dss_cons (ds_if (dt_cmp (od_eqW hr.units) (dv 2) de_str) (dss_one (ds_ret (de_call F0 gd hr (by rfl) T.m_is_condition_within T.F_is_condition_within.kp T.b_is_condition_within pass0 (da_cons (dv 3) (da_cons (de_op od_sub (dv 1) de_int) da_nil))))) dss_nil)
    (dss_cons (ds_if (dt_cmp (od_inW (u66 hr)) (dv 2) (de_globT (by rfl) T.c_GROUP_WORDS T.q_GROUP_WORDS)) (dss_one (ds_ret (de_call F2 gd hr (by rfl) T.m_are_conditions_within T.F_are_conditions_within.kp T.b_are_conditions_within pass0 (da_cons (dv 3) (da_cons (de_op od_sub (dv 1) de_int) da_nil))))) dss_nil)
    (dss_one (ds_ret (de_call (ok_is_single T (k := 2 * n + 6) (by omega)) gd hr (by rfl) T.m_is_single T.F_is_single.kp T.b_is_single pass0 (da_cons (dv 2) (da_cons (dv 3) da_nil))))))))), fun ds R h => by
      obtain ⟨v, rfl, hw, h⟩ := h
      simp only [dSeq, dNext, dBreak, dCont, dDrop, dRet, dRetN, dIfS, dSet, dB, dNotT, dAndT, dOrT, dNot, dAnd, dOr, dIf, dChain, dVar, dC, dOp, dUn, dNil, dCons, dCall, dTup, dLst, pyAll, dSl, dNo, dPart, dAsg, dPar, dDig, dMix, dPutD, dPutM, dM1, dFor, dItL, dItU, dItS, dItR1, dItR2, dItSc, dItZip, dLc, dYes, gdName, wipeD, asP, asB, asI, asS, asL, asU, sliceD, fCmp, fAdd, startD, fI, true_and, and_true, List.getD_cons_zero, List.getD_cons_succ, List.set_cons_zero, List.set_cons_succ, List.map_cons, List.map_nil, List.length_cons, List.length_nil, Nat.zero_add, Nat.reduceAdd, Nat.reduceSub, List.replicate, List.cons_append, List.nil_append, if_true, if_false, reduceIte, Bool.false_eq_true, Bool.not_true, Bool.not_false]
      refine ⟨rfl, rfl, Nat.zero_le _, ?_⟩
      simp only [eqv_int]
      rw [decide_eq_false (show ¬ ((n + 1 : Nat) : Int) = 0 by omega)]
      simp only [Bool.false_eq_true, if_false]
      refine isi_tuple ?_
      have e1 : (((n + 1 : Nat) : Int) - 1) = (n : Int) := by omega
      cases v with
      | tuple xs =>
        simp only [isT] at h ⊢
        have hl : xs.length ≤ sizeLine := big (Nat.le_trans (wt_len xs) (wt_tup hw))
        simp only [dSeq, dNext, dBreak, dCont, dDrop, dRet, dRetN, dIfS, dSet, dB, dNotT, dAndT, dOrT, dNot, dAnd, dOr, dIf, dChain, dVar, dC, dOp, dUn, dNil, dCons, dCall, dTup, dLst, pyAll, dSl, dNo, dPart, dAsg, dPar, dDig, dMix, dPutD, dPutM, dM1, dFor, dItL, dItU, dItS, dItR1, dItR2, dItSc, dItZip, dLc, dYes, gdName, wipeD, asP, asB, asI, asS, asL, asU, sliceD, fCmp, fAdd, startD, fI, true_and, and_true, List.getD_cons_zero, List.getD_cons_succ, List.set_cons_zero, List.set_cons_succ, List.map_cons, List.map_nil, List.length_cons, List.length_nil, Nat.zero_add, Nat.reduceAdd, Nat.reduceSub, List.replicate, List.cons_append, List.nil_append, if_true, if_false, reduceIte, Bool.false_eq_true, Bool.not_true, Bool.not_false]
        refine len_tup hl ⟨rfl, rfl, Nat.zero_le _, ?_⟩
        by_cases h2 : xs.length = 2
        · match xs, h2 with
          | [x, p], _ =>
            have wp : Wt p := wt_in hw (by simp)
            refine ⟨rfl, _, _, rfl, _, _, rfl, rfl, ?_⟩
            simp only [dSeq, dNext, dBreak, dCont, dDrop, dRet, dRetN, dIfS, dSet, dB, dNotT, dAndT, dOrT, dNot, dAnd, dOr, dIf, dChain, dVar, dC, dOp, dUn, dNil, dCons, dCall, dTup, dLst, pyAll, dSl, dNo, dPart, dAsg, dPar, dDig, dMix, dPutD, dPutM, dM1, dFor, dItL, dItU, dItS, dItR1, dItR2, dItSc, dItZip, dLc, dYes, gdName, wipeD, asP, asB, asI, asS, asL, asU, sliceD, fCmp, fAdd, startD, fI, true_and, and_true, List.getD_cons_zero, List.getD_cons_succ, List.set_cons_zero, List.set_cons_succ, List.map_cons, List.map_nil, List.length_cons, List.length_nil, Nat.zero_add, Nat.reduceAdd, Nat.reduceSub, List.replicate, List.cons_append, List.nil_append, if_true, if_false, reduceIte, Bool.false_eq_true, Bool.not_true, Bool.not_false]
            unfold isCW at h
            refine ite2 (fun q => ?_) fun q => ?_
            · rw [if_pos q] at h
              exact ⟨p, by rw [e1], wp, h⟩
            · rw [if_neg q] at h
              refine ⟨["all", "any"], rfl, ?_⟩
              simp only [dSeq, dNext, dBreak, dCont, dDrop, dRet, dRetN, dIfS, dSet, dB, dNotT, dAndT, dOrT, dNot, dAnd, dOr, dIf, dChain, dVar, dC, dOp, dUn, dNil, dCons, dCall, dTup, dLst, pyAll, dSl, dNo, dPart, dAsg, dPar, dDig, dMix, dPutD, dPutM, dM1, dFor, dItL, dItU, dItS, dItR1, dItR2, dItSc, dItZip, dLc, dYes, gdName, wipeD, asP, asB, asI, asS, asL, asU, sliceD, fCmp, fAdd, startD, fI, true_and, and_true, List.getD_cons_zero, List.getD_cons_succ, List.set_cons_zero, List.set_cons_succ, List.map_cons, List.map_nil, List.length_cons, List.length_nil, Nat.zero_add, Nat.reduceAdd, Nat.reduceSub, List.replicate, List.cons_append, List.nil_append, if_true, if_false, reduceIte, Bool.false_eq_true, Bool.not_true, Bool.not_false]
              refine ite2 (fun q => ?_) fun q => ?_
              · have q' : inW x ["all", "any"] = true := q
                rw [if_pos q'] at h
                exact ⟨p, by rw [e1], wp, h⟩
              · have q' : ¬ inW x ["all", "any"] = true := q
                rw [if_neg q'] at h
                exact ⟨x, p, rfl, wp, h⟩
        · rw [isCW_not h2] at h
          have e : PyData.eqv (.int (xs.length : Int)) (.int 2) = false := by
            rw [eqv_int]
            exact decide_eq_false (by omega)
          rw [e]
          exact h
      | _ => exact h⟩).mono (by omega)
    exact ⟨fun hk => first hk, second (n + 1) (first (Nat.le_refl _))⟩
theorem ok_is_condition (T : Tx K mg) {k : Nat} (hk : 14 ≤ k) : FnG P w K mg base CX0 k T.a_is_condition T.d_is_condition ["value"] (spD ⟨K, P, w⟩ (gP (isCW 4))) :=
  (okB T.F_is_condition sc_is_condition (fun ds R h => by obtain ⟨_, rfl, _⟩ := h; rfl) fun cdv A gd outer s H E hr => ⟨_, (dss_one (ds_ret (de_call ((ok_both T 4).1 (k := 13) (by decide)) gd hr (by rfl) T.m_is_condition_within T.F_is_condition_within.kp T.b_is_condition_within pass0 (da_cons (dv 0) (da_cons (de_glob (d := .p (.int 4)) (v := .int 4) (by rfl) T.c_MOST_DEEP ⟨_, rfl⟩ (fun _ => rfl)) da_nil))))), fun ds R h => by
      obtain ⟨v, rfl, hw, h⟩ := h
      simp only [dSeq, dNext, dBreak, dCont, dDrop, dRet, dRetN, dIfS, dSet, dB, dNotT, dAndT, dOrT, dNot, dAnd, dOr, dIf, dChain, dVar, dC, dOp, dUn, dNil, dCons, dCall, dTup, dLst, pyAll, dSl, dNo, dPart, dAsg, dPar, dDig, dMix, dPutD, dPutM, dM1, dFor, dItL, dItU, dItS, dItR1, dItR2, dItSc, dItZip, dLc, dYes, gdName, wipeD, asP, asB, asI, asS, asL, asU, sliceD, fCmp, fAdd, startD, fI, true_and, and_true, List.getD_cons_zero, List.getD_cons_succ, List.set_cons_zero, List.set_cons_succ, List.map_cons, List.map_nil, List.length_cons, List.length_nil, Nat.zero_add, Nat.reduceAdd, Nat.reduceSub, List.replicate, List.cons_append, List.nil_append, if_true, if_false, reduceIte, Bool.false_eq_true, Bool.not_true, Bool.not_false]
      exact ⟨v, rfl, hw, h⟩⟩).mono hk
theorem ok_subject_passes (T : Tx K mg) {k : Nat} (hk : 1 ≤ k) : FnG P w K mg base CX0 k T.a_subject_passes T.d_subject_passes ["word", "text", "subject"] (spD ⟨K, P, w⟩ gPas) :=
  (okB T.F_subject_passes sc_subject_passes (fun ds R h => by obtain ⟨_, _, _, rfl, _⟩ := h; rfl) fun cdv A gd outer s H E hr => ⟨_, (dss_cons (ds_if (dt_cmp (od_eqW hr.units) (dv 0) de_str) (dss_one (ds_ret (de_cmp od_inS (dv 1) (dv 2)))) dss_nil)
    (dss_cons (ds_if (dt_cmp (od_eqW hr.units) (dv 0) de_str) (dss_one (ds_ret (de_startswith (dv 2) (dv 1)))) dss_nil)
    (dss_cons (ds_if (dt_cmp (od_eqW hr.units) (dv 0) de_str) (dss_one (ds_ret (de_endswith (dv 2) (dv 1)))) dss_nil)
    (dss_one (ds_ret (de_cmp (od_eqQ hr.units) (dv 2) (dv 1))))))), fun ds R h => by
      obtain ⟨w, t, u, rfl, ht, hu, h⟩ := h
      simp only [dSeq, dNext, dBreak, dCont, dDrop, dRet, dRetN, dIfS, dSet, dB, dNotT, dAndT, dOrT, dNot, dAnd, dOr, dIf, dChain, dVar, dC, dOp, dUn, dNil, dCons, dCall, dTup, dLst, pyAll, dSl, dNo, dPart, dAsg, dPar, dDig, dMix, dPutD, dPutM, dM1, dFor, dItL, dItU, dItS, dItR1, dItR2, dItSc, dItZip, dLc, dYes, gdName, wipeD, asP, asB, asI, asS, asL, asU, sliceD, fCmp, fAdd, startD, fI, true_and, and_true, List.getD_cons_zero, List.getD_cons_succ, List.set_cons_zero, List.set_cons_succ, List.map_cons, List.map_nil, List.length_cons, List.length_nil, Nat.zero_add, Nat.reduceAdd, Nat.reduceSub, List.replicate, List.cons_append, List.nil_append, if_true, if_false, reduceIte, Bool.false_eq_true, Bool.not_true, Bool.not_false]
      unfold pasB at h
      refine ite2 (fun q => ?_) fun q => ?_
      · rw [if_pos q] at h; exact h
      rw [if_neg q] at h
      refine ite2 (fun q => ?_) fun q => ?_
      · rw [if_pos q] at h; exact h
      rw [if_neg q] at h
      refine ite2 (fun q => ?_) fun q => ?_
      · rw [if_pos q] at h; exact h
      rw [if_neg q] at h
      refine ⟨rfl, rfl, Nat.zero_le _, ?_⟩
      show R (.p (.bool (PyData.eqv (.str u) (.str t))))
      rw [eqv_ss]
      exact h⟩).mono hk
theorem ok_single_holds (T : Tx K mg) {k : Nat} (hk : 2 ≤ k) : FnG P w K mg base CX0 k T.a_single_holds T.d_single_holds ["word", "part", "message"] (spD ⟨K, P, w⟩ gSgl) :=
  (okB T.F_single_holds sc_single_holds (fun ds R h => by obtain ⟨_, _, _, _, _, rfl, _⟩ := h; rfl) fun cdv A gd outer s H E hr => ⟨_, (dss_cons (ds_asg (vs := [3, 4, 5, 6]) (dv 2) (dg_tup (n := 4) rfl (dgs_cons (dg_name (i := 3) (by decide) sc_single_holds.nd rfl (by first | exact Or.inl rfl | exact Or.inr rfl)) (dgs_cons (dg_name (i := 4) (by decide) sc_single_holds.nd rfl (by first | exact Or.inl rfl | exact Or.inr rfl)) (dgs_cons (dg_name (i := 5) (by decide) sc_single_holds.nd rfl (by first | exact Or.inl rfl | exact Or.inr rfl)) (dgs_cons (dg_name (i := 6) (by decide) sc_single_holds.nd rfl (by first | exact Or.inl rfl | exact Or.inr rfl)) dgs_nil))))))
    (dss_cons (ds_if (dt_cmp (od_eqW hr.units) (dv 0) de_str) (dss_one (ds_ret (de_cmp (od_inW (u66 hr)) (dv 3) (dv 1)))) dss_nil)
    (dss_cons (ds_if (dt_cmp (od_eqW hr.units) (dv 0) de_str) (dss_one (ds_ret (de_cmp (od_inW (u66 hr)) (dv 1) (dv 6)))) dss_nil)
    (dss_one (ds_ret (de_call (ok_subject_passes T (k := 1) (by decide)) gd hr (by rfl) T.m_subject_passes T.F_subject_passes.kp T.b_subject_passes pass0 (da_cons (dv 0) (da_cons (dv 1) (da_cons (dv 5) da_nil))))))))), fun ds R h => by
      obtain ⟨l, s, a, u, ms, rfl, ok, hu, h⟩ := h
      refine ⟨rfl, _, _, rfl, _, _, rfl, _, _, rfl, _, _, rfl, rfl, ?_⟩
      simp only [dSeq, dNext, dBreak, dCont, dDrop, dRet, dRetN, dIfS, dSet, dB, dNotT, dAndT, dOrT, dNot, dAnd, dOr, dIf, dChain, dVar, dC, dOp, dUn, dNil, dCons, dCall, dTup, dLst, pyAll, dSl, dNo, dPart, dAsg, dPar, dDig, dMix, dPutD, dPutM, dM1, dFor, dItL, dItU, dItS, dItR1, dItR2, dItSc, dItZip, dLc, dYes, gdName, wipeD, asP, asB, asI, asS, asL, asU, sliceD, fCmp, fAdd, startD, fI, true_and, and_true, List.getD_cons_zero, List.getD_cons_succ, List.set_cons_zero, List.set_cons_succ, List.map_cons, List.map_nil, List.length_cons, List.length_nil, Nat.zero_add, Nat.reduceAdd, Nat.reduceSub, List.replicate, List.cons_append, List.nil_append, if_true, if_false, reduceIte, Bool.false_eq_true, Bool.not_true, Bool.not_false]
      cases l with
      | frm ns => exact ⟨ns, rfl, h⟩
      | mrk m => exact ⟨ms, rfl, h⟩
      | txt w t =>
        obtain ⟨o0, o3⟩ := ok
        obtain ⟨o1, o2, _⟩ := txt_w o0
        refine ite2 (fun q => ?_) fun q => ?_
        · rw [show eqW (.str w) "from" = true from q] at o1; cases o1
        refine ite2 (fun q => ?_) fun q => ?_
        · rw [show eqW (.str w) "marked" = true from q] at o2; cases o2
        exact ⟨w, t, u, rfl, o3, hu, h⟩⟩).mono hk
theorem ok_holds (T : Tx K mg) (n : Nat) {k : Nat} (hk : n + 4 ≤ k) : FnG P w K mg base CX0 k T.a_holds T.d_holds ["condition", "message"] (spD ⟨K, P, w⟩ (gHold n)) := by
  induction n generalizing k with
  | zero => exact ⟨fun vs H Q E ⟨ds, R, P, dm, r, ⟨c, _, _, _, _, _, z, _⟩, k⟩ => z.elim, fun A gd o s H a us vs Q E r e b v ⟨ds, R, P, dm, r', ⟨c, _, _, _, _, _, z, _⟩, k⟩ => z.elim⟩
  | succ n ih =>
    have F0 := ih (k := n + 4) (Nat.le_refl _)
    exact (okB (k := n + 4) T.F_holds sc_holds (fun ds R h => by obtain ⟨_, _, _, _, _, rfl, _⟩ := h; rfl) fun cdv A gd outer s H E hr => ⟨_, (dss_cons (ds_asg (vs := [2, 3]) (dv 0) (dg_tup (n := 2) rfl (dgs_cons (dg_name (i := 2) (by decide) sc_holds.nd rfl (by first | exact Or.inl rfl | exact Or.inr rfl)) (dgs_cons (dg_name (i := 3) (by decide) sc_holds.nd rfl (by first | exact Or.inl rfl | exact Or.inr rfl)) dgs_nil))))
    (dss_cons (ds_if (dt_cmp (od_eqW hr.units) (dv 2) de_str) (dss_one (ds_ret (de_not (de_call F0 gd hr (by rfl) T.m_holds T.F_holds.kp T.b_holds pass0 (da_cons (dv 3) (da_cons (dv 1) da_nil)))))) dss_nil)
    (dss_cons (ds_if (dt_cmp (od_inW (u66 hr)) (dv 2) (de_globT (by rfl) T.c_GROUP_WORDS T.q_GROUP_WORDS)) (dss_cons (ds_for (vs := [4]) PassesOwn.never rfl (di_tup (dv 3)) (dg_name (i := 4) (by decide) sc_holds.nd rfl (by first | exact Or.inl rfl | exact Or.inr rfl)) (dss_one (ds_if (dt_cmp (od_neQ hr.units) (de_call F0 gd hr (by rfl) T.m_holds T.F_holds.kp T.b_holds pass0 (da_cons (dv 4) (da_cons (dv 1) da_nil))) (de_cmp (od_eqW hr.units) (dv 2) de_str)) (dss_one (ds_ret (de_cmp (od_eqW hr.units) (dv 2) de_str))) dss_nil)))
    (dss_one (ds_ret (de_cmp (od_eqW hr.units) (dv 2) de_str)))) dss_nil)
    (dss_one (ds_ret (de_call (ok_single_holds T (k := n + 4) (by omega)) gd hr (by rfl) T.m_single_holds T.F_single_holds.kp T.b_single_holds pass0 (da_cons (dv 2) (da_cons (dv 3) (da_cons (dv 1) da_nil))))))))), fun ds R h => by
      obtain ⟨c, s, a, u, ms, rfl, ok, hu, h⟩ := h
      cases c with
      | lf l =>
        have ok : l.ok := ok
        obtain ⟨n1, n2⟩ := lf_w ok
        simp only [Cnd.hold] at h
        simp only [Cnd.d]
        refine ⟨rfl, _, _, rfl, _, _, rfl, rfl, ?_⟩
        simp only [dSeq, dNext, dBreak, dCont, dDrop, dRet, dRetN, dIfS, dSet, dB, dNotT, dAndT, dOrT, dNot, dAnd, dOr, dIf, dChain, dVar, dC, dOp, dUn, dNil, dCons, dCall, dTup, dLst, pyAll, dSl, dNo, dPart, dAsg, dPar, dDig, dMix, dPutD, dPutM, dM1, dFor, dItL, dItU, dItS, dItR1, dItR2, dItSc, dItZip, dLc, dYes, gdName, wipeD, asP, asB, asI, asS, asL, asU, sliceD, fCmp, fAdd, startD, fI, true_and, and_true, List.getD_cons_zero, List.getD_cons_succ, List.set_cons_zero, List.set_cons_succ, List.map_cons, List.map_nil, List.length_cons, List.length_nil, Nat.zero_add, Nat.reduceAdd, Nat.reduceSub, List.replicate, List.cons_append, List.nil_append, if_true, if_false, reduceIte, Bool.false_eq_true, Bool.not_true, Bool.not_false]
        refine ite2 (fun q => ?_) fun q => ?_
        · rw [show eqW (.str l.w) "not" = true from q] at n1; cases n1
        refine ⟨["all", "any"], rfl, ?_⟩
        refine ite2 (fun q => ?_) fun q => ?_
        · rw [show inW (.str l.w) ["all", "any"] = true from q] at n2; cases n2
        exact ⟨l, s, a, u, ms, rfl, ok, hu, h⟩
      | nt c =>
        have ok : c.okn n := ok
        simp only [Cnd.hold] at h
        simp only [Cnd.d]
        refine ⟨rfl, _, _, rfl, _, _, rfl, rfl, ?_⟩
        simp only [dSeq, dNext, dBreak, dCont, dDrop, dRet, dRetN, dIfS, dSet, dB, dNotT, dAndT, dOrT, dNot, dAnd, dOr, dIf, dChain, dVar, dC, dOp, dUn, dNil, dCons, dCall, dTup, dLst, pyAll, dSl, dNo, dPart, dAsg, dPar, dDig, dMix, dPutD, dPutM, dM1, dFor, dItL, dItU, dItS, dItR1, dItR2, dItSc, dItZip, dLc, dYes, gdName, wipeD, asP, asB, asI, asS, asL, asU, sliceD, fCmp, fAdd, startD, fI, true_and, and_true, List.getD_cons_zero, List.getD_cons_succ, List.set_cons_zero, List.set_cons_succ, List.map_cons, List.map_nil, List.length_cons, List.length_nil, Nat.zero_add, Nat.reduceAdd, Nat.reduceSub, List.replicate, List.cons_append, List.nil_append, if_true, if_false, reduceIte, Bool.false_eq_true, Bool.not_true, Bool.not_false]
        have w0 : eqW (.str (Str.ofString "not")) (Str.ofString "not") = true := by decide +kernel
        have key : ∀ (K1 : DV → Prop), K1 (.p (.bool true)) → fEqW (.p (.str (Str.ofString "not"))) (.p (.str (Str.ofString "not"))) K1 := fun K1 z => by
          show K1 (.p (.bool (eqW (.str (Str.ofString "not")) (Str.ofString "not"))))
          rw [w0]
          exact z
        refine key _ ?_
        exact ⟨c, s, a, u, ms, rfl, ok, hu, h⟩
      | gr b cs =>
        have ok2 : ∀ c ∈ cs, c.okn n := (show cs.length ≤ 100 ∧ ∀ c ∈ cs, c.okn n from ok).2
        clear ok
        obtain ⟨w1, w2, w3, w4⟩ := grW_f b
        simp only [Cnd.hold] at h
        simp only [Cnd.d]
        refine ⟨rfl, _, _, rfl, _, _, rfl, rfl, ?_⟩
        simp only [dSeq, dNext, dBreak, dCont, dDrop, dRet, dRetN, dIfS, dSet, dB, dNotT, dAndT, dOrT, dNot, dAnd, dOr, dIf, dChain, dVar, dC, dOp, dUn, dNil, dCons, dCall, dTup, dLst, pyAll, dSl, dNo, dPart, dAsg, dPar, dDig, dMix, dPutD, dPutM, dM1, dFor, dItL, dItU, dItS, dItR1, dItR2, dItSc, dItZip, dLc, dYes, gdName, wipeD, asP, asB, asI, asS, asL, asU, sliceD, fCmp, fAdd, startD, fI, true_and, and_true, List.getD_cons_zero, List.getD_cons_succ, List.set_cons_zero, List.set_cons_succ, List.map_cons, List.map_nil, List.length_cons, List.length_nil, Nat.zero_add, Nat.reduceAdd, Nat.reduceSub, List.replicate, List.cons_append, List.nil_append, if_true, if_false, reduceIte, Bool.false_eq_true, Bool.not_true, Bool.not_false]
        refine ite2 (fun q => ?_) fun q => ?_
        · rw [show eqW (.str (grW b)) "not" = true from q] at w1; cases w1
        refine ⟨["all", "any"], rfl, ?_⟩
        rw [show inW (PyData.str (grW b)) [Str.ofString "all", Str.ofString "any"] = true from w2]
        show forL _ _ _ (Cnd.ds cs) _
        generalize Sl.v (DV.p (PyData.tuple [PyData.str (grW b), PyData.tuple (Cnd.ds cs)])) = s0
        generalize Sl.v (DV.p (PyData.tuple (Cnd.ds cs))) = s3
        generalize Sl.un = s4
        clear q w1 w2
        induction cs generalizing s4 with
        | nil =>
          simp only [Cnd.holdG] at h
          show R (.p (.bool (eqW (.str (grW b)) "all")))
          rw [w3]
          exact h
        | cons c cs ihc =>
          simp only [Cnd.holdG] at h
          have e : PyData.eqv (.bool (c.hold s u ms)) (.bool (eqW (.str (grW b)) (Str.ofString "all"))) = decide (c.hold s u ms = b) := by
            rw [show eqW (.str (grW b)) (Str.ofString "all") = b from w3]
            cases c.hold s u ms <;> cases b <;> rfl
          refine ⟨c, s, a, u, ms, rfl, ok2 c List.mem_cons_self, hu, ?_⟩
          refine ⟨rfl, rfl, Nat.zero_le _, ?_⟩
          rw [if_pos rfl, e]
          by_cases q : c.hold s u ms = b
          · rw [if_pos q] at h
            rw [decide_eq_true q]
            exact ihc h (fun c m => ok2 c (List.mem_cons_of_mem _ m)) _
          · rw [if_neg q] at h
            rw [decide_eq_false q]
            show R (.p (.bool (eqW (.str (grW b)) "any")))
            rw [w4]
            exact h⟩).mono (by omega)
theorem ok_is_end (T : Tx K mg) {k : Nat} (hk : 1 ≤ k) : FnG P w K mg base CX0 k T.a_is_end T.d_is_end ["value"] (spD ⟨K, P, w⟩ (gP endB)) :=
  (okB T.F_is_end sc_is_end (fun ds R h => by obtain ⟨_, rfl, _⟩ := h; rfl) fun cdv A gd outer s H E hr => ⟨_, (dss_one (ds_ret (de_and (de_callB cd_isi (by rfl) T.n_isinstance bt_isinstance (da_cons (dv 0) (da_cons (de_bltn (v := .ty "tuple") (u := .type "tuple") (by rfl) T.n_tuple bt_tuple rfl) da_nil))) (de_and (de_cmp (od_eqQ hr.units) (de_callB cd_len (by rfl) T.n_len bt_len (da_cons (dv 0) da_nil)) de_int) (de_one (de_cmp (od_inW (u66 hr)) (de_ix (dv 0) de_int) (de_globT (by rfl) T.c_END_WORDS T.q_END_WORDS))))))), fun ds R h => by
      obtain ⟨d, rfl, hw, h⟩ := h
      simp only [dSeq, dNext, dBreak, dCont, dDrop, dRet, dRetN, dIfS, dSet, dB, dNotT, dAndT, dOrT, dNot, dAnd, dOr, dIf, dChain, dVar, dC, dOp, dUn, dNil, dCons, dCall, dTup, dLst, pyAll, dSl, dNo, dPart, dAsg, dPar, dDig, dMix, dPutD, dPutM, dM1, dFor, dItL, dItU, dItS, dItR1, dItR2, dItSc, dItZip, dLc, dYes, gdName, wipeD, asP, asB, asI, asS, asL, asU, sliceD, fCmp, fAdd, startD, fI, true_and, and_true, List.getD_cons_zero, List.getD_cons_succ, List.set_cons_zero, List.set_cons_succ, List.map_cons, List.map_nil, List.length_cons, List.length_nil, Nat.zero_add, Nat.reduceAdd, Nat.reduceSub, List.replicate, List.cons_append, List.nil_append, if_true, if_false, reduceIte, Bool.false_eq_true, Bool.not_true, Bool.not_false]
      refine isi_tuple ?_
      cases d with
      | tuple xs =>
        simp only [isT] at h ⊢
        have hl : xs.length ≤ sizeLine := big (Nat.le_trans (wt_len xs) (wt_tup hw))
        simp only [dSeq, dNext, dBreak, dCont, dDrop, dRet, dRetN, dIfS, dSet, dB, dNotT, dAndT, dOrT, dNot, dAnd, dOr, dIf, dChain, dVar, dC, dOp, dUn, dNil, dCons, dCall, dTup, dLst, pyAll, dSl, dNo, dPart, dAsg, dPar, dDig, dMix, dPutD, dPutM, dM1, dFor, dItL, dItU, dItS, dItR1, dItR2, dItSc, dItZip, dLc, dYes, gdName, wipeD, asP, asB, asI, asS, asL, asU, sliceD, fCmp, fAdd, startD, fI, true_and, and_true, List.getD_cons_zero, List.getD_cons_succ, List.set_cons_zero, List.set_cons_succ, List.map_cons, List.map_nil, List.length_cons, List.length_nil, Nat.zero_add, Nat.reduceAdd, Nat.reduceSub, List.replicate, List.cons_append, List.nil_append, if_true, if_false, reduceIte, Bool.false_eq_true, Bool.not_true, Bool.not_false]
        refine len_tup hl ⟨rfl, rfl, Nat.zero_le _, ?_⟩
        by_cases h1 : xs.length = 1
        · match xs, h1 with
          | [x], _ => exact ⟨x, rfl, ["drop", "stop"], rfl, h⟩
        · rw [end_not h1] at h
          have e : PyData.eqv (.int (xs.length : Int)) (.int 1) = false := by
            rw [eqv_int]
            exact decide_eq_false (by omega)
          rw [e]
          exact h
      | _ => exact h⟩).mono hk
theorem ok_is_deed (T : Tx K mg) {k : Nat} (hk : 4 ≤ k) : FnG P w K mg base CX0 k T.a_is_deed T.d_is_deed ["value"] (spD ⟨K, P, w⟩ (gP deedB)) :=
  (okB T.F_is_deed sc_is_deed (fun ds R h => by obtain ⟨_, rfl, _⟩ := h; rfl) fun cdv A gd outer s H E hr => ⟨_, (dss_cons (ds_if (dw_or (dt_not (dt_val (de_callB cd_isi (by rfl) T.n_isinstance bt_isinstance (da_cons (dv 0) (da_cons (de_bltn (v := .ty "tuple") (u := .type "tuple") (by rfl) T.n_tuple bt_tuple rfl) da_nil))))) (dw_or1 (dt_cmp (od_neQ hr.units) (de_callB cd_len (by rfl) T.n_len bt_len (da_cons (dv 0) da_nil)) de_int))).pt (dss_one (ds_ret de_bl)) dss_nil)
    (dss_cons (ds_asg (vs := [1, 2]) (dv 0) (dg_tup (n := 2) rfl (dgs_cons (dg_name (i := 1) (by decide) sc_is_deed.nd rfl (by first | exact Or.inl rfl | exact Or.inr rfl)) (dgs_cons (dg_name (i := 2) (by decide) sc_is_deed.nd rfl (by first | exact Or.inl rfl | exact Or.inr rfl)) dgs_nil))))
    (dss_cons (ds_if (dt_cmp (od_inW (u66 hr)) (dv 1) (de_globT (by rfl) T.c_NAME_WORDS T.q_NAME_WORDS)) (dss_one (ds_ret (de_call (ok_is_name T (k := 3) (by decide)) gd hr (by rfl) T.m_is_name T.F_is_name.kp T.b_is_name pass0 (da_cons (dv 2) da_nil)))) dss_nil)
    (dss_one (ds_ret (de_and (de_cmp (od_inW (u66 hr)) (dv 1) (de_globT (by rfl) T.c_TEXT_WORDS_houses T.q_TEXT_WORDS_houses)) (de_one (de_call (ok_is_text T (k := 3) (by decide)) gd hr (by rfl) T.m_is_text T.F_is_text.kp T.b_is_text pass0 (da_cons (dv 2) da_nil))))))))), fun ds R h => by
      obtain ⟨d, rfl, hw, h⟩ := h
      simp only [dSeq, dNext, dBreak, dCont, dDrop, dRet, dRetN, dIfS, dSet, dB, dNotT, dAndT, dOrT, dNot, dAnd, dOr, dIf, dChain, dVar, dC, dOp, dUn, dNil, dCons, dCall, dTup, dLst, pyAll, dSl, dNo, dPart, dAsg, dPar, dDig, dMix, dPutD, dPutM, dM1, dFor, dItL, dItU, dItS, dItR1, dItR2, dItSc, dItZip, dLc, dYes, gdName, wipeD, asP, asB, asI, asS, asL, asU, sliceD, fCmp, fAdd, startD, fI, true_and, and_true, List.getD_cons_zero, List.getD_cons_succ, List.set_cons_zero, List.set_cons_succ, List.map_cons, List.map_nil, List.length_cons, List.length_nil, Nat.zero_add, Nat.reduceAdd, Nat.reduceSub, List.replicate, List.cons_append, List.nil_append, if_true, if_false, reduceIte, Bool.false_eq_true, Bool.not_true, Bool.not_false]
      refine isi_tuple ?_
      cases d with
      | tuple xs =>
        simp only [isT] at h ⊢
        have hl : xs.length ≤ sizeLine := big (Nat.le_trans (wt_len xs) (wt_tup hw))
        simp only [dSeq, dNext, dBreak, dCont, dDrop, dRet, dRetN, dIfS, dSet, dB, dNotT, dAndT, dOrT, dNot, dAnd, dOr, dIf, dChain, dVar, dC, dOp, dUn, dNil, dCons, dCall, dTup, dLst, pyAll, dSl, dNo, dPart, dAsg, dPar, dDig, dMix, dPutD, dPutM, dM1, dFor, dItL, dItU, dItS, dItR1, dItR2, dItSc, dItZip, dLc, dYes, gdName, wipeD, asP, asB, asI, asS, asL, asU, sliceD, fCmp, fAdd, startD, fI, true_and, and_true, List.getD_cons_zero, List.getD_cons_succ, List.set_cons_zero, List.set_cons_succ, List.map_cons, List.map_nil, List.length_cons, List.length_nil, Nat.zero_add, Nat.reduceAdd, Nat.reduceSub, List.replicate, List.cons_append, List.nil_append, if_true, if_false, reduceIte, Bool.false_eq_true, Bool.not_true, Bool.not_false]
        refine len_tup hl ⟨rfl, rfl, Nat.zero_le _, ?_⟩
        by_cases h2 : xs.length = 2
        · match xs, h2 with
          | [x, p], _ =>
            have wp : Wt p := wt_in hw (by simp)
            replace h : R (.p (.bool (if inW x ["file", "forward", "mark"] = true then isName p else inW x ["tag", "reply"] && isTxt p))) := h
            refine ⟨rfl, _, _, rfl, _, _, rfl, rfl, ?_⟩
            simp only [dSeq, dNext, dBreak, dCont, dDrop, dRet, dRetN, dIfS, dSet, dB, dNotT, dAndT, dOrT, dNot, dAnd, dOr, dIf, dChain, dVar, dC, dOp, dUn, dNil, dCons, dCall, dTup, dLst, pyAll, dSl, dNo, dPart, dAsg, dPar, dDig, dMix, dPutD, dPutM, dM1, dFor, dItL, dItU, dItS, dItR1, dItR2, dItSc, dItZip, dLc, dYes, gdName, wipeD, asP, asB, asI, asS, asL, asU, sliceD, fCmp, fAdd, startD, fI, true_and, and_true, List.getD_cons_zero, List.getD_cons_succ, List.set_cons_zero, List.set_cons_succ, List.map_cons, List.map_nil, List.length_cons, List.length_nil, Nat.zero_add, Nat.reduceAdd, Nat.reduceSub, List.replicate, List.cons_append, List.nil_append, if_true, if_false, reduceIte, Bool.false_eq_true, Bool.not_true, Bool.not_false]
            refine ⟨["file", "forward", "mark"], rfl, ?_⟩
            simp only [dSeq, dNext, dBreak, dCont, dDrop, dRet, dRetN, dIfS, dSet, dB, dNotT, dAndT, dOrT, dNot, dAnd, dOr, dIf, dChain, dVar, dC, dOp, dUn, dNil, dCons, dCall, dTup, dLst, pyAll, dSl, dNo, dPart, dAsg, dPar, dDig, dMix, dPutD, dPutM, dM1, dFor, dItL, dItU, dItS, dItR1, dItR2, dItSc, dItZip, dLc, dYes, gdName, wipeD, asP, asB, asI, asS, asL, asU, sliceD, fCmp, fAdd, startD, fI, true_and, and_true, List.getD_cons_zero, List.getD_cons_succ, List.set_cons_zero, List.set_cons_succ, List.map_cons, List.map_nil, List.length_cons, List.length_nil, Nat.zero_add, Nat.reduceAdd, Nat.reduceSub, List.replicate, List.cons_append, List.nil_append, if_true, if_false, reduceIte, Bool.false_eq_true, Bool.not_true, Bool.not_false]
            refine ite2 (fun q => ?_) fun q => ?_
            · have q' : inW x ["file", "forward", "mark"] = true := q
              rw [if_pos q'] at h
              exact ⟨p, rfl, wp, h⟩
            · have q' : ¬ inW x ["file", "forward", "mark"] = true := q
              rw [if_neg q'] at h
              refine ⟨["tag", "reply"], rfl, ?_⟩
              cases q1 : inW x ["tag", "reply"] with
              | false => rw [q1] at h; exact h
              | true =>
                rw [q1] at h
                exact ⟨p, rfl, wp, h⟩
        · rw [deed_not h2] at h
          have e : PyData.eqv (.int (xs.length : Int)) (.int 2) = false := by
            rw [eqv_int]
            exact decide_eq_false (by omega)
          rw [e]
          exact h
      | _ => exact h⟩).mono hk
theorem ok_are_actions (T : Tx K mg) {k : Nat} (hk : 5 ≤ k) : FnG P w K mg base CX0 k T.a_are_actions T.d_are_actions ["value"] (spD ⟨K, P, w⟩ (gP actsB)) :=
  (okB T.F_are_actions sc_are_actions (fun ds R h => by obtain ⟨_, rfl, _⟩ := h; rfl) fun cdv A gd outer s H E hr => ⟨_, (dss_one (ds_ret (de_and (de_callB cd_isi (by rfl) T.n_isinstance bt_isinstance (da_cons (dv 0) (da_cons (de_bltn (v := .ty "tuple") (u := .type "tuple") (by rfl) T.n_tuple bt_tuple rfl) da_nil))) (de_and (de_cmp od_le (de_callB cd_len (by rfl) T.n_len bt_len (da_cons (dv 0) da_nil)) (de_glob (d := .p (.int 6)) (v := .int 6) (by rfl) T.c_MOST_ACTIONS ⟨_, rfl⟩ (fun _ => rfl))) (de_and (de_callB (cd_all rfl) (by rfl) T.n_all bt_all (da_cons (de_lc (own := [("action", 1)]) rfl sc_are_actions.nd (di_tup (de_slice (dv 0) do_none (do_some (de_un ud_neg de_int)))) (blkOk_by (N := ["value", "action"]) (own := [("action", 1)]) (sc := defScope s_are_actions) (by decide +kernel)) (fun _ _ _ _ _ => (dg_name (i := 1) (by decide) sc_are_actions.nd rfl (by first | exact Or.inl rfl | exact Or.inr rfl))) (fun _ _ _ _ _ => dts_nil) (fun _ _ _ _ _ => (de_call (ok_is_deed T (k := 4) (by decide)) gd hr (by rfl) T.m_is_deed T.F_is_deed.kp T.b_is_deed pass0 (da_cons (dv 1) da_nil)))) da_nil)) (de_one (de_callB (cd_all rfl) (by rfl) T.n_all bt_all (da_cons (de_lc (own := [("action", 1)]) rfl sc_are_actions.nd (di_tup (de_slice (dv 0) (do_some (de_un ud_neg de_int)) do_none)) (blkOk_by (N := ["value", "action"]) (own := [("action", 1)]) (sc := defScope s_are_actions) (by decide +kernel)) (fun _ _ _ _ _ => (dg_name (i := 1) (by decide) sc_are_actions.nd rfl (by first | exact Or.inl rfl | exact Or.inr rfl))) (fun _ _ _ _ _ => dts_nil) (fun _ _ _ _ _ => (de_or (de_call (ok_is_deed T (k := 4) (by decide)) gd hr (by rfl) T.m_is_deed T.F_is_deed.kp T.b_is_deed pass0 (da_cons (dv 1) da_nil)) (de_one (de_call (ok_is_end T (k := 4) (by decide)) gd hr (by rfl) T.m_is_end T.F_is_end.kp T.b_is_end pass0 (da_cons (dv 1) da_nil)))))) da_nil)))))))), fun ds R h => by
      obtain ⟨d, rfl, hw, h⟩ := h
      simp only [dSeq, dNext, dBreak, dCont, dDrop, dRet, dRetN, dIfS, dSet, dB, dNotT, dAndT, dOrT, dNot, dAnd, dOr, dIf, dChain, dVar, dC, dOp, dUn, dNil, dCons, dCall, dTup, dLst, pyAll, dSl, dNo, dPart, dAsg, dPar, dDig, dMix, dPutD, dPutM, dM1, dFor, dItL, dItU, dItS, dItR1, dItR2, dItSc, dItZip, dLc, dYes, gdName, wipeD, asP, asB, asI, asS, asL, asU, sliceD, fCmp, fAdd, startD, fI, true_and, and_true, List.getD_cons_zero, List.getD_cons_succ, List.set_cons_zero, List.set_cons_succ, List.map_cons, List.map_nil, List.length_cons, List.length_nil, Nat.zero_add, Nat.reduceAdd, Nat.reduceSub, List.replicate, List.cons_append, List.nil_append, if_true, if_false, reduceIte, Bool.false_eq_true, Bool.not_true, Bool.not_false]
      refine isi_tuple ?_
      cases d with
      | tuple xs =>
        simp only [isT] at h ⊢
        have hl : xs.length ≤ sizeLine := big (Nat.le_trans (wt_len xs) (wt_tup hw))
        replace h : R (.p (.bool (decide (xs.length ≤ 6) && ((cutD xs none (some (-1))).all deedB && (cutD xs (some (-1)) none).all fun z => deedB z || endB z)))) := h
        simp only [dSeq, dNext, dBreak, dCont, dDrop, dRet, dRetN, dIfS, dSet, dB, dNotT, dAndT, dOrT, dNot, dAnd, dOr, dIf, dChain, dVar, dC, dOp, dUn, dNil, dCons, dCall, dTup, dLst, pyAll, dSl, dNo, dPart, dAsg, dPar, dDig, dMix, dPutD, dPutM, dM1, dFor, dItL, dItU, dItS, dItR1, dItR2, dItSc, dItZip, dLc, dYes, gdName, wipeD, asP, asB, asI, asS, asL, asU, sliceD, fCmp, fAdd, startD, fI, true_and, and_true, List.getD_cons_zero, List.getD_cons_succ, List.set_cons_zero, List.set_cons_succ, List.map_cons, List.map_nil, List.length_cons, List.length_nil, Nat.zero_add, Nat.reduceAdd, Nat.reduceSub, List.replicate, List.cons_append, List.nil_append, if_true, if_false, reduceIte, Bool.false_eq_true, Bool.not_true, Bool.not_false]
        refine len_tup hl (le_int ?_)
        rw [show decide ((xs.length : Int) ≤ 6) = decide (xs.length ≤ 6) by rw [decide_eq_decide]; omega]
        cases q1 : decide (xs.length ≤ 6) with
        | false => rw [q1] at h; exact h
        | true =>
          rw [q1] at h
          refine ⟨Nat.le_trans (cut_len _ _ _) hl, lc_map (fun d => .bool (deedB d)) (fun d hd K1 hk => ?_) (all_map_of ?_)⟩
          · simp only [dSeq, dNext, dBreak, dCont, dDrop, dRet, dRetN, dIfS, dSet, dB, dNotT, dAndT, dOrT, dNot, dAnd, dOr, dIf, dChain, dVar, dC, dOp, dUn, dNil, dCons, dCall, dTup, dLst, pyAll, dSl, dNo, dPart, dAsg, dPar, dDig, dMix, dPutD, dPutM, dM1, dFor, dItL, dItU, dItS, dItR1, dItR2, dItSc, dItZip, dLc, dYes, gdName, wipeD, asP, asB, asI, asS, asL, asU, sliceD, fCmp, fAdd, startD, fI, true_and, and_true, List.getD_cons_zero, List.getD_cons_succ, List.set_cons_zero, List.set_cons_succ, List.map_cons, List.map_nil, List.length_cons, List.length_nil, Nat.zero_add, Nat.reduceAdd, Nat.reduceSub, List.replicate, List.cons_append, List.nil_append, if_true, if_false, reduceIte, Bool.false_eq_true, Bool.not_true, Bool.not_false]
            exact ⟨d, rfl, wt_in hw (cut_mem hd), hk⟩
          · cases q2 : (cutD xs none (some (-1))).all deedB with
            | false => rw [q2] at h; exact h
            | true =>
              rw [q2] at h
              refine ⟨Nat.le_trans (cut_len _ _ _) hl, lc_map (fun d => .bool (deedB d || endB d)) (fun d hd K1 hk => ?_) (all_map_of h)⟩
              simp only [dSeq, dNext, dBreak, dCont, dDrop, dRet, dRetN, dIfS, dSet, dB, dNotT, dAndT, dOrT, dNot, dAnd, dOr, dIf, dChain, dVar, dC, dOp, dUn, dNil, dCons, dCall, dTup, dLst, pyAll, dSl, dNo, dPart, dAsg, dPar, dDig, dMix, dPutD, dPutM, dM1, dFor, dItL, dItU, dItS, dItR1, dItR2, dItSc, dItZip, dLc, dYes, gdName, wipeD, asP, asB, asI, asS, asL, asU, sliceD, fCmp, fAdd, startD, fI, true_and, and_true, List.getD_cons_zero, List.getD_cons_succ, List.set_cons_zero, List.set_cons_succ, List.map_cons, List.map_nil, List.length_cons, List.length_nil, Nat.zero_add, Nat.reduceAdd, Nat.reduceSub, List.replicate, List.cons_append, List.nil_append, if_true, if_false, reduceIte, Bool.false_eq_true, Bool.not_true, Bool.not_false]
              have wd : Wt d := wt_in hw (cut_mem hd)
              refine ⟨d, rfl, wd, ?_⟩
              cases q3 : deedB d with
              | true => rw [q3] at hk; exact hk
              | false =>
                rw [q3] at hk
                exact ⟨d, rfl, wd, hk⟩
      | _ => exact h⟩).mono hk
theorem ok_is_rule (T : Tx K mg) {k : Nat} (hk : 15 ≤ k) : FnG P w K mg base CX0 k T.a_is_rule T.d_is_rule ["value"] (spD ⟨K, P, w⟩ (gP ruleB)) :=
  (okB T.F_is_rule sc_is_rule (fun ds R h => by obtain ⟨_, rfl, _⟩ := h; rfl) fun cdv A gd outer s H E hr => ⟨_, (dss_one (ds_ret (de_and (de_callB cd_isi (by rfl) T.n_isinstance bt_isinstance (da_cons (dv 0) (da_cons (de_bltn (v := .ty "tuple") (u := .type "tuple") (by rfl) T.n_tuple bt_tuple rfl) da_nil))) (de_and (de_cmp (od_eqQ hr.units) (de_callB cd_len (by rfl) T.n_len bt_len (da_cons (dv 0) da_nil)) de_int) (de_and (de_call (ok_is_condition T (k := 14) (by decide)) gd hr (by rfl) T.m_is_condition T.F_is_condition.kp T.b_is_condition pass0 (da_cons (de_ix (dv 0) de_int) da_nil)) (de_one (de_call (ok_are_actions T (k := 14) (by decide)) gd hr (by rfl) T.m_are_actions T.F_are_actions.kp T.b_are_actions pass0 (da_cons (de_ix (dv 0) de_int) da_nil)))))))), fun ds R h => by
      obtain ⟨d, rfl, hw, h⟩ := h
      simp only [dSeq, dNext, dBreak, dCont, dDrop, dRet, dRetN, dIfS, dSet, dB, dNotT, dAndT, dOrT, dNot, dAnd, dOr, dIf, dChain, dVar, dC, dOp, dUn, dNil, dCons, dCall, dTup, dLst, pyAll, dSl, dNo, dPart, dAsg, dPar, dDig, dMix, dPutD, dPutM, dM1, dFor, dItL, dItU, dItS, dItR1, dItR2, dItSc, dItZip, dLc, dYes, gdName, wipeD, asP, asB, asI, asS, asL, asU, sliceD, fCmp, fAdd, startD, fI, true_and, and_true, List.getD_cons_zero, List.getD_cons_succ, List.set_cons_zero, List.set_cons_succ, List.map_cons, List.map_nil, List.length_cons, List.length_nil, Nat.zero_add, Nat.reduceAdd, Nat.reduceSub, List.replicate, List.cons_append, List.nil_append, if_true, if_false, reduceIte, Bool.false_eq_true, Bool.not_true, Bool.not_false]
      refine isi_tuple ?_
      cases d with
      | tuple xs =>
        simp only [isT] at h ⊢
        have hl : xs.length ≤ sizeLine := big (Nat.le_trans (wt_len xs) (wt_tup hw))
        simp only [dSeq, dNext, dBreak, dCont, dDrop, dRet, dRetN, dIfS, dSet, dB, dNotT, dAndT, dOrT, dNot, dAnd, dOr, dIf, dChain, dVar, dC, dOp, dUn, dNil, dCons, dCall, dTup, dLst, pyAll, dSl, dNo, dPart, dAsg, dPar, dDig, dMix, dPutD, dPutM, dM1, dFor, dItL, dItU, dItS, dItR1, dItR2, dItSc, dItZip, dLc, dYes, gdName, wipeD, asP, asB, asI, asS, asL, asU, sliceD, fCmp, fAdd, startD, fI, true_and, and_true, List.getD_cons_zero, List.getD_cons_succ, List.set_cons_zero, List.set_cons_succ, List.map_cons, List.map_nil, List.length_cons, List.length_nil, Nat.zero_add, Nat.reduceAdd, Nat.reduceSub, List.replicate, List.cons_append, List.nil_append, if_true, if_false, reduceIte, Bool.false_eq_true, Bool.not_true, Bool.not_false]
        refine len_tup hl ⟨rfl, rfl, Nat.zero_le _, ?_⟩
        by_cases h2 : xs.length = 2
        · match xs, h2 with
          | [c, a], _ =>
            have wc : Wt c := wt_in hw (by simp)
            have wa : Wt a := wt_in hw (by simp)
            replace h : R (.p (.bool (isCW 4 c && actsB a))) := h
            refine ⟨c, rfl, c, rfl, wc, ?_⟩
            cases q1 : isCW 4 c with
            | false => rw [q1] at h; exact h
            | true =>
              rw [q1] at h
              exact ⟨a, rfl, a, rfl, wa, h⟩
        · rw [rule_not h2] at h
          have e : PyData.eqv (.int (xs.length : Int)) (.int 2) = false := by
            rw [eqv_int]
            exact decide_eq_false (by omega)
          rw [e]
          exact h
      | _ => exact h⟩).mono hk
theorem ok_need_rules (T : Tx K mg) {k : Nat} (hk : 16 ≤ k) : FnG P w K mg base CX0 k T.a_need_rules T.d_need_rules ["rules"] (spD ⟨K, P, w⟩ gNeedR) :=
  (okB T.F_need_rules sc_need_rules (fun ds R h => by obtain ⟨_, rfl, _⟩ := h; rfl) fun cdv A gd outer s H E hr => ⟨_, (dss_cons (ds_for (vs := [1]) PassesOwn.never rfl (di_list (dv 0)) (dg_name (i := 1) (by decide) sc_need_rules.nd rfl (by first | exact Or.inl rfl | exact Or.inr rfl)) (dss_one (ds_if (dt_not (dt_val (de_call (ok_is_rule T (k := 15) (by decide)) gd hr (by rfl) T.m_is_rule T.F_is_rule.kp T.b_is_rule pass0 (da_cons (dv 1) da_nil)))) dss_never dss_nil)))
    (dss_cons (ds_if (dt_cmp od_gt (de_callB cd_len (by rfl) T.n_len bt_len (da_cons (dv 0) da_nil)) (de_glob (d := .p (.int 10)) (v := .int 10) (by rfl) T.c_MOST_RULES ⟨_, rfl⟩ (fun _ => rfl))) dss_never dss_nil)
    (dss_one (ds_ret (de_callTy cd_tuple (by rfl) T.n_tuple bt_tuple (da_cons (dv 0) da_nil)))))), fun ds R h => by
      obtain ⟨rl, rfl, g, h⟩ := h
      simp only [dSeq, dNext, dBreak, dCont, dDrop, dRet, dRetN, dIfS, dSet, dB, dNotT, dAndT, dOrT, dNot, dAnd, dOr, dIf, dChain, dVar, dC, dOp, dUn, dNil, dCons, dCall, dTup, dLst, pyAll, dSl, dNo, dPart, dAsg, dPar, dDig, dMix, dPutD, dPutM, dM1, dFor, dItL, dItU, dItS, dItR1, dItR2, dItSc, dItZip, dLc, dYes, gdName, wipeD, asP, asB, asI, asS, asL, asU, sliceD, fCmp, fAdd, startD, fI, true_and, and_true, List.getD_cons_zero, List.getD_cons_succ, List.set_cons_zero, List.set_cons_succ, List.map_cons, List.map_nil, List.length_cons, List.length_nil, Nat.zero_add, Nat.reduceAdd, Nat.reduceSub, List.replicate, List.cons_append, List.nil_append, if_true, if_false, reduceIte, Bool.false_eq_true, Bool.not_true, Bool.not_false]
      refine for_inv (fun δ => ∃ y, δ = [.v (.p (.list (rl.map Rl.d))), y]) _ _ ⟨_, rfl⟩ (fun d hd δ' hJ E' hrt hnx _ _ => ?_) fun δ' hJ => ?_
      · obtain ⟨y, rfl⟩ := hJ
        obtain ⟨r, hr, rfl⟩ := List.mem_map.mp hd
        obtain ⟨q1, q2⟩ := (g.g r hr).rule
        simp only [dSeq, dNext, dBreak, dCont, dDrop, dRet, dRetN, dIfS, dSet, dB, dNotT, dAndT, dOrT, dNot, dAnd, dOr, dIf, dChain, dVar, dC, dOp, dUn, dNil, dCons, dCall, dTup, dLst, pyAll, dSl, dNo, dPart, dAsg, dPar, dDig, dMix, dPutD, dPutM, dM1, dFor, dItL, dItU, dItS, dItR1, dItR2, dItSc, dItZip, dLc, dYes, gdName, wipeD, asP, asB, asI, asS, asL, asU, sliceD, fCmp, fAdd, startD, fI, true_and, and_true, List.getD_cons_zero, List.getD_cons_succ, List.set_cons_zero, List.set_cons_succ, List.map_cons, List.map_nil, List.length_cons, List.length_nil, Nat.zero_add, Nat.reduceAdd, Nat.reduceSub, List.replicate, List.cons_append, List.nil_append, if_true, if_false, reduceIte, Bool.false_eq_true, Bool.not_true, Bool.not_false]
        refine ⟨_, rfl, q2, ?_⟩
        rw [q1]
        exact hnx _ ⟨_, rfl⟩
      · obtain ⟨y, rfl⟩ := hJ
        simp only [dSeq, dNext, dBreak, dCont, dDrop, dRet, dRetN, dIfS, dSet, dB, dNotT, dAndT, dOrT, dNot, dAnd, dOr, dIf, dChain, dVar, dC, dOp, dUn, dNil, dCons, dCall, dTup, dLst, pyAll, dSl, dNo, dPart, dAsg, dPar, dDig, dMix, dPutD, dPutM, dM1, dFor, dItL, dItU, dItS, dItR1, dItR2, dItSc, dItZip, dLc, dYes, gdName, wipeD, asP, asB, asI, asS, asL, asU, sliceD, fCmp, fAdd, startD, fI, true_and, and_true, List.getD_cons_zero, List.getD_cons_succ, List.set_cons_zero, List.set_cons_succ, List.map_cons, List.map_nil, List.length_cons, List.length_nil, Nat.zero_add, Nat.reduceAdd, Nat.reduceSub, List.replicate, List.cons_append, List.nil_append, if_true, if_false, reduceIte, Bool.false_eq_true, Bool.not_true, Bool.not_false]
        have hl := g.len
        refine len_lst (by rw [List.length_map]; exact Nat.le_trans hl (by decide)) ?_
        show (if decide ((10 : Int) < (((List.map Rl.d rl).length : Nat) : Int)) = true then _ else fTuple [.p (.list (List.map Rl.d rl))] R)
        rw [decide_eq_false (by rw [List.length_map]; omega)]
        exact ⟨_, .inl rfl, h⟩⟩).mono hk
theorem ok_H_init (T : Tx K mg) : FnOk P w K mg base CX0 1 T.a_H_init T.d_H_init ["self"] (spInit T.C) := ok_hinit T.F_H_init sc_H_init (fun X p h1 h2 => pvS h1 h2) rfl T.cl T.nE T.nM
theorem ok_H_put (T : Tx K mg) {k : Nat} (hk : 1 ≤ k) : FnG P w K mg base CX0 k T.a_H_put T.d_H_put ["self", "name", "entry"] (spH ⟨K, P, w⟩ (hPut T.C)) :=
  (okM 0 T.F_H_put sc_H_put (fun o ds R h => by obtain ⟨_, _, _, _, _, rfl, rfl, _⟩ := h; exact ⟨rfl, rfl⟩) fun cdv A gd outer s H E hr => ⟨_, (dss_cons (ds_hput (i := 0) (u1 hr) T.cl T.nE (pv 0) (dv 1) (dv 2))
    (dss_one (ds_hmem (i := 0) T.cl T.nM (pv 0)))), fun o ds R h => by
      obtain ⟨a, d, es, n, z, rfl, rfl, hl, h⟩ := h
      exact ⟨rfl, Nat.lt_of_le_of_lt hl (by decide), ⟨rfl, _, rfl, ⟨rfl, rfl, rfl⟩, h⟩⟩⟩).mono hk
theorem ok_H_need_new (T : Tx K mg) {k : Nat} (hk : 2 ≤ k) : FnG P w K mg base CX0 k T.a_H_need_new T.d_H_need_new ["self", "name"] (spD ⟨K, P, w⟩ (gNew T.C)) :=
  (okB T.F_H_need_new sc_H_need_new (fun ds R h => by obtain ⟨_, _, rfl, _⟩ := h; rfl) fun cdv A gd outer s H E hr => ⟨_, (dss_cons (ds_if (dt_not (dt_val (de_call (ok_is_name T (k := 1) (by decide)) gd hr (by rfl) T.m_is_name T.F_is_name.kp T.b_is_name pass0 (da_cons (dv 1) da_nil)))) (dss_one ds_never) dss_nil)
    (dss_one (ds_if (dt_inH (u1 hr) (dv 1) (de_ents T.cl T.nE (dv 0))) (dss_one ds_never) dss_nil))), fun ds R h => by
      obtain ⟨es, n, rfl, hn, hg, h⟩ := h
      simp only [dSeq, dNext, dBreak, dCont, dDrop, dRet, dRetN, dIfS, dSet, dB, dNotT, dAndT, dOrT, dNot, dAnd, dOr, dIf, dChain, dVar, dC, dOp, dUn, dNil, dCons, dCall, dTup, dLst, pyAll, dSl, dNo, dPart, dAsg, dPar, dDig, dMix, dPutD, dPutM, dM1, dFor, dItL, dItU, dItS, dItR1, dItR2, dItSc, dItZip, dLc, dYes, gdName, wipeD, asP, asB, asI, asS, asL, asU, sliceD, fCmp, fAdd, startD, fI, true_and, and_true, List.getD_cons_zero, List.getD_cons_succ, List.set_cons_zero, List.set_cons_succ, List.map_cons, List.map_nil, List.length_cons, List.length_nil, Nat.zero_add, Nat.reduceAdd, Nat.reduceSub, List.replicate, List.cons_append, List.nil_append, if_true, if_false, reduceIte, Bool.false_eq_true, Bool.not_true, Bool.not_false]
      refine ⟨_, rfl, wtS (Nat.le_trans (isName_str hn) (by decide)), ?_⟩
      rw [hn]
      refine ⟨rfl, ?_⟩
      show (if (getE es n).isSome = true then _ else _)
      rw [hg]
      exact h⟩).mono hk
theorem ok_H_need_room (T : Tx K mg) {k : Nat} (hk : 1 ≤ k) : FnG P w K mg base CX0 k T.a_H_need_room T.d_H_need_room ["self", "name"] (spD ⟨K, P, w⟩ (gRoom T.C)) :=
  (okB T.F_H_need_room sc_H_need_room (fun ds R h => by obtain ⟨_, _, rfl, _⟩ := h; rfl) fun cdv A gd outer s H E hr => ⟨_, (dss_one (ds_if (dt_cmp od_ge (de_lenH (de_ents T.cl T.nE (dv 0)) (by rfl) T.n_len) (de_glob (d := .p (.int 20)) (v := .int 20) (by rfl) T.c_MOST_ADDRESSES ⟨_, rfl⟩ (fun _ => rfl))) (dss_one ds_never) dss_nil)), fun ds R h => by
      obtain ⟨es, n, rfl, hl, h⟩ := h
      simp only [dSeq, dNext, dBreak, dCont, dDrop, dRet, dRetN, dIfS, dSet, dB, dNotT, dAndT, dOrT, dNot, dAnd, dOr, dIf, dChain, dVar, dC, dOp, dUn, dNil, dCons, dCall, dTup, dLst, pyAll, dSl, dNo, dPart, dAsg, dPar, dDig, dMix, dPutD, dPutM, dM1, dFor, dItL, dItU, dItS, dItR1, dItR2, dItSc, dItZip, dLc, dYes, gdName, wipeD, asP, asB, asI, asS, asL, asU, sliceD, fCmp, fAdd, startD, fI, true_and, and_true, List.getD_cons_zero, List.getD_cons_succ, List.set_cons_zero, List.set_cons_succ, List.map_cons, List.map_nil, List.length_cons, List.length_nil, Nat.zero_add, Nat.reduceAdd, Nat.reduceSub, List.replicate, List.cons_append, List.nil_append, if_true, if_false, reduceIte, Bool.false_eq_true, Bool.not_true, Bool.not_false]
      refine ⟨rfl, ?_⟩
      show (if decide ((20 : Int) ≤ (es.length : Int)) = true then _ else _)
      rw [decide_eq_false (by omega)]
      exact h⟩).mono hk
theorem ok_H_has (T : Tx K mg) {k : Nat} (hk : 2 ≤ k) : FnG P w K mg base CX0 k T.a_H_has T.d_H_has ["self", "name"] (spD ⟨K, P, w⟩ (gHas T.C)) :=
  (okB T.F_H_has sc_H_has (fun ds R h => by obtain ⟨_, _, rfl, _⟩ := h; rfl) fun cdv A gd outer s H E hr => ⟨_, (dss_one (ds_ret (de_and (de_call (ok_is_name T (k := 1) (by decide)) gd hr (by rfl) T.m_is_name T.F_is_name.kp T.b_is_name pass0 (da_cons (dv 1) da_nil)) (de_one (de_inH (u1 hr) (dv 1) (de_ents T.cl T.nE (dv 0))))))), fun ds R h => by
      obtain ⟨es, n, rfl, hn, h⟩ := h
      simp only [dSeq, dNext, dBreak, dCont, dDrop, dRet, dRetN, dIfS, dSet, dB, dNotT, dAndT, dOrT, dNot, dAnd, dOr, dIf, dChain, dVar, dC, dOp, dUn, dNil, dCons, dCall, dTup, dLst, pyAll, dSl, dNo, dPart, dAsg, dPar, dDig, dMix, dPutD, dPutM, dM1, dFor, dItL, dItU, dItS, dItR1, dItR2, dItSc, dItZip, dLc, dYes, gdName, wipeD, asP, asB, asI, asS, asL, asU, sliceD, fCmp, fAdd, startD, fI, true_and, and_true, List.getD_cons_zero, List.getD_cons_succ, List.set_cons_zero, List.set_cons_succ, List.map_cons, List.map_nil, List.length_cons, List.length_nil, Nat.zero_add, Nat.reduceAdd, Nat.reduceSub, List.replicate, List.cons_append, List.nil_append, if_true, if_false, reduceIte, Bool.false_eq_true, Bool.not_true, Bool.not_false]
      refine ⟨_, rfl, wtS (Nat.le_trans (isName_str hn) (by decide)), ?_⟩
      rw [hn]
      exact ⟨rfl, h⟩⟩).mono hk
theorem ok_H_need (T : Tx K mg) {k : Nat} (hk : 3 ≤ k) : FnG P w K mg base CX0 k T.a_H_need T.d_H_need ["self", "name", "sort"] (spD ⟨K, P, w⟩ (gNeed T.C)) :=
  (okB T.F_H_need sc_H_need (fun ds R h => by obtain ⟨_, _, _, _, rfl, _⟩ := h; rfl) fun cdv A gd outer s H E hr => ⟨_, (dss_cons (ds_if (dw_or (dt_not (dt_val (de_methR (by decide +kernel) (by decide +kernel) (dv 0) T.cl T.mt_H_has (ok_H_has T (k := 2) (by decide)) gd hr T.b_H_has pass0 (da_cons (dv 1) da_nil)))) (dw_or1 (dt_cmp (od_neQ hr.units) (de_ix (de_ixH (u1 hr) (de_ents T.cl T.nE (dv 0)) (dv 1)) de_int) (dv 2)))).pt dss_never dss_nil)
    (dss_one (ds_ret (de_ix (de_ixH (u1 hr) (de_ents T.cl T.nE (dv 0)) (dv 1)) de_int)))), fun ds R h => by
      obtain ⟨es, n, so, x, rfl, hn, hg, h⟩ := h
      simp only [dSeq, dNext, dBreak, dCont, dDrop, dRet, dRetN, dIfS, dSet, dB, dNotT, dAndT, dOrT, dNot, dAnd, dOr, dIf, dChain, dVar, dC, dOp, dUn, dNil, dCons, dCall, dTup, dLst, pyAll, dSl, dNo, dPart, dAsg, dPar, dDig, dMix, dPutD, dPutM, dM1, dFor, dItL, dItU, dItS, dItR1, dItR2, dItSc, dItZip, dLc, dYes, gdName, wipeD, asP, asB, asI, asS, asL, asU, sliceD, fCmp, fAdd, startD, fI, true_and, and_true, List.getD_cons_zero, List.getD_cons_succ, List.set_cons_zero, List.set_cons_succ, List.map_cons, List.map_nil, List.length_cons, List.length_nil, Nat.zero_add, Nat.reduceAdd, Nat.reduceSub, List.replicate, List.cons_append, List.nil_append, if_true, if_false, reduceIte, Bool.false_eq_true, Bool.not_true, Bool.not_false]
      refine ⟨rfl, es, n, rfl, hn, ?_⟩
      rw [hg]
      refine ⟨rfl, _, hg, _, rfl, rfl, rfl, Nat.zero_le _, ?_⟩
      show (if (!PyData.eqv (.str so) (.str so)) = true then _ else _)
      rw [eqv_ss, decide_eq_true rfl]
      exact ⟨rfl, _, hg, _, rfl, h⟩⟩).mono hk
theorem ok_H_add_mailbox (T : Tx K mg) {k : Nat} (hk : 17 ≤ k) : FnG P w K mg base CX0 k T.a_H_add_mailbox T.d_H_add_mailbox ["self", "name", "rules"] (spH ⟨K, P, w⟩ (hMbx T.C)) :=
  (okMA 0 T.F_H_add_mailbox sc_H_add_mailbox (fun o ds R h => by obtain ⟨_, _, _, _, _, rfl, rfl, _⟩ := h; exact ⟨rfl, rfl⟩) fun cdv A gd outer s H E hr => ⟨_, (dss_cons (ds_expr (de_lend (i := 0) (de_methR (by decide +kernel) (by decide +kernel) (dv 0) T.cl T.mt_H_need_new (ok_H_need_new T (k := 16) (by decide)) gd hr T.b_H_need_new pass0 (da_cons (dv 1) da_nil))))
    (dss_cons (ds_set (i := 3) sc_H_add_mailbox.nd rfl (by first | exact Or.inl rfl | exact Or.inr rfl) (de_call (ok_need_rules T (k := 16) (by decide)) gd hr (by rfl) T.m_need_rules T.F_need_rules.kp T.b_need_rules pass0 (da_cons (dv 2) da_nil)))
    (dss_cons (ds_expr (de_lend (i := 0) (de_methR (by decide +kernel) (by decide +kernel) (dv 0) T.cl T.mt_H_need_room (ok_H_need_room T (k := 16) (by decide)) gd hr T.b_H_need_room pass0 (da_cons (dv 1) da_nil))))
    (dss_one (ds_meth (i := 0) (pv 0) (by decide +kernel) (by decide +kernel) T.cl T.mt_H_put (ok_H_put T (k := 16) (by decide)) gd hr T.b_H_put .nil pass0 kok_plain (da_cons (dv 1) (da_cons (de_tup (da_cons de_str (da_cons (dv 3) da_nil))) da_nil))))))), fun o ds R h => by
      obtain ⟨a, d, es, n, rl, rfl, rfl, hn, hg, hl, g, h⟩ := h
      simp only [dSeq, dNext, dBreak, dCont, dDrop, dRet, dRetN, dIfS, dSet, dB, dNotT, dAndT, dOrT, dNot, dAnd, dOr, dIf, dChain, dVar, dC, dOp, dUn, dNil, dCons, dCall, dTup, dLst, pyAll, dSl, dNo, dPart, dAsg, dPar, dDig, dMix, dPutD, dPutM, dM1, dFor, dItL, dItU, dItS, dItR1, dItR2, dItSc, dItZip, dLc, dYes, gdName, wipeD, asP, asB, asI, asS, asL, asU, sliceD, fCmp, fAdd, startD, fI, true_and, and_true, List.getD_cons_zero, List.getD_cons_succ, List.set_cons_zero, List.set_cons_succ, List.map_cons, List.map_nil, List.length_cons, List.length_nil, Nat.zero_add, Nat.reduceAdd, Nat.reduceSub, List.replicate, List.cons_append, List.nil_append, if_true, if_false, reduceIte, Bool.false_eq_true, Bool.not_true, Bool.not_false]
      exact ⟨rfl, es, n, rfl, hn, hg, rl, rfl, g, rfl, es, n, rfl, hl, rfl, (show 2 ≤ sizeLine by decide), a, d, es, n, _, rfl, rfl, Nat.le_trans (Nat.le_of_lt hl) (by decide), _, rfl, ⟨rfl, rfl, rfl⟩, h⟩⟩).mono hk
theorem ok_H_entry_of (T : Tx K mg) {k : Nat} (hk : 1 ≤ k) : FnG P w K mg base CX0 k T.a_H_entry_of T.d_H_entry_of ["self", "name"] (spD ⟨K, P, w⟩ (gEnt T.C)) :=
  (okB T.F_H_entry_of sc_H_entry_of (fun ds R h => by obtain ⟨_, _, rfl, _⟩ := h; rfl) fun cdv A gd outer s H E hr => ⟨_, (dss_one (ds_ret (de_getH (u1 hr) (de_ents T.cl T.nE (dv 0)) (dv 1) ⟨rfl, rfl, rfl, rfl⟩))), fun ds R h => by
      obtain ⟨es, n, rfl, h⟩ := h
      exact ⟨rfl, h⟩⟩).mono hk
theorem ok_H_rules_of (T : Tx K mg) {k : Nat} (hk : 4 ≤ k) : FnG P w K mg base CX0 k T.a_H_rules_of T.d_H_rules_of ["self", "name"] (spD ⟨K, P, w⟩ (gRulesOf T.C)) :=
  (okB T.F_H_rules_of sc_H_rules_of (fun ds R h => by obtain ⟨_, _, _, rfl, _⟩ := h; rfl) fun cdv A gd outer s H E hr => ⟨_, (dss_one (ds_ret (de_methR (by decide +kernel) (by decide +kernel) (dv 0) T.cl T.mt_H_need (ok_H_need T (k := 3) (by decide)) gd hr T.b_H_need pass0 (da_cons (dv 1) (da_cons de_str da_nil))))), fun ds R h => by
      obtain ⟨es, n, x, rfl, hn, hg, h⟩ := h
      exact ⟨rfl, es, n, Str.ofString "mailbox", x, rfl, hn, hg, h⟩⟩).mono hk
theorem ok_at_mailbox (T : Tx K mg) {k : Nat} (hk : 9 ≤ k) : FnG P w K mg base CX0 k T.a_at_mailbox T.d_at_mailbox ["rules", "message"] (spD ⟨K, P, w⟩ gMb) :=
  (okB T.F_at_mailbox sc_at_mailbox (fun ds R h => by obtain ⟨_, _, _, _, _, rfl, _⟩ := h; rfl) fun cdv A gd outer s H E hr => ⟨_, (dss_cons (ds_asg (vs := [2, 3, 4, 5]) (dv 1) (dg_tup (n := 4) rfl (dgs_cons (dg_name (i := 2) (by decide) sc_at_mailbox.nd rfl (by first | exact Or.inl rfl | exact Or.inr rfl)) (dgs_cons (dg_name (i := 3) (by decide) sc_at_mailbox.nd rfl (by first | exact Or.inl rfl | exact Or.inr rfl)) (dgs_cons (dg_name (i := 4) (by decide) sc_at_mailbox.nd rfl (by first | exact Or.inl rfl | exact Or.inr rfl)) (dgs_cons (dg_name (i := 5) (by decide) sc_at_mailbox.nd rfl (by first | exact Or.inl rfl | exact Or.inr rfl)) dgs_nil))))))
    (dss_cons (ds_par3E (i := 6) (j := 7) (l := 8) rfl sc_at_mailbox.nd rfl rfl rfl (by decide) (by decide) (by decide) rfl rfl rfl (by rfl))
    (dss_cons (ds_set (i := 9) sc_at_mailbox.nd rfl (by first | exact Or.inl rfl | exact Or.inr rfl) de_str)
    (dss_cons (ds_for (vs := [10, 11, 12]) PassesOwn.never rfl (di_enumU (by rfl) T.n_enumerate (da_cons (dv 0) da_nil)) (dg_tup (n := 2) rfl (dgs_cons (dg_name (i := 10) (by decide) sc_at_mailbox.nd rfl (by first | exact Or.inl rfl | exact Or.inr rfl)) (dgs_cons (dg_tup (n := 2) rfl (dgs_cons (dg_name (i := 11) (by decide) sc_at_mailbox.nd rfl (by first | exact Or.inl rfl | exact Or.inr rfl)) (dgs_cons (dg_name (i := 12) (by decide) sc_at_mailbox.nd rfl (by first | exact Or.inl rfl | exact Or.inr rfl)) dgs_nil))) dgs_nil))) (dss_cons (ds_if (dt_not (dt_val (de_call (ok_holds T 4 (k := 8) (by decide)) gd hr (by rfl) T.m_holds T.F_holds.kp T.b_holds pass0 (da_cons (dv 11) (da_cons (de_tup (da_cons (dv 2) (da_cons (dv 3) (da_cons (dv 4) (da_cons (dv 5) da_nil))))) da_nil))))) (dss_one ds_continue) dss_nil)
    (dss_cons (ds_app (i := 6) (pv 6) (dv 10) (fun ha => ps_expr (pe_bm PySem.F.plainAttrs_list PySem.F.slot_list_append PySem.F.type_list_append mt_append (pv 6) ha)))
    (dss_cons (ds_for (vs := [13, 14]) PassesOwn.never rfl (di_enumU (by rfl) T.n_enumerate (da_cons (dv 12) da_nil)) (dg_tup (n := 2) rfl (dgs_cons (dg_name (i := 13) (by decide) sc_at_mailbox.nd rfl (by first | exact Or.inl rfl | exact Or.inr rfl)) (dgs_cons (dg_name (i := 14) (by decide) sc_at_mailbox.nd rfl (by first | exact Or.inl rfl | exact Or.inr rfl)) dgs_nil))) (dss_cons (ds_par (i := 15) (j := 16) rfl sc_at_mailbox.nd rfl rfl (by decide) rfl rfl (da_cons (de_ix (dv 14) de_int) (da_cons (de_ix (dv 14) (de_un ud_neg de_int)) da_nil)) (fun ha => ps_par rfl sc_at_mailbox.nd rfl rfl (by decide) rfl rfl ha (by rfl)))
    (dss_cons (ds_set (i := 17) sc_at_mailbox.nd rfl (by first | exact Or.inl rfl | exact Or.inr rfl) (de_tup (da_cons de_str (da_cons (dv 3) (da_cons (dv 10) (da_cons (dv 13) da_nil))))))
    (dss_one (ds_if (dt_cmp (od_eqW hr.units) (dv 15) de_str) (dss_one (ds_app (i := 7) (pv 7) (de_tup (da_cons (dv 16) (da_cons (de_tup (da_cons (dv 2) (da_cons (dv 3) (da_cons (dv 4) (da_cons (dv 5) da_nil))))) da_nil))) (fun ha => ps_expr (pe_bm PySem.F.plainAttrs_list PySem.F.slot_list_append PySem.F.type_list_append mt_append (pv 7) ha)))) (dss_one (ds_if (dt_cmp (od_eqW hr.units) (dv 15) de_str) (dss_one (ds_app (i := 8) (pv 8) (de_tup (da_cons (dv 17) (da_cons (de_tup (da_cons (dv 2) (da_cons (dv 16) (da_cons (dv 4) (da_cons (dv 5) da_nil))))) da_nil))) (fun ha => ps_expr (pe_bm PySem.F.plainAttrs_list PySem.F.slot_list_append PySem.F.type_list_append mt_append (pv 8) ha)))) (dss_one (ds_if (dt_cmp (od_eqW hr.units) (dv 15) de_str) (dss_one (ds_app (i := 8) (pv 8) (de_tup (da_cons (dv 17) (da_cons (de_tup (da_cons (dv 3) (da_cons (dv 2) (da_cons (de_op od_add (dv 16) (dv 4)) (da_cons (de_call (ok_with_mark T (k := 8) (by decide)) gd hr (by rfl) T.m_with_mark T.F_with_mark.kp T.b_with_mark pass0 (da_cons (dv 5) (da_cons (de_glob (d := .p (.str "auto")) (v := .str "auto") (by rfl) T.c_REPLY_MARK ⟨_, rfl⟩ (fun _ => rfl)) da_nil))) da_nil))))) da_nil))) (fun ha => ps_expr (pe_bm PySem.F.plainAttrs_list PySem.F.slot_list_append PySem.F.type_list_append mt_append (pv 8) ha)))) (dss_one (ds_if (dt_cmp (od_eqW hr.units) (dv 15) de_str) (dss_one (ds_set (i := 4) sc_at_mailbox.nd rfl (by first | exact Or.inl rfl | exact Or.inr rfl) (de_op od_add (dv 16) (dv 4)))) (dss_one (ds_if (dt_cmp (od_eqW hr.units) (dv 15) de_str) (dss_one (ds_set (i := 5) sc_at_mailbox.nd rfl (by first | exact Or.inl rfl | exact Or.inr rfl) (de_call (ok_with_mark T (k := 8) (by decide)) gd hr (by rfl) T.m_with_mark T.F_with_mark.kp T.b_with_mark pass0 (da_cons (dv 5) (da_cons (dv 16) da_nil))))) (dss_one (ds_set (i := 9) sc_at_mailbox.nd rfl (by first | exact Or.inl rfl | exact Or.inr rfl) (dv 15))))))))))))))))
    (dss_one (ds_if (dt_truS (dv 9)) (dss_one ds_break) dss_nil))))))
    (dss_cons (ds_if (dt_frz (i := 7) (dw_and (dt_not (dt_truL (dv 7))) (dw_and1 (dt_cmp (od_neQ hr.units) (dv 9) de_str))).pt) (dss_one (ds_app (i := 7) (pv 7) (de_tup (da_cons (de_glob (d := .p (.str "inbox")) (v := .str "inbox") (by rfl) T.c_INBOX ⟨_, rfl⟩ (fun _ => rfl)) (da_cons (de_tup (da_cons (dv 2) (da_cons (dv 3) (da_cons (dv 4) (da_cons (dv 5) da_nil))))) da_nil))) (fun ha => ps_expr (pe_bm PySem.F.plainAttrs_list PySem.F.slot_list_append PySem.F.type_list_append mt_append (pv 7) ha)))) dss_nil)
    (dss_one (ds_frz (i := 6) (ds_frz (i := 7) (ds_frz (i := 8) (ds_ret (de_tup (da_cons (dv 6) (da_cons (dv 7) (da_cons (dv 8) da_nil)))))))))))))), fun ds R h => by
      obtain ⟨rl, s, a, u, ms, rfl, hl, hr, hw, hu, hm, h⟩ := h
      simp only [dSeq, dNext, dBreak, dCont, dDrop, dRet, dRetN, dIfS, dSet, dB, dNotT, dAndT, dOrT, dNot, dAnd, dOr, dIf, dChain, dVar, dC, dOp, dUn, dNil, dCons, dCall, dTup, dLst, pyAll, dSl, dNo, dPart, dAsg, dPar, dDig, dMix, dPutD, dPutM, dM1, dFor, dItL, dItU, dItS, dItR1, dItR2, dItSc, dItZip, dLc, dYes, gdName, wipeD, asP, asB, asI, asS, asL, asU, sliceD, fCmp, fAdd, startD, fI, true_and, and_true, List.getD_cons_zero, List.getD_cons_succ, List.set_cons_zero, List.set_cons_succ, List.map_cons, List.map_nil, List.length_cons, List.length_nil, Nat.zero_add, Nat.reduceAdd, Nat.reduceSub, List.replicate, List.cons_append, List.nil_append, if_true, if_false, reduceIte, Bool.false_eq_true, Bool.not_true, Bool.not_false]
      refine ⟨rfl, _, _, rfl, _, _, rfl, _, _, rfl, _, _, rfl, rfl, ?_⟩
      have z : Bnd 0 [] (⟨u, ms, [], [], ""⟩ : MS) := ⟨Nat.le_refl _, by show u.length ≤ _; omega, by show ms.length ≤ _; omega, Nat.le_refl _, Nat.le_refl _⟩
      refine rules_l (σ0 := ⟨u, ms, [], [], ""⟩) hl hr hw z rfl fun f σ er b y10 y11 y12 y13 y14 y15 y16 y17 => ?_
      rw [er] at h
      exact last_l (Nat.le_trans b.fl (by decide)) h⟩).mono hk
theorem ok_at_list (T : Tx K mg) {k : Nat} (hk : 2 ≤ k) : FnG P w K mg base CX0 k T.a_at_list T.d_at_list ["what", "message"] (spD ⟨K, P, w⟩ gAt) :=
  (okB T.F_at_list sc_at_list (fun ds R h => by obtain ⟨_, _, _, _, _, _, _, _, rfl, _⟩ := h; rfl) fun cdv A gd outer s H E hr => ⟨_, (dss_cons (ds_asg (vs := [2, 3, 4, 5]) (dv 0) (dg_tup (n := 4) rfl (dgs_cons (dg_name (i := 2) (by decide) sc_at_list.nd rfl (by first | exact Or.inl rfl | exact Or.inr rfl)) (dgs_cons (dg_name (i := 3) (by decide) sc_at_list.nd rfl (by first | exact Or.inl rfl | exact Or.inr rfl)) (dgs_cons (dg_name (i := 4) (by decide) sc_at_list.nd rfl (by first | exact Or.inl rfl | exact Or.inr rfl)) (dgs_cons (dg_name (i := 5) (by decide) sc_at_list.nd rfl (by first | exact Or.inl rfl | exact Or.inr rfl)) dgs_nil))))))
    (dss_cons (ds_asg (vs := [6, 7, 8, 9]) (dv 1) (dg_tup (n := 4) rfl (dgs_cons (dg_name (i := 6) (by decide) sc_at_list.nd rfl (by first | exact Or.inl rfl | exact Or.inr rfl)) (dgs_cons (dg_name (i := 7) (by decide) sc_at_list.nd rfl (by first | exact Or.inl rfl | exact Or.inr rfl)) (dgs_cons (dg_name (i := 8) (by decide) sc_at_list.nd rfl (by first | exact Or.inl rfl | exact Or.inr rfl)) (dgs_cons (dg_name (i := 9) (by decide) sc_at_list.nd rfl (by first | exact Or.inl rfl | exact Or.inr rfl)) dgs_nil))))))
    (dss_cons (ds_if (dw_and (dt_val (dv 5)) (dw_and1 (dt_cmp (od_notinW (u66 hr)) (dv 6) (dv 2)))).pt (dss_one (ds_ret (de_lst da_nil))) dss_nil)
    (dss_cons (ds_if (dt_cmp od_notinS (dv 3) (dv 8)) (dss_one (ds_set (i := 8) sc_at_list.nd rfl (by first | exact Or.inl rfl | exact Or.inr rfl) (de_op od_add (dv 3) (dv 8)))) dss_nil)
    (dss_cons (ds_if (dt_truS (dv 4)) (dss_one (ds_set (i := 9) sc_at_list.nd rfl (by first | exact Or.inl rfl | exact Or.inr rfl) (de_call (ok_with_mark T (k := 1) (by decide)) gd hr (by rfl) T.m_with_mark T.F_with_mark.kp T.b_with_mark pass0 (da_cons (dv 9) (da_cons (dv 4) da_nil))))) dss_nil)
    (dss_one (ds_ret (de_lc (own := [("member", 10)]) rfl sc_at_list.nd (di_tup (dv 2)) (blkOk_by (N := ["what", "message", "members", "tag", "mark", "closed", "sender", "address", "subject", "marks", "member"]) (own := [("member", 10)]) (sc := defScope s_at_list) (by decide +kernel)) (fun _ _ _ _ _ => (dg_name (i := 10) (by decide) sc_at_list.nd rfl (by first | exact Or.inl rfl | exact Or.inr rfl))) (fun _ _ _ _ _ => dts_nil) (fun _ _ _ _ _ => (de_tup (da_cons (de_tup (da_cons de_str (da_cons (dv 7) (da_cons (dv 10) da_nil)))) (da_cons (de_tup (da_cons (dv 6) (da_cons (dv 10) (da_cons (dv 8) (da_cons (dv 9) da_nil))))) da_nil)))))))))))), fun ds R h => by
      obtain ⟨mem, tag, mk, cl, s1, a, u, ms, rfl, sm, hk1, h⟩ := h
      simp only [dSeq, dNext, dBreak, dCont, dDrop, dRet, dRetN, dIfS, dSet, dB, dNotT, dAndT, dOrT, dNot, dAnd, dOr, dIf, dChain, dVar, dC, dOp, dUn, dNil, dCons, dCall, dTup, dLst, pyAll, dSl, dNo, dPart, dAsg, dPar, dDig, dMix, dPutD, dPutM, dM1, dFor, dItL, dItU, dItS, dItR1, dItR2, dItSc, dItZip, dLc, dYes, gdName, wipeD, asP, asB, asI, asS, asL, asU, sliceD, fCmp, fAdd, startD, fI, true_and, and_true, List.getD_cons_zero, List.getD_cons_succ, List.set_cons_zero, List.set_cons_succ, List.map_cons, List.map_nil, List.length_cons, List.length_nil, Nat.zero_add, Nat.reduceAdd, Nat.reduceSub, List.replicate, List.cons_append, List.nil_append, if_true, if_false, reduceIte, Bool.false_eq_true, Bool.not_true, Bool.not_false]
      refine ⟨rfl, _, _, rfl, _, _, rfl, _, _, rfl, _, _, rfl, rfl, ?_⟩
      simp only [dSeq, dNext, dBreak, dCont, dDrop, dRet, dRetN, dIfS, dSet, dB, dNotT, dAndT, dOrT, dNot, dAnd, dOr, dIf, dChain, dVar, dC, dOp, dUn, dNil, dCons, dCall, dTup, dLst, pyAll, dSl, dNo, dPart, dAsg, dPar, dDig, dMix, dPutD, dPutM, dM1, dFor, dItL, dItU, dItS, dItR1, dItR2, dItSc, dItZip, dLc, dYes, gdName, wipeD, asP, asB, asI, asS, asL, asU, sliceD, fCmp, fAdd, startD, fI, true_and, and_true, List.getD_cons_zero, List.getD_cons_succ, List.set_cons_zero, List.set_cons_succ, List.map_cons, List.map_nil, List.length_cons, List.length_nil, Nat.zero_add, Nat.reduceAdd, Nat.reduceSub, List.replicate, List.cons_append, List.nil_append, if_true, if_false, reduceIte, Bool.false_eq_true, Bool.not_true, Bool.not_false]
      refine ⟨rfl, _, _, rfl, _, _, rfl, _, _, rfl, _, _, rfl, rfl, ?_⟩
      simp only [dSeq, dNext, dBreak, dCont, dDrop, dRet, dRetN, dIfS, dSet, dB, dNotT, dAndT, dOrT, dNot, dAnd, dOr, dIf, dChain, dVar, dC, dOp, dUn, dNil, dCons, dCall, dTup, dLst, pyAll, dSl, dNo, dPart, dAsg, dPar, dDig, dMix, dPutD, dPutM, dM1, dFor, dItL, dItU, dItS, dItR1, dItR2, dItSc, dItZip, dLc, dYes, gdName, wipeD, asP, asB, asI, asS, asL, asU, sliceD, fCmp, fAdd, startD, fI, true_and, and_true, List.getD_cons_zero, List.getD_cons_succ, List.set_cons_zero, List.set_cons_succ, List.map_cons, List.map_nil, List.length_cons, List.length_nil, Nat.zero_add, Nat.reduceAdd, Nat.reduceSub, List.replicate, List.cons_append, List.nil_append, if_true, if_false, reduceIte, Bool.false_eq_true, Bool.not_true, Bool.not_false]
      by_cases hg : goesB cl s1 mem = true
      · refine gate_t hg ?_
        by_cases q2 : inS tag u = true
        · refine fNis_of (b := false) (by rw [q2]; rfl) (ite_f ?_)
          exact at_mid sm.1 (Nat.le_trans hk1 (by decide)) sm.2.2.2 (by rw [atL, if_pos hg, lineS, if_pos q2] at h; exact h)
        · refine fNis_of (b := true) (by rw [Bool.eq_false_iff.mpr q2]; rfl) (ite_t ⟨?_, ?_⟩)
          · have := sm.2.1
            have := sm.2.2.1
            exact Nat.le_trans (show tag.length + u.length ≤ 108 by omega) (by decide)
          · exact at_mid sm.1 (Nat.le_trans hk1 (by decide)) sm.2.2.2 (by rw [atL, if_pos hg, lineS, if_neg q2] at h; exact h)
      · obtain ⟨rfl, q⟩ := goes_f hg
        rw [atL, if_neg hg] at h
        refine ite_t ⟨mem, rfl, ?_⟩
        show (if (!inW (.str s1) mem) = true then _ else _)
        rw [q]
        exact ⟨by decide, rfl, h⟩⟩).mono hk
theorem ok_arrival_at (T : Tx K mg) {k : Nat} (hk : 10 ≤ k) : FnG P w K mg base CX0 k T.a_arrival_at T.d_arrival_at ["house", "message"] (spD ⟨K, P, w⟩ (gArrAtP T.C)) :=
  (okB T.F_arrival_at sc_arrival_at (fun ds R h => by obtain ⟨_, _, _, _, _, _, rfl, _⟩ := h; rfl) fun cdv A gd outer s H E hr => ⟨_, (dss_cons (ds_asg (vs := [2, 3, 4, 5]) (dv 1) (dg_tup (n := 4) rfl (dgs_cons (dg_name (i := 2) (by decide) sc_arrival_at.nd rfl (by first | exact Or.inl rfl | exact Or.inr rfl)) (dgs_cons (dg_name (i := 3) (by decide) sc_arrival_at.nd rfl (by first | exact Or.inl rfl | exact Or.inr rfl)) (dgs_cons (dg_name (i := 4) (by decide) sc_arrival_at.nd rfl (by first | exact Or.inl rfl | exact Or.inr rfl)) (dgs_cons (dg_name (i := 5) (by decide) sc_arrival_at.nd rfl (by first | exact Or.inl rfl | exact Or.inr rfl)) dgs_nil))))))
    (dss_cons (ds_asg (vs := [6, 7]) (de_methR (by decide +kernel) (by decide +kernel) (dv 0) T.cl T.mt_H_entry_of (ok_H_entry_of T (k := 9) (by decide)) gd hr T.b_H_entry_of pass0 (da_cons (dv 3) da_nil)) (dg_tup (n := 2) rfl (dgs_cons (dg_name (i := 6) (by decide) sc_arrival_at.nd rfl (by first | exact Or.inl rfl | exact Or.inr rfl)) (dgs_cons (dg_name (i := 7) (by decide) sc_arrival_at.nd rfl (by first | exact Or.inl rfl | exact Or.inr rfl)) dgs_nil))))
    (dss_cons (ds_if (dt_cmp (od_eqW hr.units) (dv 6) de_str) (dss_one (ds_ret (de_call (ok_at_mailbox T (k := 9) (by decide)) gd hr (by rfl) T.m_at_mailbox T.F_at_mailbox.kp T.b_at_mailbox pass0 (da_cons (dv 7) (da_cons (dv 1) da_nil))))) dss_nil)
    (dss_cons (ds_if (dt_cmp (od_eqW hr.units) (dv 6) de_str) (dss_one (ds_ret (de_tup (da_cons (de_lst da_nil) (da_cons (de_lst da_nil) (da_cons (de_call (ok_at_list T (k := 9) (by decide)) gd hr (by rfl) T.m_at_list T.F_at_list.kp T.b_at_list pass0 (da_cons (dv 7) (da_cons (dv 1) da_nil))) da_nil)))))) dss_nil)
    (dss_one (ds_ret (de_tup (da_cons (de_lst da_nil) (da_cons (de_lst da_nil) (da_cons (de_lst (da_cons (de_tup (da_cons (de_tup (da_cons de_str (da_cons (dv 3) da_nil))) (da_cons (de_tup (da_cons (dv 2) (da_cons (dv 7) (da_cons (dv 4) (da_cons (dv 5) da_nil))))) da_nil))) da_nil)) da_nil)))))))))), fun ds R h => by
      obtain ⟨es, s1, a, u, ms, e, rfl, hg, he, hu, hm, h⟩ := h
      simp only [dSeq, dNext, dBreak, dCont, dDrop, dRet, dRetN, dIfS, dSet, dB, dNotT, dAndT, dOrT, dNot, dAnd, dOr, dIf, dChain, dVar, dC, dOp, dUn, dNil, dCons, dCall, dTup, dLst, pyAll, dSl, dNo, dPart, dAsg, dPar, dDig, dMix, dPutD, dPutM, dM1, dFor, dItL, dItU, dItS, dItR1, dItR2, dItSc, dItZip, dLc, dYes, gdName, wipeD, asP, asB, asI, asS, asL, asU, sliceD, fCmp, fAdd, startD, fI, true_and, and_true, List.getD_cons_zero, List.getD_cons_succ, List.set_cons_zero, List.set_cons_succ, List.map_cons, List.map_nil, List.length_cons, List.length_nil, Nat.zero_add, Nat.reduceAdd, Nat.reduceSub, List.replicate, List.cons_append, List.nil_append, if_true, if_false, reduceIte, Bool.false_eq_true, Bool.not_true, Bool.not_false]
      refine ⟨rfl, _, _, rfl, _, _, rfl, _, _, rfl, _, _, rfl, rfl, ?_⟩
      simp only [dSeq, dNext, dBreak, dCont, dDrop, dRet, dRetN, dIfS, dSet, dB, dNotT, dAndT, dOrT, dNot, dAnd, dOr, dIf, dChain, dVar, dC, dOp, dUn, dNil, dCons, dCall, dTup, dLst, pyAll, dSl, dNo, dPart, dAsg, dPar, dDig, dMix, dPutD, dPutM, dM1, dFor, dItL, dItU, dItS, dItR1, dItR2, dItSc, dItZip, dLc, dYes, gdName, wipeD, asP, asB, asI, asS, asL, asU, sliceD, fCmp, fAdd, startD, fI, true_and, and_true, List.getD_cons_zero, List.getD_cons_succ, List.set_cons_zero, List.set_cons_succ, List.map_cons, List.map_nil, List.length_cons, List.length_nil, Nat.zero_add, Nat.reduceAdd, Nat.reduceSub, List.replicate, List.cons_append, List.nil_append, if_true, if_false, reduceIte, Bool.false_eq_true, Bool.not_true, Bool.not_false]
      refine ⟨rfl, es, a, rfl, ?_⟩
      rw [hg]
      cases e with
      | mb rl =>
        have he : MbG rl := he
        refine ⟨rfl, _, _, rfl, _, _, rfl, rfl, ?_⟩
        simp only [dSeq, dNext, dBreak, dCont, dDrop, dRet, dRetN, dIfS, dSet, dB, dNotT, dAndT, dOrT, dNot, dAnd, dOr, dIf, dChain, dVar, dC, dOp, dUn, dNil, dCons, dCall, dTup, dLst, pyAll, dSl, dNo, dPart, dAsg, dPar, dDig, dMix, dPutD, dPutM, dM1, dFor, dItL, dItU, dItS, dItR1, dItR2, dItSc, dItZip, dLc, dYes, gdName, wipeD, asP, asB, asI, asS, asL, asU, sliceD, fCmp, fAdd, startD, fI, true_and, and_true, List.getD_cons_zero, List.getD_cons_succ, List.set_cons_zero, List.set_cons_succ, List.map_cons, List.map_nil, List.length_cons, List.length_nil, Nat.zero_add, Nat.reduceAdd, Nat.reduceSub, List.replicate, List.cons_append, List.nil_append, if_true, if_false, reduceIte, Bool.false_eq_true, Bool.not_true, Bool.not_false]
        refine fEqW_of (b := true) (by decide +kernel) (ite_t ?_)
        exact ⟨rl, s1, a, u, ms, rfl, he.len, fun r m => (he.g r m).ok, fun r m x mx => Nat.le_trans ((he.g r m).as.w x mx) (by decide), Nat.le_trans hu (by decide), hm, h⟩
      | en e => cases e with
        | lst mem tag mk cl =>
          have he : GoodL mem tag mk := he
          refine ⟨rfl, _, _, rfl, _, _, rfl, rfl, ?_⟩
          simp only [dSeq, dNext, dBreak, dCont, dDrop, dRet, dRetN, dIfS, dSet, dB, dNotT, dAndT, dOrT, dNot, dAnd, dOr, dIf, dChain, dVar, dC, dOp, dUn, dNil, dCons, dCall, dTup, dLst, pyAll, dSl, dNo, dPart, dAsg, dPar, dDig, dMix, dPutD, dPutM, dM1, dFor, dItL, dItU, dItS, dItR1, dItR2, dItSc, dItZip, dLc, dYes, gdName, wipeD, asP, asB, asI, asS, asL, asU, sliceD, fCmp, fAdd, startD, fI, true_and, and_true, List.getD_cons_zero, List.getD_cons_succ, List.set_cons_zero, List.set_cons_succ, List.map_cons, List.map_nil, List.length_cons, List.length_nil, Nat.zero_add, Nat.reduceAdd, Nat.reduceSub, List.replicate, List.cons_append, List.nil_append, if_true, if_false, reduceIte, Bool.false_eq_true, Bool.not_true, Bool.not_false]
          refine fEqW_of (b := false) (by decide +kernel) (ite_f ?_)
          refine fEqW_of (b := true) (by decide +kernel) (ite_t ?_)
          exact ⟨by decide, rfl, by decide, rfl, mem, tag, mk, cl, s1, a, u, ms, rfl, ⟨he.mm.len, tagLen he.tg, hu, hm⟩, mkLen he.mr, (show 3 ≤ sizeLine by decide), h⟩
        | ali t =>
          refine ⟨rfl, _, _, rfl, _, _, rfl, rfl, ?_⟩
          simp only [dSeq, dNext, dBreak, dCont, dDrop, dRet, dRetN, dIfS, dSet, dB, dNotT, dAndT, dOrT, dNot, dAnd, dOr, dIf, dChain, dVar, dC, dOp, dUn, dNil, dCons, dCall, dTup, dLst, pyAll, dSl, dNo, dPart, dAsg, dPar, dDig, dMix, dPutD, dPutM, dM1, dFor, dItL, dItU, dItS, dItR1, dItR2, dItSc, dItZip, dLc, dYes, gdName, wipeD, asP, asB, asI, asS, asL, asU, sliceD, fCmp, fAdd, startD, fI, true_and, and_true, List.getD_cons_zero, List.getD_cons_succ, List.set_cons_zero, List.set_cons_succ, List.map_cons, List.map_nil, List.length_cons, List.length_nil, Nat.zero_add, Nat.reduceAdd, Nat.reduceSub, List.replicate, List.cons_append, List.nil_append, if_true, if_false, reduceIte, Bool.false_eq_true, Bool.not_true, Bool.not_false]
          refine fEqW_of (b := false) (by decide +kernel) (ite_f ?_)
          refine fEqW_of (b := false) (by decide +kernel) (ite_f ?_)
          exact ⟨by decide, rfl, by decide, rfl, (show 2 ≤ sizeLine by decide), (show 4 ≤ sizeLine by decide), (show 2 ≤ sizeLine by decide), (show 1 ≤ sizeLine by decide), rfl, (show 3 ≤ sizeLine by decide), h⟩⟩).mono hk
theorem ok_arrives (T : Tx K mg) {k : Nat} (hk : 2 ≤ k) : FnG P w K mg base CX0 k T.a_arrives T.d_arrives ["house", "message"] (spD ⟨K, P, w⟩ (gArrsP T.C)) :=
  (okB T.F_arrives sc_arrives (fun ds R h => by obtain ⟨_, _, _, _, _, _, rfl, _⟩ := h; rfl) fun cdv A gd outer s H E hr => ⟨_, (dss_one (ds_ret (de_cmp od_notN (de_methR (by decide +kernel) (by decide +kernel) (dv 0) T.cl T.mt_H_entry_of (ok_H_entry_of T (k := 1) (by decide)) gd hr T.b_H_entry_of pass0 (da_cons (de_ix (dv 1) de_int) da_nil)) de_non))), fun ds R h => by
      obtain ⟨es, s1, a, u, ms, e, rfl, hg, h⟩ := h
      simp only [dSeq, dNext, dBreak, dCont, dDrop, dRet, dRetN, dIfS, dSet, dB, dNotT, dAndT, dOrT, dNot, dAnd, dOr, dIf, dChain, dVar, dC, dOp, dUn, dNil, dCons, dCall, dTup, dLst, pyAll, dSl, dNo, dPart, dAsg, dPar, dDig, dMix, dPutD, dPutM, dM1, dFor, dItL, dItU, dItS, dItR1, dItR2, dItSc, dItZip, dLc, dYes, gdName, wipeD, asP, asB, asI, asS, asL, asU, sliceD, fCmp, fAdd, startD, fI, true_and, and_true, List.getD_cons_zero, List.getD_cons_succ, List.set_cons_zero, List.set_cons_succ, List.map_cons, List.map_nil, List.length_cons, List.length_nil, Nat.zero_add, Nat.reduceAdd, Nat.reduceSub, List.replicate, List.cons_append, List.nil_append, if_true, if_false, reduceIte, Bool.false_eq_true, Bool.not_true, Bool.not_false]
      refine ⟨rfl, _, rfl, es, a, rfl, ?_⟩
      rw [hg]
      cases e with
      | mb rl => exact ⟨rfl, h⟩
      | en e => cases e <;> exact ⟨rfl, h⟩⟩).mono hk
theorem ok_arrive (T : Tx K mg) {k : Nat} (hk : 11 ≤ k) : FnG P w K mg base CX0 k T.a_arrive T.d_arrive ["house", "message"] (spD ⟨K, P, w⟩ (gArrP T.C)) :=
  (okB T.F_arrive sc_arrive (fun ds R h => by obtain ⟨_, _, _, _, _, _, rfl, _⟩ := h; rfl) fun cdv A gd outer s H E hr => ⟨_, (dss_cons (ds_if (dw_or (dt_not (dt_val (de_call (ok_is_message T (k := 10) (by decide)) gd hr (by rfl) T.m_is_message T.F_is_message.kp T.b_is_message pass0 (da_cons (dv 1) da_nil)))) (dw_or1 (dt_not (dt_val (de_call (ok_arrives T (k := 10) (by decide)) gd hr (by rfl) T.m_arrives T.F_arrives.kp T.b_arrives pass0 (da_cons (dv 0) (da_cons (dv 1) da_nil))))))).pt (dss_one ds_never) dss_nil)
    (dss_cons (ds_asg (vs := [2, 3, 4]) (de_call (ok_arrival_at T (k := 10) (by decide)) gd hr (by rfl) T.m_arrival_at T.F_arrival_at.kp T.b_arrival_at pass0 (da_cons (dv 0) (da_cons (dv 1) da_nil))) (dg_tup (n := 3) rfl (dgs_cons (dg_name (i := 2) (by decide) sc_arrive.nd rfl (by first | exact Or.inl rfl | exact Or.inr rfl)) (dgs_cons (dg_name (i := 3) (by decide) sc_arrive.nd rfl (by first | exact Or.inl rfl | exact Or.inr rfl)) (dgs_cons (dg_name (i := 4) (by decide) sc_arrive.nd rfl (by first | exact Or.inl rfl | exact Or.inr rfl)) dgs_nil)))))
    (dss_one (ds_ret (de_tup (da_cons (de_lc (own := [("folder", 5), ("_", 6)]) rfl sc_arrive.nd (di_list (dv 3)) (blkOk_by (N := ["house", "message", "fired", "filed", "sent", "folder", "_", "cut", "copy"]) (own := [("folder", 5), ("_", 6)]) (sc := defScope s_arrive) (by decide +kernel)) (fun _ _ _ _ _ => (dg_tup (n := 2) rfl (dgs_cons (dg_name (i := 5) (by decide) sc_arrive.nd rfl (by first | exact Or.inl rfl | exact Or.inr rfl)) (dgs_cons (dg_name (i := 6) (by decide) sc_arrive.nd rfl (by first | exact Or.inl rfl | exact Or.inr rfl)) dgs_nil)))) (fun _ _ _ _ _ => dts_nil) (fun _ _ _ _ _ => (dv 5))) (da_cons (de_lc (own := [("cut", 7), ("copy", 8)]) rfl sc_arrive.nd (di_list (dv 4)) (blkOk_by (N := ["house", "message", "fired", "filed", "sent", "folder", "_", "cut", "copy"]) (own := [("cut", 7), ("copy", 8)]) (sc := defScope s_arrive) (by decide +kernel)) (fun _ _ _ _ _ => (dg_tup (n := 2) rfl (dgs_cons (dg_name (i := 7) (by decide) sc_arrive.nd rfl (by first | exact Or.inl rfl | exact Or.inr rfl)) (dgs_cons (dg_name (i := 8) (by decide) sc_arrive.nd rfl (by first | exact Or.inl rfl | exact Or.inr rfl)) dgs_nil)))) (fun _ _ _ _ _ => dts_nil) (fun _ _ _ _ _ => (dv 8))) da_nil))))))), fun ds R h => by
      obtain ⟨es, s1, a, u, ms, e, rfl, hi, hw, hg, he, hu, hm, h⟩ := h
      simp only [dSeq, dNext, dBreak, dCont, dDrop, dRet, dRetN, dIfS, dSet, dB, dNotT, dAndT, dOrT, dNot, dAnd, dOr, dIf, dChain, dVar, dC, dOp, dUn, dNil, dCons, dCall, dTup, dLst, pyAll, dSl, dNo, dPart, dAsg, dPar, dDig, dMix, dPutD, dPutM, dM1, dFor, dItL, dItU, dItS, dItR1, dItR2, dItSc, dItZip, dLc, dYes, gdName, wipeD, asP, asB, asI, asS, asL, asU, sliceD, fCmp, fAdd, startD, fI, true_and, and_true, List.getD_cons_zero, List.getD_cons_succ, List.set_cons_zero, List.set_cons_succ, List.map_cons, List.map_nil, List.length_cons, List.length_nil, Nat.zero_add, Nat.reduceAdd, Nat.reduceSub, List.replicate, List.cons_append, List.nil_append, if_true, if_false, reduceIte, Bool.false_eq_true, Bool.not_true, Bool.not_false]
      refine ⟨_, rfl, hw, ?_⟩
      rw [hi]
      refine ⟨es, s1, a, u, ms, e, rfl, hg, ?_⟩
      simp only [dSeq, dNext, dBreak, dCont, dDrop, dRet, dRetN, dIfS, dSet, dB, dNotT, dAndT, dOrT, dNot, dAnd, dOr, dIf, dChain, dVar, dC, dOp, dUn, dNil, dCons, dCall, dTup, dLst, pyAll, dSl, dNo, dPart, dAsg, dPar, dDig, dMix, dPutD, dPutM, dM1, dFor, dItL, dItU, dItS, dItR1, dItR2, dItSc, dItZip, dLc, dYes, gdName, wipeD, asP, asB, asI, asS, asL, asU, sliceD, fCmp, fAdd, startD, fI, true_and, and_true, List.getD_cons_zero, List.getD_cons_succ, List.set_cons_zero, List.set_cons_succ, List.map_cons, List.map_nil, List.length_cons, List.length_nil, Nat.zero_add, Nat.reduceAdd, Nat.reduceSub, List.replicate, List.cons_append, List.nil_append, if_true, if_false, reduceIte, Bool.false_eq_true, Bool.not_true, Bool.not_false]
      refine ⟨es, s1, a, u, ms, e, rfl, hg, he, hu, hm, ?_⟩
      refine ⟨rfl, _, _, rfl, _, _, rfl, _, _, rfl, rfl, ?_⟩
      simp only [dSeq, dNext, dBreak, dCont, dDrop, dRet, dRetN, dIfS, dSet, dB, dNotT, dAndT, dOrT, dNot, dAnd, dOr, dIf, dChain, dVar, dC, dOp, dUn, dNil, dCons, dCall, dTup, dLst, pyAll, dSl, dNo, dPart, dAsg, dPar, dDig, dMix, dPutD, dPutM, dM1, dFor, dItL, dItU, dItS, dItR1, dItR2, dItSc, dItZip, dLc, dYes, gdName, wipeD, asP, asB, asI, asS, asL, asU, sliceD, fCmp, fAdd, startD, fI, true_and, and_true, List.getD_cons_zero, List.getD_cons_succ, List.set_cons_zero, List.set_cons_succ, List.map_cons, List.map_nil, List.length_cons, List.length_nil, Nat.zero_add, Nat.reduceAdd, Nat.reduceSub, List.replicate, List.cons_append, List.nil_append, if_true, if_false, reduceIte, Bool.false_eq_true, Bool.not_true, Bool.not_false]
      obtain ⟨l1, l2⟩ := pg_len (s := s1) (a := a) (u := u) (ms := ms) he
      refine ⟨Nat.le_trans l1 (by decide), lc_map fstD (fun d hd K1 hk => ?_) ⟨Nat.le_trans l2 (by decide), lc_map sndD (fun d hd K1 hk => ?_) ⟨by decide, h⟩ fun d hd => ?_⟩ fun d hd => ?_⟩
      · obtain ⟨p, m, rfl⟩ := filed_sh d hd
        exact ⟨rfl, _, _, rfl, _, _, rfl, rfl, hk⟩
      · obtain ⟨c, s2, a2, u2, m2, rfl⟩ := cuts_sh d hd
        exact ⟨rfl, _, _, rfl, _, _, rfl, rfl, hk⟩
      · obtain ⟨c, s2, a2, u2, m2, rfl⟩ := cuts_sh d hd
        rfl
      · obtain ⟨p, m, rfl⟩ := filed_sh d hd
        rfl⟩).mono hk
theorem ok_firing (T : Tx K mg) {k : Nat} (hk : 10 ≤ k) : FnG P w K mg base CX0 k T.a_firing T.d_firing ["house", "message"] (spD ⟨K, P, w⟩ (gFirP T.C)) :=
  (okB T.F_firing sc_firing (fun ds R h => by obtain ⟨_, _, _, _, _, _, rfl, _⟩ := h; rfl) fun cdv A gd outer s H E hr => ⟨_, (dss_cons (ds_if (dt_not (dt_val (de_call (ok_is_message T (k := 9) (by decide)) gd hr (by rfl) T.m_is_message T.F_is_message.kp T.b_is_message pass0 (da_cons (dv 1) da_nil)))) (dss_one ds_never) dss_nil)
    (dss_cons (ds_asg (vs := [2, 3, 4]) (de_call (ok_at_mailbox T (k := 9) (by decide)) gd hr (by rfl) T.m_at_mailbox T.F_at_mailbox.kp T.b_at_mailbox pass0 (da_cons (de_methR (by decide +kernel) (by decide +kernel) (dv 0) T.cl T.mt_H_rules_of (ok_H_rules_of T (k := 9) (by decide)) gd hr T.b_H_rules_of pass0 (da_cons (de_ix (dv 1) de_int) da_nil)) (da_cons (dv 1) da_nil))) (dg_tup (n := 3) rfl (dgs_cons (dg_name (i := 2) (by decide) sc_firing.nd rfl (by first | exact Or.inl rfl | exact Or.inr rfl)) (dgs_cons (dg_name (i := 3) (by decide) sc_firing.nd rfl (by first | exact Or.inl rfl | exact Or.inr rfl)) (dgs_cons (dg_name (i := 4) (by decide) sc_firing.nd rfl (by first | exact Or.inl rfl | exact Or.inr rfl)) dgs_nil)))))
    (dss_one (ds_ret (de_callTy cd_tuple (by rfl) T.n_tuple bt_tuple (da_cons (dv 2) da_nil)))))), fun ds R h => by
      obtain ⟨es, s1, a, u, ms, rl, rfl, hi, hw, hg, he, hu, hm, h⟩ := h
      simp only [dSeq, dNext, dBreak, dCont, dDrop, dRet, dRetN, dIfS, dSet, dB, dNotT, dAndT, dOrT, dNot, dAnd, dOr, dIf, dChain, dVar, dC, dOp, dUn, dNil, dCons, dCall, dTup, dLst, pyAll, dSl, dNo, dPart, dAsg, dPar, dDig, dMix, dPutD, dPutM, dM1, dFor, dItL, dItU, dItS, dItR1, dItR2, dItSc, dItZip, dLc, dYes, gdName, wipeD, asP, asB, asI, asS, asL, asU, sliceD, fCmp, fAdd, startD, fI, true_and, and_true, List.getD_cons_zero, List.getD_cons_succ, List.set_cons_zero, List.set_cons_succ, List.map_cons, List.map_nil, List.length_cons, List.length_nil, Nat.zero_add, Nat.reduceAdd, Nat.reduceSub, List.replicate, List.cons_append, List.nil_append, if_true, if_false, reduceIte, Bool.false_eq_true, Bool.not_true, Bool.not_false]
      refine ⟨_, rfl, hw, ?_⟩
      rw [hi]
      refine ⟨rfl, _, rfl, es, a, _, rfl, name_of hi, hg, rl, s1, a, u, ms, rfl, he.len, fun r m => (he.g r m).ok, fun r m x mx => Nat.le_trans ((he.g r m).as.w x mx) (by decide), Nat.le_trans hu (by decide), hm, ?_⟩
      refine ⟨rfl, _, _, rfl, _, _, rfl, _, _, rfl, rfl, ?_⟩
      exact ⟨_, .inl rfl, h⟩⟩).mono hk
theorem ok_w_stream (T : Tx K mg) {k : Nat} (hk : 1 ≤ k) : FnG P w K mg base CX0 k T.a_w_stream T.d_w_stream ["script", "start"] (spD ⟨K, P, w⟩ gStream) :=
  (okB T.F_w_stream sc_w_stream (fun ds R h => by obtain ⟨_, _, rfl, _⟩ := h; rfl) fun cdv A gd outer s H E hr => ⟨_, (dss_cons (ds_set (i := 2) sc_w_stream.nd rfl (by first | exact Or.inl rfl | exact Or.inr rfl) (de_op od_add de_int (dv 1)))
    (dss_cons (ds_for (vs := [3]) PassesOwn.never rfl (di_scr (dv 0)) (dg_name (i := 3) (by decide) sc_w_stream.nd rfl (by first | exact Or.inl rfl | exact Or.inr rfl)) (dss_one (ds_set (i := 2) sc_w_stream.nd rfl (by first | exact Or.inl rfl | exact Or.inr rfl) (de_op od_add (de_op od_mod (de_op od_pow (de_op od_add (de_op od_mulB (dv 2) de_int) (de_callTy cd_int (by rfl) T.n_int bt_int (da_cons (dv 3) da_nil))) de_int) de_int) de_int))))
    (dss_cons (ds_set (i := 4) sc_w_stream.nd rfl (by first | exact Or.inl rfl | exact Or.inr rfl) de_int)
    (dss_cons (ds_if (dw_and (dt_cmp od_lt (dv 1) (de_callB cd_lenS (by rfl) T.n_len bt_len (da_cons (dv 0) da_nil))) (dw_and1 (dt_cmp od_ge (de_ixS (dv 0) (dv 1)) (de_op od_powC de_int de_int)))).pt (dss_one (ds_set (i := 4) sc_w_stream.nd rfl (by first | exact Or.inl rfl | exact Or.inr rfl) (de_op od_sub (de_ixS (dv 0) (dv 1)) (de_op od_powC de_int de_int)))) dss_nil)
    (dss_one (ds_ret (de_well (dv 4) (dv 2)))))))), fun ds R h => by
      obtain ⟨ns, a, rfl, hn, hb, ha, h⟩ := h
      simp only [dSeq, dNext, dBreak, dCont, dDrop, dRet, dRetN, dIfS, dSet, dB, dNotT, dAndT, dOrT, dNot, dAnd, dOr, dIf, dChain, dVar, dC, dOp, dUn, dNil, dCons, dCall, dTup, dLst, pyAll, dSl, dNo, dPart, dAsg, dPar, dDig, dMix, dPutD, dPutM, dM1, dFor, dItL, dItU, dItS, dItR1, dItR2, dItSc, dItZip, dLc, dYes, gdName, wipeD, asP, asB, asI, asS, asL, asU, sliceD, fCmp, fAdd, startD, fI, true_and, and_true, List.getD_cons_zero, List.getD_cons_succ, List.set_cons_zero, List.set_cons_succ, List.map_cons, List.map_nil, List.length_cons, List.length_nil, Nat.zero_add, Nat.reduceAdd, Nat.reduceSub, List.replicate, List.cons_append, List.nil_append, if_true, if_false, reduceIte, Bool.false_eq_true, Bool.not_true, Bool.not_false]
      refine ⟨ns, rfl, for_inv (fun δ => ∃ (j : Int) (y : Sl), WJ j ∧ δ = [.v (.scr ns), .v (.p (.int a)), .v (.p (.int j)), y, .un]) _ _ ⟨_, _, ⟨by omega, by omega⟩, rfl⟩ (fun d hd δ' ⟨j, y, wj, e⟩ E' _ hnx _ _ => ?_) fun δ' ⟨j, y, wj, e⟩ => ?_⟩
      · subst e
        obtain ⟨n, hn', rfl⟩ := List.mem_map.mp hd
        have bn := hb n hn'
        simp only [dSeq, dNext, dBreak, dCont, dDrop, dRet, dRetN, dIfS, dSet, dB, dNotT, dAndT, dOrT, dNot, dAnd, dOr, dIf, dChain, dVar, dC, dOp, dUn, dNil, dCons, dCall, dTup, dLst, pyAll, dSl, dNo, dPart, dAsg, dPar, dDig, dMix, dPutD, dPutM, dM1, dFor, dItL, dItU, dItS, dItR1, dItR2, dItSc, dItZip, dLc, dYes, gdName, wipeD, asP, asB, asI, asS, asL, asU, sliceD, fCmp, fAdd, startD, fI, true_and, and_true, List.getD_cons_zero, List.getD_cons_succ, List.set_cons_zero, List.set_cons_succ, List.map_cons, List.map_nil, List.length_cons, List.length_nil, Nat.zero_add, Nat.reduceAdd, Nat.reduceSub, List.replicate, List.cons_append, List.nil_append, if_true, if_false, reduceIte, Bool.false_eq_true, Bool.not_true, Bool.not_false]
        have b2 : Bd 100 (j * 40127) := bd64 (by have := wj.1; have := wj.2; omega)
        have b3 : Bd 1048577 (j * 40127 + n) := (b2.mono (by decide)).add bn
        refine ⟨⟨bd32 (by have := wj.1; have := wj.2; omega), bd32 (by decide)⟩, n, rfl, ⟨.inr rfl, b3.mono (by decide)⟩, by decide, hnx _ ⟨_, _, ⟨?_, ?_⟩, rfl⟩⟩
        · omega
        · omega
      · subst e
        simp only [dSeq, dNext, dBreak, dCont, dDrop, dRet, dRetN, dIfS, dSet, dB, dNotT, dAndT, dOrT, dNot, dAnd, dOr, dIf, dChain, dVar, dC, dOp, dUn, dNil, dCons, dCall, dTup, dLst, pyAll, dSl, dNo, dPart, dAsg, dPar, dDig, dMix, dPutD, dPutM, dM1, dFor, dItL, dItU, dItS, dItR1, dItR2, dItSc, dItZip, dLc, dYes, gdName, wipeD, asP, asB, asI, asS, asL, asU, sliceD, fCmp, fAdd, startD, fI, true_and, and_true, List.getD_cons_zero, List.getD_cons_succ, List.set_cons_zero, List.set_cons_succ, List.map_cons, List.map_nil, List.length_cons, List.length_nil, Nat.zero_add, Nat.reduceAdd, Nat.reduceSub, List.replicate, List.cons_append, List.nil_append, if_true, if_false, reduceIte, Bool.false_eq_true, Bool.not_true, Bool.not_false]
        refine ⟨ns, rfl, ?_⟩
        simp only [dSeq, dNext, dBreak, dCont, dDrop, dRet, dRetN, dIfS, dSet, dB, dNotT, dAndT, dOrT, dNot, dAnd, dOr, dIf, dChain, dVar, dC, dOp, dUn, dNil, dCons, dCall, dTup, dLst, pyAll, dSl, dNo, dPart, dAsg, dPar, dDig, dMix, dPutD, dPutM, dM1, dFor, dItL, dItU, dItS, dItR1, dItR2, dItSc, dItZip, dLc, dYes, gdName, wipeD, asP, asB, asI, asS, asL, asU, sliceD, fCmp, fAdd, startD, fI, true_and, and_true, List.getD_cons_zero, List.getD_cons_succ, List.set_cons_zero, List.set_cons_succ, List.map_cons, List.map_nil, List.length_cons, List.length_nil, Nat.zero_add, Nat.reduceAdd, Nat.reduceSub, List.replicate, List.cons_append, List.nil_append, if_true, if_false, reduceIte, Bool.false_eq_true, Bool.not_true, Bool.not_false]
        cases q : decide ((a : Int) < (ns.length : Int)) with
        | false =>
          exact ⟨⟨Int.le_refl 0, bd32 (by decide)⟩, wj, h⟩
        | true =>
          have q' : a < ns.length := by
            have := of_decide_eq_true q
            omega
          have hx : atI ns (a : Int) = some ns[a] := atI_nat (List.getElem?_eq_getElem q')
          refine ⟨ns, _, ns[a], rfl, rfl, hx, ⟨by decide, by decide, by decide⟩, ?_⟩
          simp only [dSeq, dNext, dBreak, dCont, dDrop, dRet, dRetN, dIfS, dSet, dB, dNotT, dAndT, dOrT, dNot, dAnd, dOr, dIf, dChain, dVar, dC, dOp, dUn, dNil, dCons, dCall, dTup, dLst, pyAll, dSl, dNo, dPart, dAsg, dPar, dDig, dMix, dPutD, dPutM, dM1, dFor, dItL, dItU, dItS, dItR1, dItR2, dItSc, dItZip, dLc, dYes, gdName, wipeD, asP, asB, asI, asS, asL, asU, sliceD, fCmp, fAdd, startD, fI, true_and, and_true, List.getD_cons_zero, List.getD_cons_succ, List.set_cons_zero, List.set_cons_succ, List.map_cons, List.map_nil, List.length_cons, List.length_nil, Nat.zero_add, Nat.reduceAdd, Nat.reduceSub, List.replicate, List.cons_append, List.nil_append, if_true, if_false, reduceIte, Bool.false_eq_true, Bool.not_true, Bool.not_false]
          cases q2 : decide ((10 : Int) ^ (Int.toNat 18) ≤ ns[a]) with
          | false =>
            exact ⟨⟨Int.le_refl 0, bd32 (by decide)⟩, wj, h⟩
          | true =>
            have z := of_decide_eq_true q2
            have z1 : (10 : Int) ^ (Int.toNat 18) = 1000000000000000000 := by decide
            rw [z1] at z
            refine ⟨ns, _, ns[a], rfl, rfl, hx, ⟨by decide, by decide, by decide⟩, ⟨?_, ?_⟩, wj, h⟩
            · rw [z1]
              omega
            · rw [z1]
              exact ((hb _ (List.getElem_mem q')).mono (by decide)).less (by omega)⟩).mono hk
theorem ok_w_draw (T : Tx K mg) {k : Nat} (hk : 1 ≤ k) : FnG P w K mg base CX0 k T.a_w_draw T.d_w_draw ["stream", "size"] (spD ⟨K, P, w⟩ gDraw) :=
  (okB T.F_w_draw sc_w_draw (fun ds R h => by obtain ⟨_, rfl, _⟩ := h; rfl) fun cdv A gd outer s H E hr => ⟨_, (dss_cons (ds_if (dt_cmp od_ge (de_dig (dv 0)) (dv 1)) (dss_cons (ds_set (i := 2) sc_w_draw.nd rfl (by first | exact Or.inl rfl | exact Or.inr rfl) (de_op od_mod (de_callTy cd_int (by rfl) T.n_int bt_int (da_cons (de_dig (dv 0)) da_nil)) (dv 1)))
    (dss_cons (ds_putD (dv 0) (de_op od_fdiv (de_dig (dv 0)) (dv 1)))
    (dss_one (ds_ret (dv 2))))) dss_nil)
    (dss_cons (ds_putM (dv 0) (de_op od_mod (de_op od_add (de_op od_mulB (de_callTy cd_int (by rfl) T.n_int bt_int (da_cons (de_mix (dv 0)) da_nil)) de_int) de_int) de_int))
    (dss_one (ds_ret (de_op od_mod (de_op od_fdiv (de_op od_mod (de_op od_pow5 (de_op od_mod (de_op od_pow (de_callTy cd_int (by rfl) T.n_int bt_int (da_cons (de_mix (dv 0)) da_nil)) de_int) de_int) de_int) de_int) de_int) (dv 1)))))), fun ds R h => by
      obtain ⟨m, rfl, m0, m1, h⟩ := h
      have hR : ∀ x : Int, R (.p (.int (x % m))) := fun x => by
        have e1 := Int.emod_nonneg x (show m ≠ 0 by omega)
        have e2 := Int.emod_lt_of_pos x m0
        have e3 := h (x % m).toNat (by omega)
        rw [show (((x % m).toNat : Nat) : Int) = x % m by omega] at e3
        exact e3
      simp only [dSeq, dNext, dBreak, dCont, dDrop, dRet, dRetN, dIfS, dSet, dB, dNotT, dAndT, dOrT, dNot, dAnd, dOr, dIf, dChain, dVar, dC, dOp, dUn, dNil, dCons, dCall, dTup, dLst, pyAll, dSl, dNo, dPart, dAsg, dPar, dDig, dMix, dPutD, dPutM, dM1, dFor, dItL, dItU, dItS, dItR1, dItR2, dItSc, dItZip, dLc, dYes, gdName, wipeD, asP, asB, asI, asS, asL, asU, sliceD, fCmp, fAdd, startD, fI, true_and, and_true, List.getD_cons_zero, List.getD_cons_succ, List.set_cons_zero, List.set_cons_succ, List.map_cons, List.map_nil, List.length_cons, List.length_nil, Nat.zero_add, Nat.reduceAdd, Nat.reduceSub, List.replicate, List.cons_append, List.nil_append, if_true, if_false, reduceIte, Bool.false_eq_true, Bool.not_true, Bool.not_false]
      intro i wi
      cases decide (m ≤ i) with
      | true =>
        intro i wi
        refine ⟨i, rfl, m0, fun i1 wi1 => ⟨⟨by omega, by omega⟩, ⟨?_, ?_⟩, hR _⟩⟩
        · rw [Int.fdiv_eq_ediv_of_nonneg _ (by omega)]
          exact Int.ediv_nonneg wi1.1 (by omega)
        · refine wi1.2.less ?_
          rw [Int.fdiv_eq_ediv_of_nonneg _ (by omega)]
          have e1 := Int.ediv_nonneg wi1.1 (show 0 ≤ m by omega)
          have e2 := Int.ediv_le_self m wi1.1
          omega
      | false =>
        intro j wj
        refine ⟨j, rfl, ⟨bd32 (by have := wj.1; have := wj.2; omega), bd32 (by decide)⟩, by decide, ⟨by omega, by omega⟩, fun j2 wj2 => ⟨j2, rfl, ⟨.inr rfl, bd32 (by have := wj2.1; have := wj2.2; omega)⟩, by decide, ⟨by decide, by decide, bd32 (by omega)⟩, by decide, ⟨by omega, by omega⟩, m0, hR _⟩⟩⟩).mono hk
theorem ok_w_choose (T : Tx K mg) {k : Nat} (hk : 2 ≤ k) : FnG P w K mg base CX0 k T.a_w_choose T.d_w_choose ["stream", "things"] (spD ⟨K, P, w⟩ gChoose) :=
  (okB T.F_w_choose sc_w_choose (fun ds R h => by obtain ⟨_, rfl, _⟩ := h; rfl) fun cdv A gd outer s H E hr => ⟨_, (dss_one (ds_ret (de_ix (dv 1) (de_call (ok_w_draw T (k := 1) (by decide)) gd hr (by rfl) T.m_w_draw T.F_w_draw.kp T.b_w_draw pass0 (da_cons (dv 0) (da_cons (de_callB cd_len (by rfl) T.n_len bt_len (da_cons (dv 1) da_nil)) da_nil)))))), fun ds R h => by
      obtain ⟨xs, rfl, h0, h1, h⟩ := h
      simp only [dSeq, dNext, dBreak, dCont, dDrop, dRet, dRetN, dIfS, dSet, dB, dNotT, dAndT, dOrT, dNot, dAnd, dOr, dIf, dChain, dVar, dC, dOp, dUn, dNil, dCons, dCall, dTup, dLst, pyAll, dSl, dNo, dPart, dAsg, dPar, dDig, dMix, dPutD, dPutM, dM1, dFor, dItL, dItU, dItS, dItR1, dItR2, dItSc, dItZip, dLc, dYes, gdName, wipeD, asP, asB, asI, asS, asL, asU, sliceD, fCmp, fAdd, startD, fI, true_and, and_true, List.getD_cons_zero, List.getD_cons_succ, List.set_cons_zero, List.set_cons_succ, List.map_cons, List.map_nil, List.length_cons, List.length_nil, Nat.zero_add, Nat.reduceAdd, Nat.reduceSub, List.replicate, List.cons_append, List.nil_append, if_true, if_false, reduceIte, Bool.false_eq_true, Bool.not_true, Bool.not_false]
      refine len_lst (by exact Nat.le_trans (Nat.le_of_lt h1) (by decide)) ⟨_, rfl, by omega, by omega, fun k hk => ?_⟩
      have hk' : k < xs.length := by omega
      exact ⟨xs[k], atI_nat (List.getElem?_eq_getElem hk'), h _ (List.getElem_mem hk')⟩⟩).mono hk
theorem ok_w_shuffled (T : Tx K mg) {k : Nat} (hk : 2 ≤ k) : FnG P w K mg base CX0 k T.a_w_shuffled T.d_w_shuffled ["stream", "things"] (spD ⟨K, P, w⟩ gShuf29) :=
  (okB T.F_w_shuffled sc_w_shuffled (fun ds R h => by obtain ⟨_, rfl, _⟩ := h; rfl) fun cdv A gd outer s H E hr => ⟨_, (dss_cons (ds_parO (i := 2) (j := 3) (by decide) (df_listOf (dv 1) (by rfl) T.n_list) (fun ha => ps_par rfl sc_w_shuffled.nd rfl rfl (by decide) rfl rfl ha (by rfl)))
    (dss_cons (ds_while PassesOwn.never (dt_frz (i := 2) (dt_cmp (od_neE hr.units0) (dv 2) (de_lst da_nil))) (dss_one (ds_appPop (i := 3) (j := 2) (by decide) (de_call (ok_w_draw T (k := 1) (by decide)) gd hr (by rfl) T.m_w_draw T.F_w_draw.kp T.b_w_draw pass0 (da_cons (dv 0) (da_cons (de_lenO (i := 2) (pv 2) (by rfl) T.n_len) da_nil))) (fun ha => ps_expr (pe_bm PySem.F.plainAttrs_list PySem.F.slot_list_append PySem.F.type_list_append mt_append (pv 3) (pa_cons (pe_bm PySem.F.plainAttrs_list PySem.F.slot_list_pop PySem.F.type_list_pop mt_popAt (pv 2) ha) pa_nil))))))
    (dss_one (ds_frz (i := 3) (ds_ret (dv 3)))))), fun ds R h => by
      obtain ⟨xs, rfl, hl, h⟩ := h
      refine ⟨_, .inl rfl, rfl, ?_⟩
      refine ⟨fun m δ => ∃ ls fs : List PyData, m = ls.length ∧ (ls ++ fs).Perm xs ∧ δ = [.v .well, .v (.p (.list xs)), .own ls, .own fs], ⟨_, xs, [], rfl, by rw [List.append_nil], rfl⟩, fun m δ ⟨ls, fs, e1, e2, e⟩ => ?_⟩
      subst e
      have e3 : ls.length + fs.length = xs.length := by rw [← List.length_append]; exact e2.length_eq
      refine ⟨by decide, rfl, rfl, ?_⟩
      cases ls with
      | nil =>
        exact h fs e2
      | cons l ls =>
        rw [List.length_cons] at e1 e3
        refine ⟨fun δ' => ∃ ls' fs' : List PyData, ls'.length + 1 = m ∧ (ls' ++ fs').Perm xs ∧ δ' = [.v .well, .v (.p (.list xs)), .own ls', .own fs'], fun δ' ⟨ls', fs', a1, a2, a5⟩ => ⟨ls'.length, by omega, ls', fs', rfl, a2, a5⟩, ?_⟩
        refine ⟨by rw [List.length_cons]; exact Nat.le_trans (show ls.length + 1 ≤ 100 by omega) (by decide), _, rfl, by rw [List.length_cons]; omega, by rw [List.length_cons]; omega, fun k hk => ?_⟩
        rw [List.length_cons] at hk
        have hk2 : k < (l :: ls).length := by rw [List.length_cons]; omega
        refine ⟨k, (l :: ls)[k], ?_, List.getElem?_eq_getElem hk2, by omega, by omega, rfl, Nat.lt_of_lt_of_le (show fs.length < 101 by omega) (by decide), rfl, ?_⟩
        · exact sI_nat hk2
        · refine ⟨(l :: ls).eraseIdx k, fs ++ [(l :: ls)[k]], ?_, ?_, rfl⟩
          · rw [List.length_eraseIdx_of_lt hk2, List.length_cons]; omega
          · refine List.Perm.trans ?_ e2
            have p1 : ((l :: ls)[k] :: (l :: ls).eraseIdx k).Perm (l :: ls) := perm_erase hk2
            have p2 : ((l :: ls).eraseIdx k ++ (fs ++ [(l :: ls)[k]])).Perm ((l :: ls)[k] :: ((l :: ls).eraseIdx k ++ fs)) := by
              rw [← List.append_assoc]
              exact List.perm_append_singleton _ _
            exact p2.trans (p1.append_right fs)⟩).mono hk
theorem ok_w_text (T : Tx K mg) {k : Nat} (hk : 3 ≤ k) : FnG P w K mg base CX0 k T.a_w_text T.d_w_text ["stream"] (spD ⟨K, P, w⟩ gTxt29) :=
  (okB T.F_w_text sc_w_text (fun ds R h => by obtain ⟨rfl, _⟩ := h; rfl) fun cdv A gd outer s H E hr => ⟨_, (dss_one (ds_ret (de_call (ok_w_choose T (k := 2) (by decide)) gd hr (by rfl) T.m_w_choose T.F_w_choose.kp T.b_w_choose pass0 (da_cons (dv 0) (da_cons (de_lst (da_cons de_str (da_cons de_str (da_cons de_str (da_cons de_str (da_cons de_str (da_cons de_str (da_cons de_str da_nil)))))))) da_nil))))), fun ds R h => by
      obtain ⟨rfl, h⟩ := h
      simp only [dSeq, dNext, dBreak, dCont, dDrop, dRet, dRetN, dIfS, dSet, dB, dNotT, dAndT, dOrT, dNot, dAnd, dOr, dIf, dChain, dVar, dC, dOp, dUn, dNil, dCons, dCall, dTup, dLst, pyAll, dSl, dNo, dPart, dAsg, dPar, dDig, dMix, dPutD, dPutM, dM1, dFor, dItL, dItU, dItS, dItR1, dItR2, dItSc, dItZip, dLc, dYes, gdName, wipeD, asP, asB, asI, asS, asL, asU, sliceD, fCmp, fAdd, startD, fI, true_and, and_true, List.getD_cons_zero, List.getD_cons_succ, List.set_cons_zero, List.set_cons_succ, List.map_cons, List.map_nil, List.length_cons, List.length_nil, Nat.zero_add, Nat.reduceAdd, Nat.reduceSub, List.replicate, List.cons_append, List.nil_append, if_true, if_false, reduceIte, Bool.false_eq_true, Bool.not_true, Bool.not_false]
      exact ⟨by decide, rfl, _, rfl, by decide, by decide, fun x hx => by
        obtain ⟨f, hf, rfl⟩ := List.mem_map.mp (show x ∈ T7.map PyData.str from hx)
        exact h f hf⟩⟩).mono hk
theorem ok_w_leaf (T : Tx K mg) {k : Nat} (hk : 4 ≤ k) : FnG P w K mg base CX0 k T.a_w_leaf T.d_w_leaf ["stream"] (spD ⟨K, P, w⟩ gLeaf29) :=
  (okB T.F_w_leaf sc_w_leaf (fun ds R h => by obtain ⟨rfl, _⟩ := h; rfl) fun cdv A gd outer s H E hr => ⟨_, (dss_cons (ds_set (i := 1) sc_w_leaf.nd rfl (by first | exact Or.inl rfl | exact Or.inr rfl) (de_call (ok_w_draw T (k := 3) (by decide)) gd hr (by rfl) T.m_w_draw T.F_w_draw.kp T.b_w_draw pass0 (da_cons (dv 0) (da_cons de_int da_nil))))
    (dss_cons (ds_if (dt_cmp (od_eqQ hr.units) (dv 1) de_int) (dss_one (ds_ret (de_tup (da_cons de_str (da_cons (de_callTy cd_tuple (by rfl) T.n_tuple bt_tuple (da_cons (de_callB cd_sortL (by rfl) T.n_sorted bt_sorted (da_cons (de_slice (de_call (ok_w_shuffled T (k := 3) (by decide)) gd hr (by rfl) T.m_w_shuffled T.F_w_shuffled.kp T.b_w_shuffled pass0 (da_cons (dv 0) (da_cons (de_lst (da_cons de_str (da_cons de_str (da_cons de_str (da_cons de_str (da_cons de_str da_nil)))))) da_nil))) do_none (do_some (de_op od_add de_int (de_call (ok_w_draw T (k := 3) (by decide)) gd hr (by rfl) T.m_w_draw T.F_w_draw.kp T.b_w_draw pass0 (da_cons (dv 0) (da_cons de_int da_nil)))))) da_nil)) da_nil)) da_nil))))) dss_nil)
    (dss_cons (ds_if (dt_cmp (od_eqQ hr.units) (dv 1) de_int) (dss_one (ds_ret (de_tup (da_cons de_str (da_cons (de_call (ok_w_choose T (k := 3) (by decide)) gd hr (by rfl) T.m_w_choose T.F_w_choose.kp T.b_w_choose pass0 (da_cons (dv 0) (da_cons (de_lst (da_cons de_str (da_cons de_str (da_cons de_str (da_cons de_str da_nil))))) da_nil))) da_nil))))) dss_nil)
    (dss_cons (ds_if (dt_cmp (od_eqQ hr.units) (dv 1) de_int) (dss_one (ds_ret (de_tup (da_cons de_str (da_cons (de_call (ok_w_choose T (k := 3) (by decide)) gd hr (by rfl) T.m_w_choose T.F_w_choose.kp T.b_w_choose pass0 (da_cons (dv 0) (da_cons (de_lst (da_cons de_str (da_cons de_str (da_cons de_str da_nil)))) da_nil))) da_nil))))) dss_nil)
    (dss_one (ds_ret (de_tup (da_cons (de_call (ok_w_choose T (k := 3) (by decide)) gd hr (by rfl) T.m_w_choose T.F_w_choose.kp T.b_w_choose pass0 (da_cons (dv 0) (da_cons (de_lst (da_cons de_str (da_cons de_str (da_cons de_str (da_cons de_str da_nil))))) da_nil))) (da_cons (de_call (ok_w_text T (k := 3) (by decide)) gd hr (by rfl) T.m_w_text T.F_w_text.kp T.b_w_text pass0 (da_cons (dv 0) da_nil)) da_nil))))))))), fun ds R h => by
      obtain ⟨rfl, h⟩ := h
      simp only [dSeq, dNext, dBreak, dCont, dDrop, dRet, dRetN, dIfS, dSet, dB, dNotT, dAndT, dOrT, dNot, dAnd, dOr, dIf, dChain, dVar, dC, dOp, dUn, dNil, dCons, dCall, dTup, dLst, pyAll, dSl, dNo, dPart, dAsg, dPar, dDig, dMix, dPutD, dPutM, dM1, dFor, dItL, dItU, dItS, dItR1, dItR2, dItSc, dItZip, dLc, dYes, gdName, wipeD, asP, asB, asI, asS, asL, asU, sliceD, fCmp, fAdd, startD, fI, true_and, and_true, List.getD_cons_zero, List.getD_cons_succ, List.set_cons_zero, List.set_cons_succ, List.map_cons, List.map_nil, List.length_cons, List.length_nil, Nat.zero_add, Nat.reduceAdd, Nat.reduceSub, List.replicate, List.cons_append, List.nil_append, if_true, if_false, reduceIte, Bool.false_eq_true, Bool.not_true, Bool.not_false]
      refine ⟨7, rfl, by decide, by decide, fun k hk => ⟨rfl, rfl, Nat.zero_le _, ?_⟩⟩
      simp only [eqv_int, Bool.false_eq_true, if_false]
      by_cases z0 : (k : Int) = 0
      · rw [decide_eq_true z0]
        refine ⟨by decide, rfl, _, rfl, by decide, fun ys hp => ⟨2, rfl, by decide, by decide, fun j hj => ?_⟩⟩
        obtain ⟨zs, pz, rfl⟩ := perm_map (f := PyData.str) hp N5 rfl
        have e : cutD (zs.map PyData.str) none (some (1 + (j : Int))) = (zs.take (1 + j)).map .str := by
          rw [show (1 + (j : Int)) = ((1 + j : Nat) : Int) by omega, cut_to, List.map_take]
        have l5 : zs.length = 5 := pz.length_eq
        have lt : (zs.take (1 + j)).length = 1 + j := by rw [List.length_take]; omega
        refine ⟨by rw [e]; exact nP_strs _, zs.take (1 + j), by rw [e], by omega, fun ws pw sw => ⟨_, .inl rfl, by decide, h (.frm ws) (frm_g sw ?_ ?_ ?_ ?_)⟩⟩
        · exact pw.nodup_iff.mpr ((pz.nodup_iff.mpr N5_ok.2.1).sublist (List.take_sublist _ _))
        · exact fun z m => pz.subset (List.mem_of_mem_take (pw.subset m))
        · rw [pw.length_eq, lt]; omega
        · rw [pw.length_eq, lt]; omega
      rw [decide_eq_false z0]
      refine ⟨rfl, rfl, Nat.zero_le _, ?_⟩
      simp only [eqv_int, Bool.false_eq_true, if_false]
      by_cases z1 : (k : Int) = 1
      · rw [decide_eq_true z1]
        exact ⟨by decide, rfl, _, rfl, by decide, by decide, fun x hx => ⟨by decide, by
          obtain ⟨f, hf, rfl⟩ := List.mem_map.mp (show x ∈ I4.map PyData.str from hx)
          exact h _ (is_g hf)⟩⟩
      rw [decide_eq_false z1]
      refine ⟨rfl, rfl, Nat.zero_le _, ?_⟩
      simp only [eqv_int, Bool.false_eq_true, if_false]
      by_cases z2 : (k : Int) = 2
      · rw [decide_eq_true z2]
        exact ⟨by decide, rfl, _, rfl, by decide, by decide, fun x hx => ⟨by decide, by
          obtain ⟨f, hf, rfl⟩ := List.mem_map.mp (show x ∈ K3.map PyData.str from hx)
          exact h _ (mrk_g hf)⟩⟩
      rw [decide_eq_false z2]
      refine ⟨by decide, rfl, _, rfl, by decide, by decide, fun x hx => ⟨rfl, fun t ht => ⟨by decide, ?_⟩⟩⟩
      obtain ⟨w, hw, rfl⟩ := List.mem_map.mp (show x ∈ W3.map PyData.str from hx)
      exact h _ (txt_g hw ht)⟩).mono hk
theorem ok_w_condition (T : Tx K mg) {k : Nat} (hk : 5 ≤ k) : FnG P w K mg base CX0 k T.a_w_condition T.d_w_condition ["stream"] (spD ⟨K, P, w⟩ gCond29) :=
  (okB T.F_w_condition sc_w_condition (fun ds R h => by obtain ⟨rfl, _⟩ := h; rfl) fun cdv A gd outer s H E hr => ⟨_, (dss_cons (ds_set (i := 1) sc_w_condition.nd rfl (by first | exact Or.inl rfl | exact Or.inr rfl) (de_call (ok_w_draw T (k := 4) (by decide)) gd hr (by rfl) T.m_w_draw T.F_w_draw.kp T.b_w_draw pass0 (da_cons (dv 0) (da_cons de_int da_nil))))
    (dss_cons (ds_if (dt_cmp od_lt (dv 1) de_int) (dss_one (ds_ret (de_call (ok_w_leaf T (k := 4) (by decide)) gd hr (by rfl) T.m_w_leaf T.F_w_leaf.kp T.b_w_leaf pass0 (da_cons (dv 0) da_nil)))) dss_nil)
    (dss_cons (ds_if (dt_cmp (od_eqQ hr.units) (dv 1) de_int) (dss_one (ds_ret (de_tup (da_cons de_str (da_cons (de_call (ok_w_leaf T (k := 4) (by decide)) gd hr (by rfl) T.m_w_leaf T.F_w_leaf.kp T.b_w_leaf pass0 (da_cons (dv 0) da_nil)) da_nil))))) dss_nil)
    (dss_cons (ds_setLcO (i := 2) rfl sc_w_condition.nd rfl rfl (sw_true rfl rfl rfl (by decide +kernel)) (own := [("turn", 3)]) (di_rng1 (by rfl) T.n_range (da_cons (de_call (ok_w_draw T (k := 4) (by decide)) gd hr (by rfl) T.m_w_draw T.F_w_draw.kp T.b_w_draw pass0 (da_cons (dv 0) (da_cons de_int da_nil))) da_nil)) (blkOk_by (N := ["stream", "kindof", "inner", "turn"]) (own := [("turn", 3)]) (sc := defScope s_w_condition) (by decide +kernel)) (fun _ _ _ _ _ => (dg_name (i := 3) (by decide) sc_w_condition.nd rfl (by first | exact Or.inl rfl | exact Or.inr rfl))) (fun _ _ _ _ _ => dts_nil) (fun _ _ _ _ _ => (de_call (ok_w_leaf T (k := 4) (by decide)) gd hr (by rfl) T.m_w_leaf T.F_w_leaf.kp T.b_w_leaf pass0 (da_cons (dv 0) da_nil))))
    (dss_cons (ds_if (dt_cmp (od_eqQ hr.units) (de_call (ok_w_draw T (k := 4) (by decide)) gd hr (by rfl) T.m_w_draw T.F_w_draw.kp T.b_w_draw pass0 (da_cons (dv 0) (da_cons de_int da_nil))) de_int) (dss_one (ds_app (i := 2) (pv 2) (de_tup (da_cons de_str (da_cons (de_tup (da_cons de_str (da_cons (de_tup (da_cons (de_call (ok_w_leaf T (k := 4) (by decide)) gd hr (by rfl) T.m_w_leaf T.F_w_leaf.kp T.b_w_leaf pass0 (da_cons (dv 0) da_nil)) da_nil)) da_nil))) da_nil))) (fun ha => ps_expr (pe_bm PySem.F.plainAttrs_list PySem.F.slot_list_append PySem.F.type_list_append mt_append (pv 2) ha)))) dss_nil)
    (dss_one (ds_frz (i := 2) (ds_ret (de_tup (da_cons (de_call (ok_w_choose T (k := 4) (by decide)) gd hr (by rfl) T.m_w_choose T.F_w_choose.kp T.b_w_choose pass0 (da_cons (dv 0) (da_cons (de_lst (da_cons de_str (da_cons de_str da_nil))) da_nil))) (da_cons (de_callTy cd_tuple (by rfl) T.n_tuple bt_tuple (da_cons (dv 2) da_nil)) da_nil))))))))))), fun ds R h => by
      obtain ⟨rfl, h⟩ := h
      simp only [dSeq, dNext, dBreak, dCont, dDrop, dRet, dRetN, dIfS, dSet, dB, dNotT, dAndT, dOrT, dNot, dAnd, dOr, dIf, dChain, dVar, dC, dOp, dUn, dNil, dCons, dCall, dTup, dLst, pyAll, dSl, dNo, dPart, dAsg, dPar, dDig, dMix, dPutD, dPutM, dM1, dFor, dItL, dItU, dItS, dItR1, dItR2, dItSc, dItZip, dLc, dYes, gdName, wipeD, asP, asB, asI, asS, asL, asU, sliceD, fCmp, fAdd, startD, fI, true_and, and_true, List.getD_cons_zero, List.getD_cons_succ, List.set_cons_zero, List.set_cons_succ, List.map_cons, List.map_nil, List.length_cons, List.length_nil, Nat.zero_add, Nat.reduceAdd, Nat.reduceSub, List.replicate, List.cons_append, List.nil_append, if_true, if_false, reduceIte, Bool.false_eq_true, Bool.not_true, Bool.not_false]
      refine ⟨8, rfl, by decide, by decide, fun k hk => lt_int ?_⟩
      simp only [Bool.false_eq_true, if_false]
      cases decide ((k : Int) < 5) with
      | true => exact ⟨rfl, fun l gl => h (.lf l) ((cg_lf gl 3).up (by decide))⟩
      | false =>
        refine ⟨rfl, rfl, Nat.zero_le _, ?_⟩
        simp only [eqv_int, Bool.false_eq_true, if_false]
        cases decide ((k : Int) = 5) with
        | true => exact ⟨rfl, fun l gl => ⟨by decide, h (.nt (.lf l)) ((cg_nt (cg_lf gl 2)).up (by decide))⟩⟩
        | false =>
          refine ⟨3, rfl, by decide, by decide, fun j hj => ⟨_, rfl, by omega, by omega, by rw [rng_len]; exact Nat.le_trans (show ((j : Int)).toNat ≤ 3 by omega) (by decide), lc_rel (fun z => ∃ l, LfG l ∧ z = (Cnd.lf l).d) (fun z hz => by obtain ⟨l, _, rfl⟩ := hz; rfl) _ [] (fun d3 hd3 K1 hk1 => ?_) fun zs lz pz => ?_⟩⟩
          · simp only [dSeq, dNext, dBreak, dCont, dDrop, dRet, dRetN, dIfS, dSet, dB, dNotT, dAndT, dOrT, dNot, dAnd, dOr, dIf, dChain, dVar, dC, dOp, dUn, dNil, dCons, dCall, dTup, dLst, pyAll, dSl, dNo, dPart, dAsg, dPar, dDig, dMix, dPutD, dPutM, dM1, dFor, dItL, dItU, dItS, dItR1, dItR2, dItSc, dItZip, dLc, dYes, gdName, wipeD, asP, asB, asI, asS, asL, asU, sliceD, fCmp, fAdd, startD, fI, true_and, and_true, List.getD_cons_zero, List.getD_cons_succ, List.set_cons_zero, List.set_cons_succ, List.map_cons, List.map_nil, List.length_cons, List.length_nil, Nat.zero_add, Nat.reduceAdd, Nat.reduceSub, List.replicate, List.cons_append, List.nil_append, if_true, if_false, reduceIte, Bool.false_eq_true, Bool.not_true, Bool.not_false]
            exact ⟨rfl, fun l gl => hk1 _ ⟨l, gl, rfl⟩⟩
          · rw [rng_len] at lz
            obtain ⟨ls, rfl, gls⟩ := map_of pz
            have l3 : ls.length ≤ 2 := by rw [List.length_map] at lz; omega
            have gz : ∀ c ∈ ls.map Cnd.lf, CndG 3 66 c := fun c m => by
              obtain ⟨l, hl, rfl⟩ := List.mem_map.mp m
              exact (cg_lf (gls l hl) 2).up (by decide)
            have fin : ∀ cs : List Cnd, cs.length ≤ 3 → (∀ c ∈ cs, CndG 3 66 c) → ∀ w ∈ [PyData.str (Str.ofString "all"), PyData.str (Str.ofString "any")], R (.p (.tuple [w, .tuple (cs.map Cnd.d)])) := fun cs lx hx w hw => by
              rw [← ds_map]
              rcases List.mem_cons.mp hw with rfl | hw
              · exact h (.gr true cs) ((cg_gr hx lx).up (by decide))
              · rw [List.mem_singleton.mp hw]
                exact h (.gr false cs) ((cg_gr hx lx).up (by decide))
            have em : ls.map (fun l => (Cnd.lf l).d) = (ls.map Cnd.lf).map Cnd.d := by rw [List.map_map]; rfl
            simp only [dSeq, dNext, dBreak, dCont, dDrop, dRet, dRetN, dIfS, dSet, dB, dNotT, dAndT, dOrT, dNot, dAnd, dOr, dIf, dChain, dVar, dC, dOp, dUn, dNil, dCons, dCall, dTup, dLst, pyAll, dSl, dNo, dPart, dAsg, dPar, dDig, dMix, dPutD, dPutM, dM1, dFor, dItL, dItU, dItS, dItR1, dItR2, dItSc, dItZip, dLc, dYes, gdName, wipeD, asP, asB, asI, asS, asL, asU, sliceD, fCmp, fAdd, startD, fI, true_and, and_true, List.getD_cons_zero, List.getD_cons_succ, List.set_cons_zero, List.set_cons_succ, List.map_cons, List.map_nil, List.length_cons, List.length_nil, Nat.zero_add, Nat.reduceAdd, Nat.reduceSub, List.replicate, List.cons_append, List.nil_append, if_true, if_false, reduceIte, Bool.false_eq_true, Bool.not_true, Bool.not_false]
            refine ⟨4, rfl, by decide, by decide, fun i hi => ⟨rfl, rfl, Nat.zero_le _, ?_⟩⟩
            simp only [eqv_int, Bool.false_eq_true, if_false]
            cases decide ((i : Int) = 0) with
            | true =>
              refine ⟨rfl, fun l gl => ⟨(show 1 ≤ sizeLine by decide), (show 2 ≤ sizeLine by decide), (show 2 ≤ sizeLine by decide), Nat.lt_of_le_of_lt (show (ls.map fun l => (Cnd.lf l).d).length ≤ 2 by rw [List.length_map]; exact l3) (by decide), rfl, by decide, rfl, _, rfl, by decide, by decide, fun w hw => ⟨_, .inl rfl, (show 2 ≤ sizeLine by decide), ?_⟩⟩⟩
              have q := fin (ls.map Cnd.lf ++ [.nt (.gr false [.lf l])]) (by rw [List.length_append, List.length_map, List.length_singleton]; omega) (fun c m => by
                rcases List.mem_append.mp m with m | m
                · exact gz c m
                · rw [List.mem_singleton.mp m]
                  exact (cg_nt (cg_gr (n := 1) (W := 16) (cs := [.lf l]) (fun c m => by rw [List.mem_singleton.mp m]; exact cg_lf gl 0) (Nat.le_trans (Nat.le_refl 1) (by decide)))).up (by decide)) w hw
              rw [List.map_append, ← em] at q
              exact q
            | false =>
              refine ⟨by decide, rfl, _, rfl, by decide, by decide, fun w hw => ⟨_, .inl rfl, (show 2 ≤ sizeLine by decide), ?_⟩⟩
              have q := fin (ls.map Cnd.lf) (by rw [List.length_map]; omega) gz w hw
              rw [← em] at q
              exact q⟩).mono hk
theorem ok_w_action (T : Tx K mg) {k : Nat} (hk : 4 ≤ k) : FnG P w K mg base CX0 k T.a_w_action T.d_w_action ["stream"] (spD ⟨K, P, w⟩ gAct29) :=
  (okB T.F_w_action sc_w_action (fun ds R h => by obtain ⟨rfl, _⟩ := h; rfl) fun cdv A gd outer s H E hr => ⟨_, (dss_cons (ds_set (i := 1) sc_w_action.nd rfl (by first | exact Or.inl rfl | exact Or.inr rfl) (de_call (ok_w_draw T (k := 3) (by decide)) gd hr (by rfl) T.m_w_draw T.F_w_draw.kp T.b_w_draw pass0 (da_cons (dv 0) (da_cons de_int da_nil))))
    (dss_cons (ds_if (dt_cmp od_lt (dv 1) de_int) (dss_one (ds_ret (de_tup (da_cons de_str (da_cons (de_call (ok_w_choose T (k := 3) (by decide)) gd hr (by rfl) T.m_w_choose T.F_w_choose.kp T.b_w_choose pass0 (da_cons (dv 0) (da_cons (de_lst (da_cons de_str (da_cons de_str (da_cons de_str da_nil)))) da_nil))) da_nil))))) dss_nil)
    (dss_cons (ds_if (dt_cmp od_lt (dv 1) de_int) (dss_one (ds_ret (de_tup (da_cons de_str (da_cons (de_call (ok_w_choose T (k := 3) (by decide)) gd hr (by rfl) T.m_w_choose T.F_w_choose.kp T.b_w_choose pass0 (da_cons (dv 0) (da_cons (de_lst (da_cons de_str (da_cons de_str (da_cons de_str (da_cons de_str (da_cons de_str da_nil)))))) da_nil))) da_nil))))) dss_nil)
    (dss_cons (ds_if (dt_cmp (od_eqQ hr.units) (dv 1) de_int) (dss_one (ds_ret (de_tup (da_cons de_str (da_cons (de_call (ok_w_text T (k := 3) (by decide)) gd hr (by rfl) T.m_w_text T.F_w_text.kp T.b_w_text pass0 (da_cons (dv 0) da_nil)) da_nil))))) dss_nil)
    (dss_one (ds_ret (de_if (dt_cmp (od_eqQ hr.units) (dv 1) de_int) (de_tup (da_cons de_str (da_cons (de_call (ok_w_choose T (k := 3) (by decide)) gd hr (by rfl) T.m_w_choose T.F_w_choose.kp T.b_w_choose pass0 (da_cons (dv 0) (da_cons (de_lst (da_cons de_str (da_cons de_str da_nil))) da_nil))) da_nil))) (de_tup (da_cons de_str (da_cons (de_call (ok_w_text T (k := 3) (by decide)) gd hr (by rfl) T.m_w_text T.F_w_text.kp T.b_w_text pass0 (da_cons (dv 0) da_nil)) da_nil)))))))))), fun ds R h => by
      obtain ⟨rfl, h⟩ := h
      simp only [dSeq, dNext, dBreak, dCont, dDrop, dRet, dRetN, dIfS, dSet, dB, dNotT, dAndT, dOrT, dNot, dAnd, dOr, dIf, dChain, dVar, dC, dOp, dUn, dNil, dCons, dCall, dTup, dLst, pyAll, dSl, dNo, dPart, dAsg, dPar, dDig, dMix, dPutD, dPutM, dM1, dFor, dItL, dItU, dItS, dItR1, dItR2, dItSc, dItZip, dLc, dYes, gdName, wipeD, asP, asB, asI, asS, asL, asU, sliceD, fCmp, fAdd, startD, fI, true_and, and_true, List.getD_cons_zero, List.getD_cons_succ, List.set_cons_zero, List.set_cons_succ, List.map_cons, List.map_nil, List.length_cons, List.length_nil, Nat.zero_add, Nat.reduceAdd, Nat.reduceSub, List.replicate, List.cons_append, List.nil_append, if_true, if_false, reduceIte, Bool.false_eq_true, Bool.not_true, Bool.not_false]
      refine ⟨7, rfl, by decide, by decide, fun k hk => lt_int ?_⟩
      simp only [Bool.false_eq_true, if_false]
      cases decide ((k : Int) < 2) with
      | true =>
        exact ⟨by decide, rfl, _, rfl, by decide, by decide, fun x hx => ⟨by decide, by
          obtain ⟨f, hf, rfl⟩ := List.mem_map.mp (show x ∈ F3.map PyData.str from hx)
          exact h _ (ac_of (ac_file f hf))⟩⟩
      | false =>
        rw [if_neg Bool.false_ne_true]
        refine lt_int ?_
        cases decide ((k : Int) < 4) with
        | true =>
          exact ⟨by decide, rfl, _, rfl, by decide, by decide, fun x hx => ⟨by decide, by
            obtain ⟨f, hf, rfl⟩ := List.mem_map.mp (show x ∈ O5.map PyData.str from hx)
            exact h _ (ac_of (ac_fwd f hf))⟩⟩
        | false =>
          refine ⟨rfl, rfl, Nat.zero_le _, ?_⟩
          simp only [eqv_int, Bool.false_eq_true, if_false]
          cases decide ((k : Int) = 4) with
          | true =>
            exact ⟨rfl, fun t ht => ⟨by decide, h _ (ac_of (ac_tag t ht))⟩⟩
          | false =>
            refine ⟨rfl, rfl, Nat.zero_le _, ?_⟩
            simp only [eqv_int, Bool.false_eq_true, if_false]
            cases decide ((k : Int) = 5) with
            | true =>
              exact ⟨by decide, rfl, _, rfl, by decide, by decide, fun x hx => ⟨by decide, by
                obtain ⟨f, hf, rfl⟩ := List.mem_map.mp (show x ∈ P2.map PyData.str from hx)
                exact h _ (ac_of (ac_mark f hf))⟩⟩
            | false =>
              exact ⟨rfl, fun t ht => ⟨by decide, h _ (ac_of (ac_reply t ht))⟩⟩⟩).mono hk
theorem ok_w_rule (T : Tx K mg) {k : Nat} (hk : 6 ≤ k) : FnG P w K mg base CX0 k T.a_w_rule T.d_w_rule ["stream"] (spD ⟨K, P, w⟩ gRule29) :=
  (okB T.F_w_rule sc_w_rule (fun ds R h => by obtain ⟨rfl, _⟩ := h; rfl) fun cdv A gd outer s H E hr => ⟨_, (dss_cons (ds_setLcO (i := 1) rfl sc_w_rule.nd rfl rfl (sw_true rfl rfl rfl (by decide +kernel)) (own := [("turn", 2)]) (di_rng1 (by rfl) T.n_range (da_cons (de_call (ok_w_draw T (k := 5) (by decide)) gd hr (by rfl) T.m_w_draw T.F_w_draw.kp T.b_w_draw pass0 (da_cons (dv 0) (da_cons de_int da_nil))) da_nil)) (blkOk_by (N := ["stream", "actions", "turn"]) (own := [("turn", 2)]) (sc := defScope s_w_rule) (by decide +kernel)) (fun _ _ _ _ _ => (dg_name (i := 2) (by decide) sc_w_rule.nd rfl (by first | exact Or.inl rfl | exact Or.inr rfl))) (fun _ _ _ _ _ => dts_nil) (fun _ _ _ _ _ => (de_call (ok_w_action T (k := 5) (by decide)) gd hr (by rfl) T.m_w_action T.F_w_action.kp T.b_w_action pass0 (da_cons (dv 0) da_nil))))
    (dss_cons (ds_if (dt_cmp (od_eqQ hr.units) (de_call (ok_w_draw T (k := 5) (by decide)) gd hr (by rfl) T.m_w_draw T.F_w_draw.kp T.b_w_draw pass0 (da_cons (dv 0) (da_cons de_int da_nil))) de_int) (dss_one (ds_app (i := 1) (pv 1) (de_tup (da_cons (de_call (ok_w_choose T (k := 5) (by decide)) gd hr (by rfl) T.m_w_choose T.F_w_choose.kp T.b_w_choose pass0 (da_cons (dv 0) (da_cons (de_lst (da_cons de_str (da_cons de_str da_nil))) da_nil))) da_nil)) (fun ha => ps_expr (pe_bm PySem.F.plainAttrs_list PySem.F.slot_list_append PySem.F.type_list_append mt_append (pv 1) ha)))) dss_nil)
    (dss_one (ds_frz (i := 1) (ds_ret (de_tup (da_cons (de_call (ok_w_condition T (k := 5) (by decide)) gd hr (by rfl) T.m_w_condition T.F_w_condition.kp T.b_w_condition pass0 (da_cons (dv 0) da_nil)) (da_cons (de_callTy cd_tuple (by rfl) T.n_tuple bt_tuple (da_cons (dv 1) da_nil)) da_nil)))))))), fun ds R h => by
      obtain ⟨rfl, h⟩ := h
      simp only [dSeq, dNext, dBreak, dCont, dDrop, dRet, dRetN, dIfS, dSet, dB, dNotT, dAndT, dOrT, dNot, dAnd, dOr, dIf, dChain, dVar, dC, dOp, dUn, dNil, dCons, dCall, dTup, dLst, pyAll, dSl, dNo, dPart, dAsg, dPar, dDig, dMix, dPutD, dPutM, dM1, dFor, dItL, dItU, dItS, dItR1, dItR2, dItSc, dItZip, dLc, dYes, gdName, wipeD, asP, asB, asI, asS, asL, asU, sliceD, fCmp, fAdd, startD, fI, true_and, and_true, List.getD_cons_zero, List.getD_cons_succ, List.set_cons_zero, List.set_cons_succ, List.map_cons, List.map_nil, List.length_cons, List.length_nil, Nat.zero_add, Nat.reduceAdd, Nat.reduceSub, List.replicate, List.cons_append, List.nil_append, if_true, if_false, reduceIte, Bool.false_eq_true, Bool.not_true, Bool.not_false]
      refine ⟨4, rfl, by decide, by decide, fun j hj => ⟨_, rfl, by omega, by omega, by rw [rng_len]; exact Nat.le_trans (show ((j : Int)).toNat ≤ 4 by omega) (by decide), lc_rel (fun z => ∃ x, ActG x ∧ z = x.d) (fun z hz => by obtain ⟨x, _, rfl⟩ := hz; cases x <;> rfl) _ [] (fun d3 hd3 K1 hk1 => ?_) fun zs lz pz => ?_⟩⟩
      · simp only [dSeq, dNext, dBreak, dCont, dDrop, dRet, dRetN, dIfS, dSet, dB, dNotT, dAndT, dOrT, dNot, dAnd, dOr, dIf, dChain, dVar, dC, dOp, dUn, dNil, dCons, dCall, dTup, dLst, pyAll, dSl, dNo, dPart, dAsg, dPar, dDig, dMix, dPutD, dPutM, dM1, dFor, dItL, dItU, dItS, dItR1, dItR2, dItSc, dItZip, dLc, dYes, gdName, wipeD, asP, asB, asI, asS, asL, asU, sliceD, fCmp, fAdd, startD, fI, true_and, and_true, List.getD_cons_zero, List.getD_cons_succ, List.set_cons_zero, List.set_cons_succ, List.map_cons, List.map_nil, List.length_cons, List.length_nil, Nat.zero_add, Nat.reduceAdd, Nat.reduceSub, List.replicate, List.cons_append, List.nil_append, if_true, if_false, reduceIte, Bool.false_eq_true, Bool.not_true, Bool.not_false]
        exact ⟨rfl, fun x gx => hk1 _ ⟨x, gx, rfl⟩⟩
      · rw [rng_len] at lz
        obtain ⟨as, rfl, gas⟩ := map_of pz
        have l3 : as.length ≤ 3 := by rw [List.length_map] at lz; omega
        simp only [dSeq, dNext, dBreak, dCont, dDrop, dRet, dRetN, dIfS, dSet, dB, dNotT, dAndT, dOrT, dNot, dAnd, dOr, dIf, dChain, dVar, dC, dOp, dUn, dNil, dCons, dCall, dTup, dLst, pyAll, dSl, dNo, dPart, dAsg, dPar, dDig, dMix, dPutD, dPutM, dM1, dFor, dItL, dItU, dItS, dItR1, dItR2, dItSc, dItZip, dLc, dYes, gdName, wipeD, asP, asB, asI, asS, asL, asU, sliceD, fCmp, fAdd, startD, fI, true_and, and_true, List.getD_cons_zero, List.getD_cons_succ, List.set_cons_zero, List.set_cons_succ, List.map_cons, List.map_nil, List.length_cons, List.length_nil, Nat.zero_add, Nat.reduceAdd, Nat.reduceSub, List.replicate, List.cons_append, List.nil_append, if_true, if_false, reduceIte, Bool.false_eq_true, Bool.not_true, Bool.not_false]
        refine ⟨3, rfl, by decide, by decide, fun i hi => ⟨rfl, rfl, Nat.zero_le _, ?_⟩⟩
        simp only [eqv_int, Bool.false_eq_true, if_false]
        cases decide ((i : Int) = 0) with
        | true =>
          refine ⟨by decide, rfl, _, rfl, by decide, by decide, fun w hw => ?_⟩
          obtain ⟨w, hw2, rfl⟩ := List.mem_map.mp (show w ∈ E2.map PyData.str from hw)
          refine ⟨(show 1 ≤ sizeLine by decide), Nat.lt_of_le_of_lt (show (as.map Act.d).length ≤ 3 by rw [List.length_map]; exact l3) (by decide), rfl, rfl, fun c gc => ⟨_, .inl rfl, (show 2 ≤ sizeLine by decide), ?_⟩⟩
          have q := h ⟨c, as ++ [.en w]⟩ ⟨gc, acts_ge gas l3 hw2⟩
          unfold Rl.d at q
          rw [List.map_append] at q
          exact q
        | false => exact ⟨rfl, fun c gc => ⟨_, .inl rfl, (show 2 ≤ sizeLine by decide), h ⟨c, as⟩ ⟨gc, acts_g gas l3⟩⟩⟩⟩).mono hk
theorem ok_w_message (T : Tx K mg) {k : Nat} (hk : 3 ≤ k) : FnG P w K mg base CX0 k T.a_w_message T.d_w_message ["stream", "address"] (spD ⟨K, P, w⟩ gMsg29) :=
  (okB T.F_w_message sc_w_message (fun ds R h => by obtain ⟨_, rfl, _⟩ := h; rfl) fun cdv A gd outer s H E hr => ⟨_, (dss_cons (ds_set (i := 2) sc_w_message.nd rfl (by first | exact Or.inl rfl | exact Or.inr rfl) (de_call (ok_w_choose T (k := 2) (by decide)) gd hr (by rfl) T.m_w_choose T.F_w_choose.kp T.b_w_choose pass0 (da_cons (dv 0) (da_cons (de_lst (da_cons de_str (da_cons de_str (da_cons de_str (da_cons de_str (da_cons de_str (da_cons de_str (da_cons de_str (da_cons de_str da_nil))))))))) da_nil))))
    (dss_cons (ds_set (i := 3) sc_w_message.nd rfl (by first | exact Or.inl rfl | exact Or.inr rfl) (de_lst (da_cons de_str (da_cons de_str (da_cons de_str (da_cons de_str (da_cons de_str (da_cons de_str (da_cons de_str (da_cons de_str da_nil))))))))))
    (dss_cons (ds_setLc (i := 4) rfl sc_w_message.nd rfl rfl (sw_true rfl rfl rfl (by decide +kernel)) (own := [("turn", 5)]) (di_rng1 (by rfl) T.n_range (da_cons (de_call (ok_w_draw T (k := 2) (by decide)) gd hr (by rfl) T.m_w_draw T.F_w_draw.kp T.b_w_draw pass0 (da_cons (dv 0) (da_cons de_int da_nil))) da_nil)) (blkOk_by (N := ["stream", "address", "sender", "some", "pieces", "turn", "marks"]) (own := [("turn", 5)]) (sc := defScope s_w_message) (by decide +kernel)) (fun _ _ _ _ _ => (dg_name (i := 5) (by decide) sc_w_message.nd rfl (by first | exact Or.inl rfl | exact Or.inr rfl))) (fun _ _ _ _ _ => dts_nil) (fun _ _ _ _ _ => (de_call (ok_w_choose T (k := 2) (by decide)) gd hr (by rfl) T.m_w_choose T.F_w_choose.kp T.b_w_choose pass0 (da_cons (dv 0) (da_cons (dv 3) da_nil)))))
    (dss_cons (ds_set (i := 6) sc_w_message.nd rfl (by first | exact Or.inl rfl | exact Or.inr rfl) (de_slice (de_call (ok_w_shuffled T (k := 2) (by decide)) gd hr (by rfl) T.m_w_shuffled T.F_w_shuffled.kp T.b_w_shuffled pass0 (da_cons (dv 0) (da_cons (de_lst (da_cons de_str (da_cons de_str (da_cons de_str (da_cons de_str da_nil))))) da_nil))) do_none (do_some (de_call (ok_w_choose T (k := 2) (by decide)) gd hr (by rfl) T.m_w_choose T.F_w_choose.kp T.b_w_choose pass0 (da_cons (dv 0) (da_cons (de_lst (da_cons de_int (da_cons de_int (da_cons de_int (da_cons de_int (da_cons de_int da_nil)))))) da_nil))))))
    (dss_one (ds_ret (de_tup (da_cons (dv 2) (da_cons (dv 1) (da_cons (de_join de_str (dv 4)) (da_cons (de_callTy cd_tuple (by rfl) T.n_tuple bt_tuple (da_cons (de_callB cd_sortL (by rfl) T.n_sorted bt_sorted (da_cons (dv 6) da_nil)) da_nil)) da_nil))))))))))), fun ds R h => by
      obtain ⟨a, rfl, ha, h⟩ := h
      simp only [dSeq, dNext, dBreak, dCont, dDrop, dRet, dRetN, dIfS, dSet, dB, dNotT, dAndT, dOrT, dNot, dAnd, dOr, dIf, dChain, dVar, dC, dOp, dUn, dNil, dCons, dCall, dTup, dLst, pyAll, dSl, dNo, dPart, dAsg, dPar, dDig, dMix, dPutD, dPutM, dM1, dFor, dItL, dItU, dItS, dItR1, dItR2, dItSc, dItZip, dLc, dYes, gdName, wipeD, asP, asB, asI, asS, asL, asU, sliceD, fCmp, fAdd, startD, fI, true_and, and_true, List.getD_cons_zero, List.getD_cons_succ, List.set_cons_zero, List.set_cons_succ, List.map_cons, List.map_nil, List.length_cons, List.length_nil, Nat.zero_add, Nat.reduceAdd, Nat.reduceSub, List.replicate, List.cons_append, List.nil_append, if_true, if_false, reduceIte, Bool.false_eq_true, Bool.not_true, Bool.not_false]
      refine ⟨by decide, rfl, _, rfl, by decide, by decide, fun x hx => ?_⟩
      obtain ⟨s, hs, rfl⟩ := List.mem_map.mp (show x ∈ S8.map PyData.str from hx)
      refine ⟨by decide, rfl, 4, rfl, by decide, by decide, fun j hj => ⟨_, rfl, by omega, by omega, by rw [rng_len]; exact Nat.le_trans (show ((j : Int)).toNat ≤ 4 by omega) (by decide), lc_rel (fun z => ∃ y, y ∈ B8 ∧ z = .str y) (fun z hz => by obtain ⟨y, _, rfl⟩ := hz; rfl) _ [] (fun d3 hd3 K1 hk1 => ?_) fun zs lz pz => ?_⟩⟩
      · simp only [dSeq, dNext, dBreak, dCont, dDrop, dRet, dRetN, dIfS, dSet, dB, dNotT, dAndT, dOrT, dNot, dAnd, dOr, dIf, dChain, dVar, dC, dOp, dUn, dNil, dCons, dCall, dTup, dLst, pyAll, dSl, dNo, dPart, dAsg, dPar, dDig, dMix, dPutD, dPutM, dM1, dFor, dItL, dItU, dItS, dItR1, dItR2, dItSc, dItZip, dLc, dYes, gdName, wipeD, asP, asB, asI, asS, asL, asU, sliceD, fCmp, fAdd, startD, fI, true_and, and_true, List.getD_cons_zero, List.getD_cons_succ, List.set_cons_zero, List.set_cons_succ, List.map_cons, List.map_nil, List.length_cons, List.length_nil, Nat.zero_add, Nat.reduceAdd, Nat.reduceSub, List.replicate, List.cons_append, List.nil_append, if_true, if_false, reduceIte, Bool.false_eq_true, Bool.not_true, Bool.not_false]
        exact ⟨_, rfl, by decide, by decide, fun x hx => by
          obtain ⟨y, hy, rfl⟩ := List.mem_map.mp (show x ∈ B8.map PyData.str from hx)
          exact hk1 _ ⟨y, hy, rfl⟩⟩
      · rw [rng_len] at lz
        obtain ⟨ys, rfl, hys⟩ := map_of pz
        have l3 : ys.length ≤ 3 := by rw [List.length_map] at lz; omega
        refine ⟨by decide, rfl, _, rfl, by decide, fun ms' hp => ⟨by decide, rfl, _, rfl, by decide, by decide, fun x hx => ?_⟩⟩
        obtain ⟨ms, pm, rfl⟩ := perm_map (f := PyData.str) hp M4s rfl
        obtain ⟨k, hk, rfl⟩ := two_int hx
        show nP (cutD (ms.map .str) none (some (k : Int))) = true ∧ _
        rw [cut_to, ← List.map_take]
        have ps := pieces_sum hys
        refine ⟨rfl, ys, .inl rfl, Nat.le_trans (Nat.add_le_add (Nat.le_trans ps (show 3 * ys.length ≤ 9 by omega)) (Nat.mul_le_mul l3 (show (Str.ofString "").length ≤ 0 by decide))) (by decide), _, rfl, by rw [List.length_take]; omega, fun zs pz sz => ⟨_, .inl rfl, (show 4 ≤ sizeLine by decide), ?_⟩⟩
        rw [show Txt.join (Str.ofString "") ys = Str.join (Str.ofString "") ys from StrLaws.glued_eq_join _ _]
        exact h s _ zs (msg_g hs ha hys l3 pm pz hk sz)⟩).mono hk
theorem ok_w_plain_rule (T : Tx K mg) {k : Nat} (hk : 5 ≤ k) : FnG P w K mg base CX0 k T.a_w_plain_rule T.d_w_plain_rule ["stream"] (spD ⟨K, P, w⟩ gPlain29) :=
  (okB T.F_w_plain_rule sc_w_plain_rule (fun ds R h => by obtain ⟨rfl, _⟩ := h; rfl) fun cdv A gd outer s H E hr => ⟨_, (dss_cons (ds_setLcO (i := 1) rfl sc_w_plain_rule.nd rfl rfl (sw_true rfl rfl rfl (by decide +kernel)) (own := [("turn", 2)]) (di_rng1 (by rfl) T.n_range (da_cons (de_call (ok_w_draw T (k := 4) (by decide)) gd hr (by rfl) T.m_w_draw T.F_w_draw.kp T.b_w_draw pass0 (da_cons (dv 0) (da_cons de_int da_nil))) da_nil)) (blkOk_by (N := ["stream", "actions", "turn", "action", "leaf", "condition"]) (own := [("turn", 2)]) (sc := defScope s_w_plain_rule) (by decide +kernel)) (fun _ _ _ _ _ => (dg_name (i := 2) (by decide) sc_w_plain_rule.nd rfl (by first | exact Or.inl rfl | exact Or.inr rfl))) (fun _ _ _ _ _ => dts_nil) (fun _ _ _ _ _ => (de_call (ok_w_action T (k := 4) (by decide)) gd hr (by rfl) T.m_w_action T.F_w_action.kp T.b_w_action pass0 (da_cons (dv 0) da_nil))))
    (dss_cons (ds_if (dt_cmp (od_eqQ hr.units) (de_call (ok_w_draw T (k := 4) (by decide)) gd hr (by rfl) T.m_w_draw T.F_w_draw.kp T.b_w_draw pass0 (da_cons (dv 0) (da_cons de_int da_nil))) de_int) (dss_one (ds_app (i := 1) (pv 1) (de_tup (da_cons (de_call (ok_w_choose T (k := 4) (by decide)) gd hr (by rfl) T.m_w_choose T.F_w_choose.kp T.b_w_choose pass0 (da_cons (dv 0) (da_cons (de_lst (da_cons de_str (da_cons de_str da_nil))) da_nil))) da_nil)) (fun ha => ps_expr (pe_bm PySem.F.plainAttrs_list PySem.F.slot_list_append PySem.F.type_list_append mt_append (pv 1) ha)))) (dss_one (ds_frz (i := 1) (ds_setLcO (i := 1) rfl sc_w_plain_rule.nd rfl rfl (sw_true rfl rfl rfl (by decide +kernel)) (own := [("action", 3)]) (di_list (dv 1)) (blkOk_by (N := ["stream", "actions", "turn", "action", "leaf", "condition"]) (own := [("action", 3)]) (sc := defScope s_w_plain_rule) (by decide +kernel)) (fun _ _ _ _ _ => (dg_name (i := 3) (by decide) sc_w_plain_rule.nd rfl (by first | exact Or.inl rfl | exact Or.inr rfl))) (fun _ _ _ _ _ => (dts_one (dt_cmp (od_notinW (u66 hr)) (de_ix (dv 3) de_int) (de_tup (da_cons de_str (da_cons de_str da_nil)))))) (fun _ _ _ _ _ => (dv 3))))))
    (dss_cons (ds_set (i := 4) sc_w_plain_rule.nd rfl (by first | exact Or.inl rfl | exact Or.inr rfl) (de_call (ok_w_leaf T (k := 4) (by decide)) gd hr (by rfl) T.m_w_leaf T.F_w_leaf.kp T.b_w_leaf pass0 (da_cons (dv 0) da_nil)))
    (dss_cons (ds_set (i := 5) sc_w_plain_rule.nd rfl (by first | exact Or.inl rfl | exact Or.inr rfl) (de_call (ok_w_choose T (k := 4) (by decide)) gd hr (by rfl) T.m_w_choose T.F_w_choose.kp T.b_w_choose pass0 (da_cons (dv 0) (da_cons (de_lst (da_cons (dv 4) (da_cons (de_tup (da_cons de_str (da_cons (dv 4) da_nil))) (da_cons (de_tup (da_cons de_str (da_cons (de_tup (da_cons (dv 4) (da_cons (de_call (ok_w_leaf T (k := 4) (by decide)) gd hr (by rfl) T.m_w_leaf T.F_w_leaf.kp T.b_w_leaf pass0 (da_cons (dv 0) da_nil)) da_nil))) da_nil))) da_nil)))) da_nil))))
    (dss_one (ds_frz (i := 1) (ds_ret (de_tup (da_cons (dv 5) (da_cons (de_callTy cd_tuple (by rfl) T.n_tuple bt_tuple (da_cons (dv 1) da_nil)) da_nil)))))))))), fun ds R h => by
      obtain ⟨rfl, h⟩ := h
      show dSeq _ (dSeq _ plTail) _ _
      refine ⟨4, rfl, by decide, by decide, fun j hj => ⟨_, rfl, by omega, by omega, by rw [rng_len]; exact Nat.le_trans (show ((j : Int)).toNat ≤ 4 by omega) (by decide), lc_rel (fun z => ∃ x, ActG x ∧ z = x.d) (fun z hz => by obtain ⟨x, _, rfl⟩ := hz; cases x <;> rfl) _ [] (fun d3 hd3 K1 hk1 => ?_) fun zs lz pz => ?_⟩⟩
      · simp only [dSeq, dNext, dBreak, dCont, dDrop, dRet, dRetN, dIfS, dSet, dB, dNotT, dAndT, dOrT, dNot, dAnd, dOr, dIf, dChain, dVar, dC, dOp, dUn, dNil, dCons, dCall, dTup, dLst, pyAll, dSl, dNo, dPart, dAsg, dPar, dDig, dMix, dPutD, dPutM, dM1, dFor, dItL, dItU, dItS, dItR1, dItR2, dItSc, dItZip, dLc, dYes, gdName, wipeD, asP, asB, asI, asS, asL, asU, sliceD, fCmp, fAdd, startD, fI, true_and, and_true, List.getD_cons_zero, List.getD_cons_succ, List.set_cons_zero, List.set_cons_succ, List.map_cons, List.map_nil, List.length_cons, List.length_nil, Nat.zero_add, Nat.reduceAdd, Nat.reduceSub, List.replicate, List.cons_append, List.nil_append, if_true, if_false, reduceIte, Bool.false_eq_true, Bool.not_true, Bool.not_false]
        exact ⟨rfl, fun x gx => hk1 _ ⟨x, gx, rfl⟩⟩
      · rw [rng_len] at lz
        obtain ⟨as, rfl, gas⟩ := map_of pz
        have l3 : as.length ≤ 3 := by rw [List.length_map] at lz; omega
        refine ⟨2, rfl, by decide, by decide, fun i hi => ⟨rfl, rfl, Nat.zero_le _, ?_⟩⟩
        simp only [eqv_int, Bool.false_eq_true, if_false]
        cases decide ((i : Int) = 0) with
        | true =>
          refine ⟨by decide, rfl, _, rfl, by decide, by decide, fun w hw => ?_⟩
          obtain ⟨w, hw2, rfl⟩ := List.mem_map.mp (show w ∈ E2.map PyData.str from hw)
          refine ⟨(show 1 ≤ sizeLine by decide), Nat.lt_of_le_of_lt (show (as.map Act.d).length ≤ 3 by rw [List.length_map]; exact l3) (by decide), rfl, ?_⟩
          have q := pl_tail (E := { nx := fun x => R (.p .none), rt := R }) (y2 := .un) (y3 := .un) (y4 := .un) (y5 := .un) (acts_ge gas l3 hw2) (.inr ⟨as, w, rfl, (E2_ok w hw2).2.2.2⟩) h
          rw [List.map_append] at q
          exact q
        | false =>
          have sub : ∀ x ∈ as.filter (fun x => !tmB x.d), x ∈ as := fun x m => (List.mem_filter.mp m).1
          have q := pl_tail (E := { nx := fun x => R (.p .none), rt := R }) (y2 := .un) (y3 := .un) (y4 := .un) (y5 := .un) (acts_g (fun x m => gas x (sub x m)) (Nat.le_trans (List.length_filter_le _ _) l3)) tm_plain h
          have e : (as.filter fun x => !tmB x.d).map Act.d = (as.map Act.d).filter fun d => !tmB d := by rw [List.filter_map]; rfl
          rw [e] at q
          refine ⟨by rw [List.nil_append, List.length_map]; exact Nat.le_trans l3 (by decide), lc_fq tmB _ [] (fun d hd K1 K2 hk => ?_) ?_ q⟩
          · simp only [dSeq, dNext, dBreak, dCont, dDrop, dRet, dRetN, dIfS, dSet, dB, dNotT, dAndT, dOrT, dNot, dAnd, dOr, dIf, dChain, dVar, dC, dOp, dUn, dNil, dCons, dCall, dTup, dLst, pyAll, dSl, dNo, dPart, dAsg, dPar, dDig, dMix, dPutD, dPutM, dM1, dFor, dItL, dItU, dItS, dItR1, dItR2, dItSc, dItZip, dLc, dYes, gdName, wipeD, asP, asB, asI, asS, asL, asU, sliceD, fCmp, fAdd, startD, fI, true_and, and_true, List.getD_cons_zero, List.getD_cons_succ, List.set_cons_zero, List.set_cons_succ, List.map_cons, List.map_nil, List.length_cons, List.length_nil, Nat.zero_add, Nat.reduceAdd, Nat.reduceSub, List.replicate, List.cons_append, List.nil_append, if_true, if_false, reduceIte, Bool.false_eq_true, Bool.not_true, Bool.not_false]
            obtain ⟨x, hx, rfl⟩ := List.mem_map.mp hd
            cases x with
            | dd w p =>
              refine ⟨_, rfl, (show 2 ≤ sizeLine by decide), ["tag", "mark"], rfl, ?_⟩
              have hk : if inW (.str w) ["tag", "mark"] = true then K2 else K1 (Act.dd w p).d := hk
              show if (!inW (.str w) ["tag", "mark"]) = true then K1 (Act.dd w p).d else K2
              by_cases q : inW (.str w) ["tag", "mark"] = true
              · rw [if_pos q] at hk
                rw [q]
                exact hk
              · rw [if_neg q] at hk
                rw [Bool.eq_false_iff.mpr q]
                exact hk
            | en w =>
              refine ⟨_, rfl, (show 2 ≤ sizeLine by decide), ["tag", "mark"], rfl, ?_⟩
              have hk : if inW (.str w) ["tag", "mark"] = true then K2 else K1 (Act.en w).d := hk
              show if (!inW (.str w) ["tag", "mark"]) = true then K1 (Act.en w).d else K2
              by_cases q : inW (.str w) ["tag", "mark"] = true
              · rw [if_pos q] at hk
                rw [q]
                exact hk
              · rw [if_neg q] at hk
                rw [Bool.eq_false_iff.mpr q]
                exact hk
          · exact okI_of fun d m => by
              obtain ⟨x, hx, rfl⟩ := List.mem_map.mp m
              cases x <;> rfl⟩).mono hk
theorem ok_w_parted (T : Tx K mg) {k : Nat} (hk : 5 ≤ k) : FnG P w K mg base CX0 k T.a_w_parted T.d_w_parted ["stream", "rule"] (spD ⟨K, P, w⟩ gPart29) :=
  (okB T.F_w_parted sc_w_parted (fun ds R h => by obtain ⟨_, rfl, _⟩ := h; rfl) fun cdv A gd outer s H E hr => ⟨_, (dss_cons (ds_asg (vs := [2, 3]) (dv 1) (dg_tup (n := 2) rfl (dgs_cons (dg_name (i := 2) (by decide) sc_w_parted.nd rfl (by first | exact Or.inl rfl | exact Or.inr rfl)) (dgs_cons (dg_name (i := 3) (by decide) sc_w_parted.nd rfl (by first | exact Or.inl rfl | exact Or.inr rfl)) dgs_nil))))
    (dss_cons (ds_set (i := 4) sc_w_parted.nd rfl (by first | exact Or.inl rfl | exact Or.inr rfl) (de_call (ok_w_leaf T (k := 4) (by decide)) gd hr (by rfl) T.m_w_leaf T.F_w_leaf.kp T.b_w_leaf pass0 (da_cons (dv 0) da_nil)))
    (dss_cons (ds_set (i := 5) sc_w_parted.nd rfl (by first | exact Or.inl rfl | exact Or.inr rfl) (de_lst (da_cons (de_tup (da_cons (de_tup (da_cons de_str (da_cons (de_tup (da_cons (dv 2) (da_cons (dv 4) da_nil))) da_nil))) (da_cons (dv 3) da_nil))) (da_cons (de_tup (da_cons (de_tup (da_cons de_str (da_cons (de_tup (da_cons (dv 2) (da_cons (de_tup (da_cons de_str (da_cons (dv 4) da_nil))) da_nil))) da_nil))) (da_cons (dv 3) da_nil))) da_nil))))
    (dss_one (ds_ret (de_call (ok_w_shuffled T (k := 4) (by decide)) gd hr (by rfl) T.m_w_shuffled T.F_w_shuffled.kp T.b_w_shuffled pass0 (da_cons (dv 0) (da_cons (dv 5) da_nil)))))))), fun ds R h => by
      obtain ⟨r, rfl, h⟩ := h
      show dSeq _ partTail _ _
      have hh : ∀ l, LfG l → R (.p (.list [prtA r.c.d (.tuple [.str l.w, l.pt]) (.tuple (r.as.map Act.d)), prtA r.c.d (.tuple [.str (Str.ofString "not"), .tuple [.str l.w, l.pt]]) (.tuple (r.as.map Act.d))])) ∧ R (.p (.list [prtA r.c.d (.tuple [.str (Str.ofString "not"), .tuple [.str l.w, l.pt]]) (.tuple (r.as.map Act.d)), prtA r.c.d (.tuple [.str l.w, l.pt]) (.tuple (r.as.map Act.d))])) := fun l gl => by
        have q := h l gl
        rw [prt1_d, prt2_d] at q
        exact q
      unfold Rl.d
      generalize r.c.d = c at hh ⊢
      generalize r.as.map Act.d = as at hh ⊢
      exact ⟨rfl, _, _, rfl, _, _, rfl, rfl, part_l (E := { nx := fun x => R (.p .none), rt := R }) hh⟩⟩).mono hk
theorem law_s0 (T : Tx K mg) {fa : Addr} {fd : FuncData} (F : Fun K "law" "law" s_law fa fd) (cdv : Value) (A : Around) (gd : A.guards = some []) (outer : List PySem.Env) (s : Shared) (H : Hp) (E : XK) (hr : Room 17 (A.deeper (envOfC "law" (defScope s_law) s.heap.objs.size fa cdv))) : ∃ t, PS (cxOf CX0 P w K mg base ["script", "start", "stream", "turn", "ahead", "step", "rule", "behind", "first", "second", "pair", "never", "one", "two", "look", "message", "early", "place"] "law" (defScope s_law) fa cdv A outer s H E).nox ((defBody s_law).getD 0 (.Pass ⟨0, 0, 0, 0⟩)) (upS ⟨K, P, w⟩ t) ∧ ∀ (ns : List Int), ns.length ≤ 63 → (∀ n ∈ ns, Bd 1048576 n) → ∀ (D : DE) (δ : Dn), J0 ns δ → D.rt (.p (.bool true)) → (∀ δ', J0 ns δ' → D.nx δ') → t D δ :=
  ⟨_, (ds_for (vs := [1]) PassesOwn.never rfl (di_rng1 (by rfl) T.n_range (da_cons (de_callB (cd_max rfl) (by rfl) T.n_max bt_max (da_cons de_int (da_cons (de_callB (cd_min rfl) (by rfl) T.n_min bt_min (da_cons de_int (da_cons (de_callB cd_lenS (by rfl) T.n_len bt_len (da_cons (dv 0) da_nil)) da_nil))) da_nil))) da_nil)) (dg_name (i := 1) (by decide) sc_law.nd rfl (by first | exact Or.inl rfl | exact Or.inr rfl)) (dss_cons (ds_set (i := 2) sc_law.nd rfl (by first | exact Or.inl rfl | exact Or.inr rfl) (de_call (ok_w_stream T (k := 17) (by decide)) gd hr (by rfl) T.m_w_stream T.F_w_stream.kp T.b_w_stream pass0 (da_cons (dv 0) (da_cons (dv 1) da_nil))))
    (dss_one (ds_for (vs := [3]) PassesOwn.never rfl (di_rng1 (by rfl) T.n_range (da_cons de_int da_nil)) (dg_name (i := 3) (by decide) sc_law.nd rfl (by first | exact Or.inl rfl | exact Or.inr rfl)) (dss_cons (ds_set (i := 4) sc_law.nd rfl (by first | exact Or.inl rfl | exact Or.inr rfl) (de_lc (own := [("step", 5)]) rfl sc_law.nd (di_rng1 (by rfl) T.n_range (da_cons (de_call (ok_w_draw T (k := 17) (by decide)) gd hr (by rfl) T.m_w_draw T.F_w_draw.kp T.b_w_draw pass0 (da_cons (dv 2) (da_cons de_int da_nil))) da_nil)) (blkOk_by (N := ["script", "start", "stream", "turn", "ahead", "step", "rule", "behind", "first", "second", "pair", "never", "one", "two", "look", "message", "early", "place"]) (own := [("step", 5)]) (sc := defScope s_law) (by decide +kernel)) (fun _ _ _ _ _ => (dg_name (i := 5) (by decide) sc_law.nd rfl (by first | exact Or.inl rfl | exact Or.inr rfl))) (fun _ _ _ _ _ => dts_nil) (fun _ _ _ _ _ => (de_call (ok_w_rule T (k := 17) (by decide)) gd hr (by rfl) T.m_w_rule T.F_w_rule.kp T.b_w_rule pass0 (da_cons (dv 2) da_nil)))))
    (dss_cons (ds_par (i := 6) (j := 7) rfl sc_law.nd rfl rfl (by decide) rfl rfl (da_cons (de_call (ok_w_plain_rule T (k := 17) (by decide)) gd hr (by rfl) T.m_w_plain_rule T.F_w_plain_rule.kp T.b_w_plain_rule pass0 (da_cons (dv 2) da_nil)) (da_cons (de_lc (own := [("step", 5)]) rfl sc_law.nd (di_rng1 (by rfl) T.n_range (da_cons (de_call (ok_w_draw T (k := 17) (by decide)) gd hr (by rfl) T.m_w_draw T.F_w_draw.kp T.b_w_draw pass0 (da_cons (dv 2) (da_cons de_int da_nil))) da_nil)) (blkOk_by (N := ["script", "start", "stream", "turn", "ahead", "step", "rule", "behind", "first", "second", "pair", "never", "one", "two", "look", "message", "early", "place"]) (own := [("step", 5)]) (sc := defScope s_law) (by decide +kernel)) (fun _ _ _ _ _ => (dg_name (i := 5) (by decide) sc_law.nd rfl (by first | exact Or.inl rfl | exact Or.inr rfl))) (fun _ _ _ _ _ => dts_nil) (fun _ _ _ _ _ => (de_call (ok_w_rule T (k := 17) (by decide)) gd hr (by rfl) T.m_w_rule T.F_w_rule.kp T.b_w_rule pass0 (da_cons (dv 2) da_nil)))) da_nil)) (fun ha => ps_par rfl sc_law.nd rfl rfl (by decide) rfl rfl ha (by rfl)))
    (dss_cons (ds_asg (vs := [8, 9]) (de_slice (de_call (ok_w_shuffled T (k := 17) (by decide)) gd hr (by rfl) T.m_w_shuffled T.F_w_shuffled.kp T.b_w_shuffled pass0 (da_cons (dv 2) (da_cons (de_lst (da_cons de_str (da_cons de_str (da_cons de_str (da_cons de_str da_nil))))) da_nil))) do_none (do_some de_int)) (dg_lst (n := 2) rfl (dgs_cons (dg_name (i := 8) (by decide) sc_law.nd rfl (by first | exact Or.inl rfl | exact Or.inr rfl)) (dgs_cons (dg_name (i := 9) (by decide) sc_law.nd rfl (by first | exact Or.inl rfl | exact Or.inr rfl)) dgs_nil))))
    (dss_cons (ds_set (i := 10) sc_law.nd rfl (by first | exact Or.inl rfl | exact Or.inr rfl) (de_lst (da_cons (de_tup (da_cons (de_tup (da_cons de_str (da_cons (de_tup (da_cons (dv 8) da_nil)) da_nil))) (da_cons (de_ix (de_call (ok_w_rule T (k := 17) (by decide)) gd hr (by rfl) T.m_w_rule T.F_w_rule.kp T.b_w_rule pass0 (da_cons (dv 2) da_nil)) de_int) da_nil))) (da_cons (de_tup (da_cons (de_tup (da_cons de_str (da_cons (de_tup (da_cons (dv 9) da_nil)) da_nil))) (da_cons (de_ix (de_call (ok_w_rule T (k := 17) (by decide)) gd hr (by rfl) T.m_w_rule T.F_w_rule.kp T.b_w_rule pass0 (da_cons (dv 2) da_nil)) de_int) da_nil))) da_nil))))
    (dss_cons (ds_set (i := 11) sc_law.nd rfl (by first | exact Or.inl rfl | exact Or.inr rfl) (de_tup (da_cons (de_tup (da_cons de_str (da_cons (de_tup (da_cons (de_tup (da_cons de_str (da_cons de_str da_nil))) (da_cons (de_tup (da_cons de_str (da_cons de_str da_nil))) da_nil))) da_nil))) (da_cons (de_tup (da_cons (de_tup (da_cons de_str da_nil)) da_nil)) da_nil))))
    (dss_cons (ds_par2H (i := 12) (j := 13) (de_newH T.mkH (FnOk.mono (k := 16) (ok_H_init T) (by decide)) hr (by rfl) T.mgC T.b_H_init pass0) (de_newH T.mkH (FnOk.mono (k := 16) (ok_H_init T) (by decide)) hr (by rfl) T.mgC T.b_H_init pass0) (fun ha => ps_par rfl sc_law.nd rfl rfl (by decide) rfl rfl ha (by rfl)))
    (dss_cons (ds_meth (i := 12) (pv 12) (by decide +kernel) (by decide +kernel) T.cl T.mt_H_add_mailbox (ok_H_add_mailbox T (k := 17) (by decide)) gd hr T.b_H_add_mailbox .nil pass0 kok_plain (da_cons de_str (da_cons (de_op od_add (de_op od_add (de_op od_add (dv 4) (de_lst (da_cons (dv 6) da_nil))) (dv 7)) (dv 10)) da_nil)))
    (dss_cons (ds_meth (i := 13) (pv 13) (by decide +kernel) (by decide +kernel) T.cl T.mt_H_add_mailbox (ok_H_add_mailbox T (k := 17) (by decide)) gd hr T.b_H_add_mailbox .nil pass0 kok_plain (da_cons de_str (da_cons (de_op od_add (de_op od_add (de_op od_add (de_op od_add (dv 4) (de_call (ok_w_parted T (k := 17) (by decide)) gd hr (by rfl) T.m_w_parted T.F_w_parted.kp T.b_w_parted pass0 (da_cons (dv 2) (da_cons (dv 6) da_nil)))) (de_lst (da_cons (dv 11) da_nil))) (dv 7)) (de_rev (dv 10) (do_some (de_un ud_neg de_int)))) da_nil)))
    (dss_one (ds_for (vs := [14]) PassesOwn.never rfl (di_rng1 (by rfl) T.n_range (da_cons de_int da_nil)) (dg_name (i := 14) (by decide) sc_law.nd rfl (by first | exact Or.inl rfl | exact Or.inr rfl)) (dss_cons (ds_set (i := 15) sc_law.nd rfl (by first | exact Or.inl rfl | exact Or.inr rfl) (de_call (ok_w_message T (k := 17) (by decide)) gd hr (by rfl) T.m_w_message T.F_w_message.kp T.b_w_message pass0 (da_cons (dv 2) (da_cons de_str da_nil))))
    (dss_cons (ds_if (dt_cmp (od_neQ hr.units) (de_lend (i := 12) (de_call (ok_arrive T (k := 17) (by decide)) gd hr (by rfl) T.m_arrive T.F_arrive.kp T.b_arrive pass0 (da_cons (dv 12) (da_cons (dv 15) da_nil)))) (de_lend (i := 13) (de_call (ok_arrive T (k := 17) (by decide)) gd hr (by rfl) T.m_arrive T.F_arrive.kp T.b_arrive pass0 (da_cons (dv 13) (da_cons (dv 15) da_nil))))) (dss_one (ds_ret de_bl)) dss_nil)
    (dss_cons (ds_par (i := 8) (j := 9) rfl sc_law.nd rfl rfl (by decide) rfl rfl (da_cons (de_lend (i := 12) (de_call (ok_firing T (k := 17) (by decide)) gd hr (by rfl) T.m_firing T.F_firing.kp T.b_firing pass0 (da_cons (dv 12) (da_cons (dv 15) da_nil)))) (da_cons (de_lend (i := 13) (de_call (ok_firing T (k := 17) (by decide)) gd hr (by rfl) T.m_firing T.F_firing.kp T.b_firing pass0 (da_cons (dv 13) (da_cons (dv 15) da_nil)))) da_nil)) (fun ha => ps_par rfl sc_law.nd rfl rfl (by decide) rfl rfl ha (by rfl)))
    (dss_cons (ds_setLc (i := 16) rfl sc_law.nd rfl rfl (sw_true rfl rfl rfl (by decide +kernel)) (own := [("place", 17)]) (di_tup (dv 8)) (blkOk_by (N := ["script", "start", "stream", "turn", "ahead", "step", "rule", "behind", "first", "second", "pair", "never", "one", "two", "look", "message", "early", "place"]) (own := [("place", 17)]) (sc := defScope s_law) (by decide +kernel)) (fun _ _ _ _ _ => (dg_name (i := 17) (by decide) sc_law.nd rfl (by first | exact Or.inl rfl | exact Or.inr rfl))) (fun _ _ _ _ _ => (dts_one (dt_cmp od_lt (dv 17) (de_callB cd_len (by rfl) T.n_len bt_len (da_cons (dv 4) da_nil))))) (fun _ _ _ _ _ => (dv 17)))
    (dss_one (ds_if (dw_or (dt_cmp (od_neQ hr.units) (de_callB cd_len (by rfl) T.n_len bt_len (da_cons (dv 8) da_nil)) (de_callB cd_len (by rfl) T.n_len bt_len (da_cons (dv 9) da_nil))) (dw_or1 (dt_cmp (od_neQ hr.units) (dv 16) (de_lc (own := [("place", 17)]) rfl sc_law.nd (di_tup (dv 9)) (blkOk_by (N := ["script", "start", "stream", "turn", "ahead", "step", "rule", "behind", "first", "second", "pair", "never", "one", "two", "look", "message", "early", "place"]) (own := [("place", 17)]) (sc := defScope s_law) (by decide +kernel)) (fun _ _ _ _ _ => (dg_name (i := 17) (by decide) sc_law.nd rfl (by first | exact Or.inl rfl | exact Or.inr rfl))) (fun _ _ _ _ _ => (dts_one (dt_cmp od_lt (dv 17) (de_callB cd_len (by rfl) T.n_len bt_len (da_cons (dv 4) da_nil))))) (fun _ _ _ _ _ => (dv 17)))))).pt (dss_one (ds_ret de_bl)) dss_nil)))))))))))))))))))), fun ns hn hb D δ hI hT hN => by
      obtain ⟨y1, y2, y3, y4, y5, y6, y7, y8, y9, y10, y11, y12, y13, y14, y15, y16, y17, e⟩ := hI
      subst e
      refine ⟨ns, rfl, _, _, rfl, _, _, rfl, _, rfl, by split <;> split <;> omega, by split <;> split <;> omega, for_inv (J0 ns) _ _ ⟨_, _, _, _, _, _, _, _, _, _, _, _, _, _, _, _, _, rfl⟩ (fun d hd δ' hJ E' hrt hnx _ _ => ?_) hN⟩
      obtain ⟨y1, y2, y3, y4, y5, y6, y7, y8, y9, y10, y11, y12, y13, y14, y15, y16, y17, e⟩ := hJ
      subst e
      obtain ⟨k, hk, rfl⟩ := mem_rng hd
      have k5 : k ≤ 63 := by
        revert hk
        split <;> split <;> omega
      refine ⟨ns, k, by rw [Int.zero_add], hn, hb, k5, ?_⟩
      refine ⟨3, rfl, by decide, by decide, for_inv (fun δ => ∃ z1 z3 z4 z5 z6 z7 z8 z9 z10 z11 z12 z13 z14 z15 z16 z17 : Sl, δ = [.v (.scr ns), z1, .v .well, z3, z4, z5, z6, z7, z8, z9, z10, z11, z12, z13, z14, z15, z16, z17]) _ _ ⟨_, _, _, _, _, _, _, _, _, _, _, _, _, _, _, _, rfl⟩ (fun d2 hd2 δ2 hJ2 E2 hrt2 hnx2 _ _ => ?_) fun δ2 hJ2 => ?_⟩
      · obtain ⟨z1, z3, z4, z5, z6, z7, z8, z9, z10, z11, z12, z13, z14, z15, z16, z17, e⟩ := hJ2
        subst e
        exact turn_l29 (C := T.C) fun w3 w4 w5 w6 w7 w8 w9 w10 w11 w12 w13 w14 w15 w16 w17 => hnx2 _ ⟨_, _, _, _, _, _, _, _, _, _, _, _, _, _, _, _, rfl⟩
      · obtain ⟨z1, z3, z4, z5, z6, z7, z8, z9, z10, z11, z12, z13, z14, z15, z16, z17, e⟩ := hJ2
        subst e
        exact hnx _ ⟨_, _, _, _, _, _, _, _, _, _, _, _, _, _, _, _, _, rfl⟩⟩
theorem law_s1 (T : Tx K mg) {fa : Addr} {fd : FuncData} (F : Fun K "law" "law" s_law fa fd) (cdv : Value) (A : Around) (gd : A.guards = some []) (outer : List PySem.Env) (s : Shared) (H : Hp) (E : XK) (hr : Room 17 (A.deeper (envOfC "law" (defScope s_law) s.heap.objs.size fa cdv))) : ∃ t, PS (cxOf CX0 P w K mg base ["script", "start", "stream", "turn", "ahead", "step", "rule", "behind", "first", "second", "pair", "never", "one", "two", "look", "message", "early", "place"] "law" (defScope s_law) fa cdv A outer s H E).nox ((defBody s_law).getD 1 (.Pass ⟨0, 0, 0, 0⟩)) (upS ⟨K, P, w⟩ t) ∧ ∀ (ns : List Int), ns.length ≤ 63 → (∀ n ∈ ns, Bd 1048576 n) → ∀ (D : DE) (δ : Dn), J0 ns δ → D.rt (.p (.bool true)) → t D δ :=
  ⟨_, (ds_ret de_bl), fun ns hn hb D δ hI hT => by
      exact hT⟩
theorem ok_law (T : Tx K mg) {fa : Addr} {fd : FuncData} (F : Fun K "law" "law" s_law fa fd) : FnG P w K mg base CX0 18 fa fd ["script"] (spD ⟨K, P, w⟩ fLaw) :=
  okB F sc_law (fun ds R h => by obtain ⟨_, rfl, _⟩ := h; rfl) fun cdv A gd outer s H E hr => by
    obtain ⟨t0, p0, r0⟩ := law_s0 (base := base) T F cdv A gd outer s H E hr
    obtain ⟨t1, p1, r1⟩ := law_s1 (base := base) T F cdv A gd outer s H E hr
    exact ⟨_, (dss_cons p0 (dss_one p1)), fun ds R h => by
      obtain ⟨ns, rfl, hn, hb, h⟩ := h
      have h0 : J0 ns (startD ["script", "start", "stream", "turn", "ahead", "step", "rule", "behind", "first", "second", "pair", "never", "one", "two", "look", "message", "early", "place"] [.scr ns]) := ⟨_, _, _, _, _, _, _, _, _, _, _, _, _, _, _, _, _, rfl⟩
      exact r0 ns hn hb _ _ h0 h fun _ h1 => r1 ns hn hb _ _ h1 h⟩
end
set_option maxHeartbeats 0 in
theorem all_mk {l : PySem.W.OpenLaw} {w : World} {K : PySem.W.Frag} {h : Heap} {mg : Str → Option Value} {fa C : Addr} (X : K.In h) (G : h.Ns mainGlobals mg) (hfa : mg "law" = some (.ref fa))
    {f0 : Addr} {od0 an0 : Option Addr} {sl0 : Array (Option Value)} {oc0 kV0 dc0 pm0 cd0 ct0 : Value}
    (a0 : PySem.W.nsIn K mainGlobals "is_name" = some (some (.ref f0))) (l0 : K.lookup f0 = some ⟨oc0, od0, .func (PySem.W.fnOf "is_name" "is_name" (defArgs s_is_name) (defBody s_is_name) (defScope s_is_name) .none kV0 dc0 pm0 an0 cd0 ct0), sl0⟩) (c0 : PySem.W.codeIn K cd0 "is_name" = true) (k0 : PySem.W.keepIn K (.ref f0) = true)
    {f1 : Addr} {od1 an1 : Option Addr} {sl1 : Array (Option Value)} {oc1 kV1 dc1 pm1 cd1 ct1 : Value}
    (a1 : PySem.W.nsIn K mainGlobals "is_name_tuple" = some (some (.ref f1))) (l1 : K.lookup f1 = some ⟨oc1, od1, .func (PySem.W.fnOf "is_name_tuple" "is_name_tuple" (defArgs s_is_name_tuple) (defBody s_is_name_tuple) (defScope s_is_name_tuple) .none kV1 dc1 pm1 an1 cd1 ct1), sl1⟩) (c1 : PySem.W.codeIn K cd1 "is_name_tuple" = true) (k1 : PySem.W.keepIn K (.ref f1) = true)
    {f2 : Addr} {od2 an2 : Option Addr} {sl2 : Array (Option Value)} {oc2 kV2 dc2 pm2 cd2 ct2 : Value}
    (a2 : PySem.W.nsIn K mainGlobals "is_subject_code" = some (some (.ref f2))) (l2 : K.lookup f2 = some ⟨oc2, od2, .func (PySem.W.fnOf "is_subject_code" "is_subject_code" (defArgs s_is_subject_code) (defBody s_is_subject_code) (defScope s_is_subject_code) .none kV2 dc2 pm2 an2 cd2 ct2), sl2⟩) (c2 : PySem.W.codeIn K cd2 "is_subject_code" = true) (k2 : PySem.W.keepIn K (.ref f2) = true)
    {f3 : Addr} {od3 an3 : Option Addr} {sl3 : Array (Option Value)} {oc3 kV3 dc3 pm3 cd3 ct3 : Value}
    (a3 : PySem.W.nsIn K mainGlobals "is_subject" = some (some (.ref f3))) (l3 : K.lookup f3 = some ⟨oc3, od3, .func (PySem.W.fnOf "is_subject" "is_subject" (defArgs s_is_subject) (defBody s_is_subject) (defScope s_is_subject) .none kV3 dc3 pm3 an3 cd3 ct3), sl3⟩) (c3 : PySem.W.codeIn K cd3 "is_subject" = true) (k3 : PySem.W.keepIn K (.ref f3) = true)
    {f4 : Addr} {od4 an4 : Option Addr} {sl4 : Array (Option Value)} {oc4 kV4 dc4 pm4 cd4 ct4 : Value}
    (a4 : PySem.W.nsIn K mainGlobals "is_text" = some (some (.ref f4))) (l4 : K.lookup f4 = some ⟨oc4, od4, .func (PySem.W.fnOf "is_text" "is_text" (defArgs s_is_text) (defBody s_is_text) (defScope s_is_text) .none kV4 dc4 pm4 an4 cd4 ct4), sl4⟩) (c4 : PySem.W.codeIn K cd4 "is_text" = true) (k4 : PySem.W.keepIn K (.ref f4) = true)
    {f5 : Addr} {od5 an5 : Option Addr} {sl5 : Array (Option Value)} {oc5 kV5 dc5 pm5 cd5 ct5 : Value}
    (a5 : PySem.W.nsIn K mainGlobals "is_message" = some (some (.ref f5))) (l5 : K.lookup f5 = some ⟨oc5, od5, .func (PySem.W.fnOf "is_message" "is_message" (defArgs s_is_message) (defBody s_is_message) (defScope s_is_message) .none kV5 dc5 pm5 an5 cd5 ct5), sl5⟩) (c5 : PySem.W.codeIn K cd5 "is_message" = true) (k5 : PySem.W.keepIn K (.ref f5) = true)
    {f6 : Addr} {od6 an6 : Option Addr} {sl6 : Array (Option Value)} {oc6 kV6 dc6 pm6 cd6 ct6 : Value}
    (a6 : PySem.W.nsIn K mainGlobals "with_mark" = some (some (.ref f6))) (l6 : K.lookup f6 = some ⟨oc6, od6, .func (PySem.W.fnOf "with_mark" "with_mark" (defArgs s_with_mark) (defBody s_with_mark) (defScope s_with_mark) .none kV6 dc6 pm6 an6 cd6 ct6), sl6⟩) (c6 : PySem.W.codeIn K cd6 "with_mark" = true) (k6 : PySem.W.keepIn K (.ref f6) = true)
    {f7 : Addr} {od7 an7 : Option Addr} {sl7 : Array (Option Value)} {oc7 kV7 dc7 pm7 cd7 ct7 : Value}
    (a7 : PySem.W.nsIn K mainGlobals "is_single" = some (some (.ref f7))) (l7 : K.lookup f7 = some ⟨oc7, od7, .func (PySem.W.fnOf "is_single" "is_single" (defArgs s_is_single) (defBody s_is_single) (defScope s_is_single) .none kV7 dc7 pm7 an7 cd7 ct7), sl7⟩) (c7 : PySem.W.codeIn K cd7 "is_single" = true) (k7 : PySem.W.keepIn K (.ref f7) = true)
    {f8 : Addr} {od8 an8 : Option Addr} {sl8 : Array (Option Value)} {oc8 kV8 dc8 pm8 cd8 ct8 : Value}
    (a8 : PySem.W.nsIn K mainGlobals "are_conditions_within" = some (some (.ref f8))) (l8 : K.lookup f8 = some ⟨oc8, od8, .func (PySem.W.fnOf "are_conditions_within" "are_conditions_within" (defArgs s_are_conditions_within) (defBody s_are_conditions_within) (defScope s_are_conditions_within) .none kV8 dc8 pm8 an8 cd8 ct8), sl8⟩) (c8 : PySem.W.codeIn K cd8 "are_conditions_within" = true) (k8 : PySem.W.keepIn K (.ref f8) = true)
    {f9 : Addr} {od9 an9 : Option Addr} {sl9 : Array (Option Value)} {oc9 kV9 dc9 pm9 cd9 ct9 : Value}
    (a9 : PySem.W.nsIn K mainGlobals "is_condition_within" = some (some (.ref f9))) (l9 : K.lookup f9 = some ⟨oc9, od9, .func (PySem.W.fnOf "is_condition_within" "is_condition_within" (defArgs s_is_condition_within) (defBody s_is_condition_within) (defScope s_is_condition_within) .none kV9 dc9 pm9 an9 cd9 ct9), sl9⟩) (c9 : PySem.W.codeIn K cd9 "is_condition_within" = true) (k9 : PySem.W.keepIn K (.ref f9) = true)
    {f10 : Addr} {od10 an10 : Option Addr} {sl10 : Array (Option Value)} {oc10 kV10 dc10 pm10 cd10 ct10 : Value}
    (a10 : PySem.W.nsIn K mainGlobals "is_condition" = some (some (.ref f10))) (l10 : K.lookup f10 = some ⟨oc10, od10, .func (PySem.W.fnOf "is_condition" "is_condition" (defArgs s_is_condition) (defBody s_is_condition) (defScope s_is_condition) .none kV10 dc10 pm10 an10 cd10 ct10), sl10⟩) (c10 : PySem.W.codeIn K cd10 "is_condition" = true) (k10 : PySem.W.keepIn K (.ref f10) = true)
    {f11 : Addr} {od11 an11 : Option Addr} {sl11 : Array (Option Value)} {oc11 kV11 dc11 pm11 cd11 ct11 : Value}
    (a11 : PySem.W.nsIn K mainGlobals "subject_passes" = some (some (.ref f11))) (l11 : K.lookup f11 = some ⟨oc11, od11, .func (PySem.W.fnOf "subject_passes" "subject_passes" (defArgs s_subject_passes) (defBody s_subject_passes) (defScope s_subject_passes) .none kV11 dc11 pm11 an11 cd11 ct11), sl11⟩) (c11 : PySem.W.codeIn K cd11 "subject_passes" = true) (k11 : PySem.W.keepIn K (.ref f11) = true)
    {f12 : Addr} {od12 an12 : Option Addr} {sl12 : Array (Option Value)} {oc12 kV12 dc12 pm12 cd12 ct12 : Value}
    (a12 : PySem.W.nsIn K mainGlobals "single_holds" = some (some (.ref f12))) (l12 : K.lookup f12 = some ⟨oc12, od12, .func (PySem.W.fnOf "single_holds" "single_holds" (defArgs s_single_holds) (defBody s_single_holds) (defScope s_single_holds) .none kV12 dc12 pm12 an12 cd12 ct12), sl12⟩) (c12 : PySem.W.codeIn K cd12 "single_holds" = true) (k12 : PySem.W.keepIn K (.ref f12) = true)
    {f13 : Addr} {od13 an13 : Option Addr} {sl13 : Array (Option Value)} {oc13 kV13 dc13 pm13 cd13 ct13 : Value}
    (a13 : PySem.W.nsIn K mainGlobals "holds" = some (some (.ref f13))) (l13 : K.lookup f13 = some ⟨oc13, od13, .func (PySem.W.fnOf "holds" "holds" (defArgs s_holds) (defBody s_holds) (defScope s_holds) .none kV13 dc13 pm13 an13 cd13 ct13), sl13⟩) (c13 : PySem.W.codeIn K cd13 "holds" = true) (k13 : PySem.W.keepIn K (.ref f13) = true)
    {f14 : Addr} {od14 an14 : Option Addr} {sl14 : Array (Option Value)} {oc14 kV14 dc14 pm14 cd14 ct14 : Value}
    (a14 : PySem.W.nsIn K mainGlobals "is_end" = some (some (.ref f14))) (l14 : K.lookup f14 = some ⟨oc14, od14, .func (PySem.W.fnOf "is_end" "is_end" (defArgs s_is_end) (defBody s_is_end) (defScope s_is_end) .none kV14 dc14 pm14 an14 cd14 ct14), sl14⟩) (c14 : PySem.W.codeIn K cd14 "is_end" = true) (k14 : PySem.W.keepIn K (.ref f14) = true)
    {f15 : Addr} {od15 an15 : Option Addr} {sl15 : Array (Option Value)} {oc15 kV15 dc15 pm15 cd15 ct15 : Value}
    (a15 : PySem.W.nsIn K mainGlobals "is_deed" = some (some (.ref f15))) (l15 : K.lookup f15 = some ⟨oc15, od15, .func (PySem.W.fnOf "is_deed" "is_deed" (defArgs s_is_deed) (defBody s_is_deed) (defScope s_is_deed) .none kV15 dc15 pm15 an15 cd15 ct15), sl15⟩) (c15 : PySem.W.codeIn K cd15 "is_deed" = true) (k15 : PySem.W.keepIn K (.ref f15) = true)
    {f16 : Addr} {od16 an16 : Option Addr} {sl16 : Array (Option Value)} {oc16 kV16 dc16 pm16 cd16 ct16 : Value}
    (a16 : PySem.W.nsIn K mainGlobals "are_actions" = some (some (.ref f16))) (l16 : K.lookup f16 = some ⟨oc16, od16, .func (PySem.W.fnOf "are_actions" "are_actions" (defArgs s_are_actions) (defBody s_are_actions) (defScope s_are_actions) .none kV16 dc16 pm16 an16 cd16 ct16), sl16⟩) (c16 : PySem.W.codeIn K cd16 "are_actions" = true) (k16 : PySem.W.keepIn K (.ref f16) = true)
    {f17 : Addr} {od17 an17 : Option Addr} {sl17 : Array (Option Value)} {oc17 kV17 dc17 pm17 cd17 ct17 : Value}
    (a17 : PySem.W.nsIn K mainGlobals "is_rule" = some (some (.ref f17))) (l17 : K.lookup f17 = some ⟨oc17, od17, .func (PySem.W.fnOf "is_rule" "is_rule" (defArgs s_is_rule) (defBody s_is_rule) (defScope s_is_rule) .none kV17 dc17 pm17 an17 cd17 ct17), sl17⟩) (c17 : PySem.W.codeIn K cd17 "is_rule" = true) (k17 : PySem.W.keepIn K (.ref f17) = true)
    {f18 : Addr} {od18 an18 : Option Addr} {sl18 : Array (Option Value)} {oc18 kV18 dc18 pm18 cd18 ct18 : Value}
    (a18 : PySem.W.nsIn K mainGlobals "need_rules" = some (some (.ref f18))) (l18 : K.lookup f18 = some ⟨oc18, od18, .func (PySem.W.fnOf "need_rules" "need_rules" (defArgs s_need_rules) (defBody s_need_rules) (defScope s_need_rules) .none kV18 dc18 pm18 an18 cd18 ct18), sl18⟩) (c18 : PySem.W.codeIn K cd18 "need_rules" = true) (k18 : PySem.W.keepIn K (.ref f18) = true)
    {f19 : Addr} {od19 an19 : Option Addr} {sl19 : Array (Option Value)} {oc19 kV19 dc19 pm19 cd19 ct19 : Value}
    (a19 : PySem.W.findIn K (.ref C) "__init__" = some (some (.ref f19))) (i19 : PySem.W.isFn K (.ref f19) = true) (l19 : K.lookup f19 = some ⟨oc19, od19, .func (PySem.W.fnOf "__init__" "House.__init__" (defArgs s_H_init) (defBody s_H_init) (defScope s_H_init) .none kV19 dc19 pm19 an19 cd19 ct19), sl19⟩) (c19 : PySem.W.codeIn K cd19 "House.__init__" = true) (k19 : PySem.W.keepIn K (.ref f19) = true)
    {f20 : Addr} {od20 an20 : Option Addr} {sl20 : Array (Option Value)} {oc20 kV20 dc20 pm20 cd20 ct20 : Value}
    (a20 : PySem.W.findIn K (.ref C) "_put" = some (some (.ref f20))) (i20 : PySem.W.isFn K (.ref f20) = true) (l20 : K.lookup f20 = some ⟨oc20, od20, .func (PySem.W.fnOf "_put" "House._put" (defArgs s_H_put) (defBody s_H_put) (defScope s_H_put) .none kV20 dc20 pm20 an20 cd20 ct20), sl20⟩) (c20 : PySem.W.codeIn K cd20 "House._put" = true) (k20 : PySem.W.keepIn K (.ref f20) = true)
    {f21 : Addr} {od21 an21 : Option Addr} {sl21 : Array (Option Value)} {oc21 kV21 dc21 pm21 cd21 ct21 : Value}
    (a21 : PySem.W.findIn K (.ref C) "_need_new" = some (some (.ref f21))) (i21 : PySem.W.isFn K (.ref f21) = true) (l21 : K.lookup f21 = some ⟨oc21, od21, .func (PySem.W.fnOf "_need_new" "House._need_new" (defArgs s_H_need_new) (defBody s_H_need_new) (defScope s_H_need_new) .none kV21 dc21 pm21 an21 cd21 ct21), sl21⟩) (c21 : PySem.W.codeIn K cd21 "House._need_new" = true) (k21 : PySem.W.keepIn K (.ref f21) = true)
    {f22 : Addr} {od22 an22 : Option Addr} {sl22 : Array (Option Value)} {oc22 kV22 dc22 pm22 cd22 ct22 : Value}
    (a22 : PySem.W.findIn K (.ref C) "_need_room" = some (some (.ref f22))) (i22 : PySem.W.isFn K (.ref f22) = true) (l22 : K.lookup f22 = some ⟨oc22, od22, .func (PySem.W.fnOf "_need_room" "House._need_room" (defArgs s_H_need_room) (defBody s_H_need_room) (defScope s_H_need_room) .none kV22 dc22 pm22 an22 cd22 ct22), sl22⟩) (c22 : PySem.W.codeIn K cd22 "House._need_room" = true) (k22 : PySem.W.keepIn K (.ref f22) = true)
    {f23 : Addr} {od23 an23 : Option Addr} {sl23 : Array (Option Value)} {oc23 kV23 dc23 pm23 cd23 ct23 : Value}
    (a23 : PySem.W.findIn K (.ref C) "_has" = some (some (.ref f23))) (i23 : PySem.W.isFn K (.ref f23) = true) (l23 : K.lookup f23 = some ⟨oc23, od23, .func (PySem.W.fnOf "_has" "House._has" (defArgs s_H_has) (defBody s_H_has) (defScope s_H_has) .none kV23 dc23 pm23 an23 cd23 ct23), sl23⟩) (c23 : PySem.W.codeIn K cd23 "House._has" = true) (k23 : PySem.W.keepIn K (.ref f23) = true)
    {f24 : Addr} {od24 an24 : Option Addr} {sl24 : Array (Option Value)} {oc24 kV24 dc24 pm24 cd24 ct24 : Value}
    (a24 : PySem.W.findIn K (.ref C) "_need" = some (some (.ref f24))) (i24 : PySem.W.isFn K (.ref f24) = true) (l24 : K.lookup f24 = some ⟨oc24, od24, .func (PySem.W.fnOf "_need" "House._need" (defArgs s_H_need) (defBody s_H_need) (defScope s_H_need) .none kV24 dc24 pm24 an24 cd24 ct24), sl24⟩) (c24 : PySem.W.codeIn K cd24 "House._need" = true) (k24 : PySem.W.keepIn K (.ref f24) = true)
    {f25 : Addr} {od25 an25 : Option Addr} {sl25 : Array (Option Value)} {oc25 kV25 dc25 pm25 cd25 ct25 : Value}
    {dT25 : Addr} {dU25 : Option Addr} {dN25 : Nat} {dS25 : Array (Option Value)} {dI25 : Value} (yd25 : K.lookup dT25 = some ⟨.type "tuple", dU25, .seq #[dI25] dN25, dS25⟩)
    (a25 : PySem.W.findIn K (.ref C) "add_mailbox" = some (some (.ref f25))) (i25 : PySem.W.isFn K (.ref f25) = true) (l25 : K.lookup f25 = some ⟨oc25, od25, .func (PySem.W.fnOf "add_mailbox" "House.add_mailbox" (defArgs s_H_add_mailbox) (defBody s_H_add_mailbox) (defScope s_H_add_mailbox) (.ref dT25) kV25 dc25 pm25 an25 cd25 ct25), sl25⟩) (c25 : PySem.W.codeIn K cd25 "House.add_mailbox" = true) (k25 : PySem.W.keepIn K (.ref f25) = true)
    {f26 : Addr} {od26 an26 : Option Addr} {sl26 : Array (Option Value)} {oc26 kV26 dc26 pm26 cd26 ct26 : Value}
    (a26 : PySem.W.findIn K (.ref C) "entry_of" = some (some (.ref f26))) (i26 : PySem.W.isFn K (.ref f26) = true) (l26 : K.lookup f26 = some ⟨oc26, od26, .func (PySem.W.fnOf "entry_of" "House.entry_of" (defArgs s_H_entry_of) (defBody s_H_entry_of) (defScope s_H_entry_of) .none kV26 dc26 pm26 an26 cd26 ct26), sl26⟩) (c26 : PySem.W.codeIn K cd26 "House.entry_of" = true) (k26 : PySem.W.keepIn K (.ref f26) = true)
    {f27 : Addr} {od27 an27 : Option Addr} {sl27 : Array (Option Value)} {oc27 kV27 dc27 pm27 cd27 ct27 : Value}
    (a27 : PySem.W.findIn K (.ref C) "rules_of" = some (some (.ref f27))) (i27 : PySem.W.isFn K (.ref f27) = true) (l27 : K.lookup f27 = some ⟨oc27, od27, .func (PySem.W.fnOf "rules_of" "House.rules_of" (defArgs s_H_rules_of) (defBody s_H_rules_of) (defScope s_H_rules_of) .none kV27 dc27 pm27 an27 cd27 ct27), sl27⟩) (c27 : PySem.W.codeIn K cd27 "House.rules_of" = true) (k27 : PySem.W.keepIn K (.ref f27) = true)
    {f28 : Addr} {od28 an28 : Option Addr} {sl28 : Array (Option Value)} {oc28 kV28 dc28 pm28 cd28 ct28 : Value}
    (a28 : PySem.W.nsIn K mainGlobals "at_mailbox" = some (some (.ref f28))) (l28 : K.lookup f28 = some ⟨oc28, od28, .func (PySem.W.fnOf "at_mailbox" "at_mailbox" (defArgs s_at_mailbox) (defBody s_at_mailbox) (defScope s_at_mailbox) .none kV28 dc28 pm28 an28 cd28 ct28), sl28⟩) (c28 : PySem.W.codeIn K cd28 "at_mailbox" = true) (k28 : PySem.W.keepIn K (.ref f28) = true)
    {f29 : Addr} {od29 an29 : Option Addr} {sl29 : Array (Option Value)} {oc29 kV29 dc29 pm29 cd29 ct29 : Value}
    (a29 : PySem.W.nsIn K mainGlobals "at_list" = some (some (.ref f29))) (l29 : K.lookup f29 = some ⟨oc29, od29, .func (PySem.W.fnOf "at_list" "at_list" (defArgs s_at_list) (defBody s_at_list) (defScope s_at_list) .none kV29 dc29 pm29 an29 cd29 ct29), sl29⟩) (c29 : PySem.W.codeIn K cd29 "at_list" = true) (k29 : PySem.W.keepIn K (.ref f29) = true)
    {f30 : Addr} {od30 an30 : Option Addr} {sl30 : Array (Option Value)} {oc30 kV30 dc30 pm30 cd30 ct30 : Value}
    (a30 : PySem.W.nsIn K mainGlobals "arrival_at" = some (some (.ref f30))) (l30 : K.lookup f30 = some ⟨oc30, od30, .func (PySem.W.fnOf "arrival_at" "arrival_at" (defArgs s_arrival_at) (defBody s_arrival_at) (defScope s_arrival_at) .none kV30 dc30 pm30 an30 cd30 ct30), sl30⟩) (c30 : PySem.W.codeIn K cd30 "arrival_at" = true) (k30 : PySem.W.keepIn K (.ref f30) = true)
    {f31 : Addr} {od31 an31 : Option Addr} {sl31 : Array (Option Value)} {oc31 kV31 dc31 pm31 cd31 ct31 : Value}
    (a31 : PySem.W.nsIn K mainGlobals "arrives" = some (some (.ref f31))) (l31 : K.lookup f31 = some ⟨oc31, od31, .func (PySem.W.fnOf "arrives" "arrives" (defArgs s_arrives) (defBody s_arrives) (defScope s_arrives) .none kV31 dc31 pm31 an31 cd31 ct31), sl31⟩) (c31 : PySem.W.codeIn K cd31 "arrives" = true) (k31 : PySem.W.keepIn K (.ref f31) = true)
    {f32 : Addr} {od32 an32 : Option Addr} {sl32 : Array (Option Value)} {oc32 kV32 dc32 pm32 cd32 ct32 : Value}
    (a32 : PySem.W.nsIn K mainGlobals "arrive" = some (some (.ref f32))) (l32 : K.lookup f32 = some ⟨oc32, od32, .func (PySem.W.fnOf "arrive" "arrive" (defArgs s_arrive) (defBody s_arrive) (defScope s_arrive) .none kV32 dc32 pm32 an32 cd32 ct32), sl32⟩) (c32 : PySem.W.codeIn K cd32 "arrive" = true) (k32 : PySem.W.keepIn K (.ref f32) = true)
    {f33 : Addr} {od33 an33 : Option Addr} {sl33 : Array (Option Value)} {oc33 kV33 dc33 pm33 cd33 ct33 : Value}
    (a33 : PySem.W.nsIn K mainGlobals "firing" = some (some (.ref f33))) (l33 : K.lookup f33 = some ⟨oc33, od33, .func (PySem.W.fnOf "firing" "firing" (defArgs s_firing) (defBody s_firing) (defScope s_firing) .none kV33 dc33 pm33 an33 cd33 ct33), sl33⟩) (c33 : PySem.W.codeIn K cd33 "firing" = true) (k33 : PySem.W.keepIn K (.ref f33) = true)
    {f34 : Addr} {od34 an34 : Option Addr} {sl34 : Array (Option Value)} {oc34 kV34 dc34 pm34 cd34 ct34 : Value}
    (a34 : PySem.W.nsIn K mainGlobals "_law_stream" = some (some (.ref f34))) (l34 : K.lookup f34 = some ⟨oc34, od34, .func (PySem.W.fnOf "_law_stream" "_law_stream" (defArgs s_w_stream) (defBody s_w_stream) (defScope s_w_stream) .none kV34 dc34 pm34 an34 cd34 ct34), sl34⟩) (c34 : PySem.W.codeIn K cd34 "_law_stream" = true) (k34 : PySem.W.keepIn K (.ref f34) = true)
    {f35 : Addr} {od35 an35 : Option Addr} {sl35 : Array (Option Value)} {oc35 kV35 dc35 pm35 cd35 ct35 : Value}
    (a35 : PySem.W.nsIn K mainGlobals "_law_draw" = some (some (.ref f35))) (l35 : K.lookup f35 = some ⟨oc35, od35, .func (PySem.W.fnOf "_law_draw" "_law_draw" (defArgs s_w_draw) (defBody s_w_draw) (defScope s_w_draw) .none kV35 dc35 pm35 an35 cd35 ct35), sl35⟩) (c35 : PySem.W.codeIn K cd35 "_law_draw" = true) (k35 : PySem.W.keepIn K (.ref f35) = true)
    {f36 : Addr} {od36 an36 : Option Addr} {sl36 : Array (Option Value)} {oc36 kV36 dc36 pm36 cd36 ct36 : Value}
    (a36 : PySem.W.nsIn K mainGlobals "_law_choose" = some (some (.ref f36))) (l36 : K.lookup f36 = some ⟨oc36, od36, .func (PySem.W.fnOf "_law_choose" "_law_choose" (defArgs s_w_choose) (defBody s_w_choose) (defScope s_w_choose) .none kV36 dc36 pm36 an36 cd36 ct36), sl36⟩) (c36 : PySem.W.codeIn K cd36 "_law_choose" = true) (k36 : PySem.W.keepIn K (.ref f36) = true)
    {f37 : Addr} {od37 an37 : Option Addr} {sl37 : Array (Option Value)} {oc37 kV37 dc37 pm37 cd37 ct37 : Value}
    (a37 : PySem.W.nsIn K mainGlobals "_law_shuffled" = some (some (.ref f37))) (l37 : K.lookup f37 = some ⟨oc37, od37, .func (PySem.W.fnOf "_law_shuffled" "_law_shuffled" (defArgs s_w_shuffled) (defBody s_w_shuffled) (defScope s_w_shuffled) .none kV37 dc37 pm37 an37 cd37 ct37), sl37⟩) (c37 : PySem.W.codeIn K cd37 "_law_shuffled" = true) (k37 : PySem.W.keepIn K (.ref f37) = true)
    {f38 : Addr} {od38 an38 : Option Addr} {sl38 : Array (Option Value)} {oc38 kV38 dc38 pm38 cd38 ct38 : Value}
    (a38 : PySem.W.nsIn K mainGlobals "_law_text" = some (some (.ref f38))) (l38 : K.lookup f38 = some ⟨oc38, od38, .func (PySem.W.fnOf "_law_text" "_law_text" (defArgs s_w_text) (defBody s_w_text) (defScope s_w_text) .none kV38 dc38 pm38 an38 cd38 ct38), sl38⟩) (c38 : PySem.W.codeIn K cd38 "_law_text" = true) (k38 : PySem.W.keepIn K (.ref f38) = true)
    {f39 : Addr} {od39 an39 : Option Addr} {sl39 : Array (Option Value)} {oc39 kV39 dc39 pm39 cd39 ct39 : Value}
    (a39 : PySem.W.nsIn K mainGlobals "_law_leaf" = some (some (.ref f39))) (l39 : K.lookup f39 = some ⟨oc39, od39, .func (PySem.W.fnOf "_law_leaf" "_law_leaf" (defArgs s_w_leaf) (defBody s_w_leaf) (defScope s_w_leaf) .none kV39 dc39 pm39 an39 cd39 ct39), sl39⟩) (c39 : PySem.W.codeIn K cd39 "_law_leaf" = true) (k39 : PySem.W.keepIn K (.ref f39) = true)
    {f40 : Addr} {od40 an40 : Option Addr} {sl40 : Array (Option Value)} {oc40 kV40 dc40 pm40 cd40 ct40 : Value}
    (a40 : PySem.W.nsIn K mainGlobals "_law_condition" = some (some (.ref f40))) (l40 : K.lookup f40 = some ⟨oc40, od40, .func (PySem.W.fnOf "_law_condition" "_law_condition" (defArgs s_w_condition) (defBody s_w_condition) (defScope s_w_condition) .none kV40 dc40 pm40 an40 cd40 ct40), sl40⟩) (c40 : PySem.W.codeIn K cd40 "_law_condition" = true) (k40 : PySem.W.keepIn K (.ref f40) = true)
    {f41 : Addr} {od41 an41 : Option Addr} {sl41 : Array (Option Value)} {oc41 kV41 dc41 pm41 cd41 ct41 : Value}
    (a41 : PySem.W.nsIn K mainGlobals "_law_action" = some (some (.ref f41))) (l41 : K.lookup f41 = some ⟨oc41, od41, .func (PySem.W.fnOf "_law_action" "_law_action" (defArgs s_w_action) (defBody s_w_action) (defScope s_w_action) .none kV41 dc41 pm41 an41 cd41 ct41), sl41⟩) (c41 : PySem.W.codeIn K cd41 "_law_action" = true) (k41 : PySem.W.keepIn K (.ref f41) = true)
    {f42 : Addr} {od42 an42 : Option Addr} {sl42 : Array (Option Value)} {oc42 kV42 dc42 pm42 cd42 ct42 : Value}
    (a42 : PySem.W.nsIn K mainGlobals "_law_rule" = some (some (.ref f42))) (l42 : K.lookup f42 = some ⟨oc42, od42, .func (PySem.W.fnOf "_law_rule" "_law_rule" (defArgs s_w_rule) (defBody s_w_rule) (defScope s_w_rule) .none kV42 dc42 pm42 an42 cd42 ct42), sl42⟩) (c42 : PySem.W.codeIn K cd42 "_law_rule" = true) (k42 : PySem.W.keepIn K (.ref f42) = true)
    {f43 : Addr} {od43 an43 : Option Addr} {sl43 : Array (Option Value)} {oc43 kV43 dc43 pm43 cd43 ct43 : Value}
    (a43 : PySem.W.nsIn K mainGlobals "_law_message" = some (some (.ref f43))) (l43 : K.lookup f43 = some ⟨oc43, od43, .func (PySem.W.fnOf "_law_message" "_law_message" (defArgs s_w_message) (defBody s_w_message) (defScope s_w_message) .none kV43 dc43 pm43 an43 cd43 ct43), sl43⟩) (c43 : PySem.W.codeIn K cd43 "_law_message" = true) (k43 : PySem.W.keepIn K (.ref f43) = true)
    {f44 : Addr} {od44 an44 : Option Addr} {sl44 : Array (Option Value)} {oc44 kV44 dc44 pm44 cd44 ct44 : Value}
    (a44 : PySem.W.nsIn K mainGlobals "_law_plain_rule" = some (some (.ref f44))) (l44 : K.lookup f44 = some ⟨oc44, od44, .func (PySem.W.fnOf "_law_plain_rule" "_law_plain_rule" (defArgs s_w_plain_rule) (defBody s_w_plain_rule) (defScope s_w_plain_rule) .none kV44 dc44 pm44 an44 cd44 ct44), sl44⟩) (c44 : PySem.W.codeIn K cd44 "_law_plain_rule" = true) (k44 : PySem.W.keepIn K (.ref f44) = true)
    {f45 : Addr} {od45 an45 : Option Addr} {sl45 : Array (Option Value)} {oc45 kV45 dc45 pm45 cd45 ct45 : Value}
    (a45 : PySem.W.nsIn K mainGlobals "_law_parted" = some (some (.ref f45))) (l45 : K.lookup f45 = some ⟨oc45, od45, .func (PySem.W.fnOf "_law_parted" "_law_parted" (defArgs s_w_parted) (defBody s_w_parted) (defScope s_w_parted) .none kV45 dc45 pm45 an45 cd45 ct45), sl45⟩) (c45 : PySem.W.codeIn K cd45 "_law_parted" = true) (k45 : PySem.W.keepIn K (.ref f45) = true)
    {f46 : Addr} {od46 an46 : Option Addr} {sl46 : Array (Option Value)} {oc46 kV46 dc46 pm46 cd46 ct46 : Value}
    (a46 : PySem.W.nsIn K mainGlobals "law" = some (some (.ref f46))) (l46 : K.lookup f46 = some ⟨oc46, od46, .func (PySem.W.fnOf "law" "law" (defArgs s_law) (defBody s_law) (defScope s_law) .none kV46 dc46 pm46 an46 cd46 ct46), sl46⟩) (c46 : PySem.W.codeIn K cd46 "law" = true) (k46 : PySem.W.keepIn K (.ref f46) = true)
    (aC : PySem.W.nsIn K mainGlobals "House" = some (some (.ref C))) (pg : PySem.W.plainGet K C Str.empty = true) (hd : PySem.W.hasDictIn K C = true) (po : PySem.W.plainOver K C = true) (sa : PySem.W.findIn K (.ref C) "__setattr__" = some (some (.builtin "object.__setattr__"))) (mk : PySem.W.makesIn K C = true) (kc : PySem.W.keepIn K (.ref C) = true)
    (nE : PySem.W.findIn K (.ref C) "_entries" = some none) (nM : PySem.W.findIn K (.ref C) "memory" = some none)
    (z0 : PySem.W.nsIn K mainGlobals "all" = some none)
    (z1 : PySem.W.nsIn K mainGlobals "enumerate" = some none)
    (z2 : PySem.W.nsIn K mainGlobals "int" = some none)
    (z3 : PySem.W.nsIn K mainGlobals "isinstance" = some none)
    (z4 : PySem.W.nsIn K mainGlobals "len" = some none)
    (z5 : PySem.W.nsIn K mainGlobals "list" = some none)
    (z6 : PySem.W.nsIn K mainGlobals "max" = some none)
    (z7 : PySem.W.nsIn K mainGlobals "min" = some none)
    (z8 : PySem.W.nsIn K mainGlobals "ord" = some none)
    (z9 : PySem.W.nsIn K mainGlobals "range" = some none)
    (z10 : PySem.W.nsIn K mainGlobals "set" = some none)
    (z11 : PySem.W.nsIn K mainGlobals "sorted" = some none)
    (z12 : PySem.W.nsIn K mainGlobals "str" = some none)
    (z13 : PySem.W.nsIn K mainGlobals "tuple" = some none)
    (z14 : PySem.W.nsIn K mainGlobals "zip" = some none)
    {tk0_0 tk0_1 : Tok} {au0 : Addr} {du0 : Option Addr} {nu0 : Nat} {su0 : Array (Option Value)} (y0 : PySem.W.nsIn K mainGlobals "END_WORDS" = some (some (.ref au0))) (yl0 : K.lookup au0 = some ⟨.type "tuple", du0, .seq #[.str "drop" tk0_0, .str "stop" tk0_1] nu0, su0⟩)
    {tk1 : Tok} (y1 : PySem.W.nsIn K mainGlobals "FIRST_CODE" = some (some (.int 32 tk1)))
    {tk2_0 tk2_1 : Tok} {au2 : Addr} {du2 : Option Addr} {nu2 : Nat} {su2 : Array (Option Value)} (y2 : PySem.W.nsIn K mainGlobals "GROUP_WORDS" = some (some (.ref au2))) (yl2 : K.lookup au2 = some ⟨.type "tuple", du2, .seq #[.str "all" tk2_0, .str "any" tk2_1] nu2, su2⟩)
    {tk3 : Tok} (y3 : PySem.W.nsIn K mainGlobals "INBOX" = some (some (.str "inbox" tk3)))
    {tk4 : Tok} (y4 : PySem.W.nsIn K mainGlobals "LAST_CODE" = some (some (.int 126 tk4)))
    {tk5 : Tok} (y5 : PySem.W.nsIn K mainGlobals "MOST_ACTIONS" = some (some (.int 6 tk5)))
    {tk6 : Tok} (y6 : PySem.W.nsIn K mainGlobals "MOST_ADDRESSES" = some (some (.int 20 tk6)))
    {tk7 : Tok} (y7 : PySem.W.nsIn K mainGlobals "MOST_CHARACTERS" = some (some (.int 8 tk7)))
    {tk8 : Tok} (y8 : PySem.W.nsIn K mainGlobals "MOST_CHARACTERS_IS" = some (some (.int 8 tk8)))
    {tk9 : Tok} (y9 : PySem.W.nsIn K mainGlobals "MOST_CONDITIONS" = some (some (.int 8 tk9)))
    {tk10 : Tok} (y10 : PySem.W.nsIn K mainGlobals "MOST_DEEP" = some (some (.int 4 tk10)))
    {tk11 : Tok} (y11 : PySem.W.nsIn K mainGlobals "MOST_LETTERS" = some (some (.int 12 tk11)))
    {tk12 : Tok} (y12 : PySem.W.nsIn K mainGlobals "MOST_RULES" = some (some (.int 10 tk12)))
    {tk13_0 tk13_1 tk13_2 : Tok} {au13 : Addr} {du13 : Option Addr} {nu13 : Nat} {su13 : Array (Option Value)} (y13 : PySem.W.nsIn K mainGlobals "NAME_WORDS" = some (some (.ref au13))) (yl13 : K.lookup au13 = some ⟨.type "tuple", du13, .seq #[.str "file" tk13_0, .str "forward" tk13_1, .str "mark" tk13_2] nu13, su13⟩)
    {tk14 : Tok} (y14 : PySem.W.nsIn K mainGlobals "PERCENT_CODE" = some (some (.int 37 tk14)))
    {tk15 : Tok} (y15 : PySem.W.nsIn K mainGlobals "REPLY_MARK" = some (some (.str "auto" tk15)))
    {tk16_0 tk16_1 tk16_2 : Tok} {au16 : Addr} {du16 : Option Addr} {nu16 : Nat} {su16 : Array (Option Value)} (y16 : PySem.W.nsIn K mainGlobals "TEXT_WORDS_conditions" = some (some (.ref au16))) (yl16 : K.lookup au16 = some ⟨.type "tuple", du16, .seq #[.str "contains" tk16_0, .str "begins" tk16_1, .str "ends" tk16_2] nu16, su16⟩)
    {tk17_0 tk17_1 : Tok} {au17 : Addr} {du17 : Option Addr} {nu17 : Nat} {su17 : Array (Option Value)} (y17 : PySem.W.nsIn K mainGlobals "TEXT_WORDS_houses" = some (some (.ref au17))) (yl17 : K.lookup au17 = some ⟨.type "tuple", du17, .seq #[.str "tag" tk17_0, .str "reply" tk17_1] nu17, su17⟩)
    (off : K.lookup sysModules = none) :
    K.lookup sysModules = none ∧ ∃ fd : FuncData, (∀ (s : Shared) (u : Value), BindsTo s fd ⟨[u], []⟩ [("script", u)]) ∧ ∀ base : Heap, K.In base → base.Ns mainGlobals mg → FnG l.prog w K mg base CX0 18 fa fd ["script"] (spD ⟨K, l.prog, w⟩ fLaw) := by
  have e := hfa.symm.trans (PySem.W.mg_of X G a46)
  cases e
  have F0 := fun_mk (st := s_is_name) l0 c0 k0
  have F1 := fun_mk (st := s_is_name_tuple) l1 c1 k1
  have F2 := fun_mk (st := s_is_subject_code) l2 c2 k2
  have F3 := fun_mk (st := s_is_subject) l3 c3 k3
  have F4 := fun_mk (st := s_is_text) l4 c4 k4
  have F5 := fun_mk (st := s_is_message) l5 c5 k5
  have F6 := fun_mk (st := s_with_mark) l6 c6 k6
  have F7 := fun_mk (st := s_is_single) l7 c7 k7
  have F8 := fun_mk (st := s_are_conditions_within) l8 c8 k8
  have F9 := fun_mk (st := s_is_condition_within) l9 c9 k9
  have F10 := fun_mk (st := s_is_condition) l10 c10 k10
  have F11 := fun_mk (st := s_subject_passes) l11 c11 k11
  have F12 := fun_mk (st := s_single_holds) l12 c12 k12
  have F13 := fun_mk (st := s_holds) l13 c13 k13
  have F14 := fun_mk (st := s_is_end) l14 c14 k14
  have F15 := fun_mk (st := s_is_deed) l15 c15 k15
  have F16 := fun_mk (st := s_are_actions) l16 c16 k16
  have F17 := fun_mk (st := s_is_rule) l17 c17 k17
  have F18 := fun_mk (st := s_need_rules) l18 c18 k18
  have F19 := fun_mk (st := s_H_init) l19 c19 k19
  have F20 := fun_mk (st := s_H_put) l20 c20 k20
  have F21 := fun_mk (st := s_H_need_new) l21 c21 k21
  have F22 := fun_mk (st := s_H_need_room) l22 c22 k22
  have F23 := fun_mk (st := s_H_has) l23 c23 k23
  have F24 := fun_mk (st := s_H_need) l24 c24 k24
  have F25 := funA_mk (st := s_H_add_mailbox) l25 c25 k25
  have F26 := fun_mk (st := s_H_entry_of) l26 c26 k26
  have F27 := fun_mk (st := s_H_rules_of) l27 c27 k27
  have F28 := fun_mk (st := s_at_mailbox) l28 c28 k28
  have F29 := fun_mk (st := s_at_list) l29 c29 k29
  have F30 := fun_mk (st := s_arrival_at) l30 c30 k30
  have F31 := fun_mk (st := s_arrives) l31 c31 k31
  have F32 := fun_mk (st := s_arrive) l32 c32 k32
  have F33 := fun_mk (st := s_firing) l33 c33 k33
  have F34 := fun_mk (st := s_w_stream) l34 c34 k34
  have F35 := fun_mk (st := s_w_draw) l35 c35 k35
  have F36 := fun_mk (st := s_w_choose) l36 c36 k36
  have F37 := fun_mk (st := s_w_shuffled) l37 c37 k37
  have F38 := fun_mk (st := s_w_text) l38 c38 k38
  have F39 := fun_mk (st := s_w_leaf) l39 c39 k39
  have F40 := fun_mk (st := s_w_condition) l40 c40 k40
  have F41 := fun_mk (st := s_w_action) l41 c41 k41
  have F42 := fun_mk (st := s_w_rule) l42 c42 k42
  have F43 := fun_mk (st := s_w_message) l43 c43 k43
  have F44 := fun_mk (st := s_w_plain_rule) l44 c44 k44
  have F45 := fun_mk (st := s_w_parted) l45 c45 k45
  have F46 := fun_mk (st := s_law) l46 c46 k46
  have T : Tx K mg := ⟨C, ⟨pg, hd, po, sa⟩, nE, nM, PySem.W.mg_of X G aC,
    f0, _, F0, F0.binds (ps := ["value"]) (fun _ _ _ _ _ _ us hl => match us, hl with | [_], _ => rfl), PySem.W.mg_of X G a0,
    f1, _, F1, F1.binds (ps := ["value"]) (fun _ _ _ _ _ _ us hl => match us, hl with | [_], _ => rfl), PySem.W.mg_of X G a1,
    f2, _, F2, F2.binds (ps := ["code"]) (fun _ _ _ _ _ _ us hl => match us, hl with | [_], _ => rfl), PySem.W.mg_of X G a2,
    f3, _, F3, F3.binds (ps := ["value"]) (fun _ _ _ _ _ _ us hl => match us, hl with | [_], _ => rfl), PySem.W.mg_of X G a3,
    f4, _, F4, F4.binds (ps := ["value"]) (fun _ _ _ _ _ _ us hl => match us, hl with | [_], _ => rfl), PySem.W.mg_of X G a4,
    f5, _, F5, F5.binds (ps := ["value"]) (fun _ _ _ _ _ _ us hl => match us, hl with | [_], _ => rfl), PySem.W.mg_of X G a5,
    f6, _, F6, F6.binds (ps := ["marks", "mark"]) (fun _ _ _ _ _ _ us hl => match us, hl with | [_, _], _ => rfl), PySem.W.mg_of X G a6,
    f7, _, F7, F7.binds (ps := ["word", "part"]) (fun _ _ _ _ _ _ us hl => match us, hl with | [_, _], _ => rfl), PySem.W.mg_of X G a7,
    f8, _, F8, F8.binds (ps := ["value", "deep"]) (fun _ _ _ _ _ _ us hl => match us, hl with | [_, _], _ => rfl), PySem.W.mg_of X G a8,
    f9, _, F9, F9.binds (ps := ["value", "deep"]) (fun _ _ _ _ _ _ us hl => match us, hl with | [_, _], _ => rfl), PySem.W.mg_of X G a9,
    f10, _, F10, F10.binds (ps := ["value"]) (fun _ _ _ _ _ _ us hl => match us, hl with | [_], _ => rfl), PySem.W.mg_of X G a10,
    f11, _, F11, F11.binds (ps := ["word", "text", "subject"]) (fun _ _ _ _ _ _ us hl => match us, hl with | [_, _, _], _ => rfl), PySem.W.mg_of X G a11,
    f12, _, F12, F12.binds (ps := ["word", "part", "message"]) (fun _ _ _ _ _ _ us hl => match us, hl with | [_, _, _], _ => rfl), PySem.W.mg_of X G a12,
    f13, _, F13, F13.binds (ps := ["condition", "message"]) (fun _ _ _ _ _ _ us hl => match us, hl with | [_, _], _ => rfl), PySem.W.mg_of X G a13,
    f14, _, F14, F14.binds (ps := ["value"]) (fun _ _ _ _ _ _ us hl => match us, hl with | [_], _ => rfl), PySem.W.mg_of X G a14,
    f15, _, F15, F15.binds (ps := ["value"]) (fun _ _ _ _ _ _ us hl => match us, hl with | [_], _ => rfl), PySem.W.mg_of X G a15,
    f16, _, F16, F16.binds (ps := ["value"]) (fun _ _ _ _ _ _ us hl => match us, hl with | [_], _ => rfl), PySem.W.mg_of X G a16,
    f17, _, F17, F17.binds (ps := ["value"]) (fun _ _ _ _ _ _ us hl => match us, hl with | [_], _ => rfl), PySem.W.mg_of X G a17,
    f18, _, F18, F18.binds (ps := ["rules"]) (fun _ _ _ _ _ _ us hl => match us, hl with | [_], _ => rfl), PySem.W.mg_of X G a18,
    f19, _, F19, F19.binds (ps := ["self"]) (fun _ _ _ _ _ _ us hl => match us, hl with | [_], _ => rfl), ⟨a19, i19, k19⟩,
    f20, _, F20, F20.binds (ps := ["self", "name", "entry"]) (fun _ _ _ _ _ _ us hl => match us, hl with | [_, _, _], _ => rfl), ⟨a20, i20, k20⟩,
    f21, _, F21, F21.binds (ps := ["self", "name"]) (fun _ _ _ _ _ _ us hl => match us, hl with | [_, _], _ => rfl), ⟨a21, i21, k21⟩,
    f22, _, F22, F22.binds (ps := ["self", "name"]) (fun _ _ _ _ _ _ us hl => match us, hl with | [_, _], _ => rfl), ⟨a22, i22, k22⟩,
    f23, _, F23, F23.binds (ps := ["self", "name"]) (fun _ _ _ _ _ _ us hl => match us, hl with | [_, _], _ => rfl), ⟨a23, i23, k23⟩,
    f24, _, F24, F24.binds (ps := ["self", "name", "sort"]) (fun _ _ _ _ _ _ us hl => match us, hl with | [_, _, _], _ => rfl), ⟨a24, i24, k24⟩,
    f25, _, F25, bindsA_mk (st := s_H_add_mailbox) (ps := ["self", "name", "rules"]) yd25 rfl (fun us hl => match us, hl with | [_, _, _], _ => ⟨_, rfl, rfl⟩), ⟨a25, i25, k25⟩,
    f26, _, F26, F26.binds (ps := ["self", "name"]) (fun _ _ _ _ _ _ us hl => match us, hl with | [_, _], _ => rfl), ⟨a26, i26, k26⟩,
    f27, _, F27, F27.binds (ps := ["self", "name"]) (fun _ _ _ _ _ _ us hl => match us, hl with | [_, _], _ => rfl), ⟨a27, i27, k27⟩,
    f28, _, F28, F28.binds (ps := ["rules", "message"]) (fun _ _ _ _ _ _ us hl => match us, hl with | [_, _], _ => rfl), PySem.W.mg_of X G a28,
    f29, _, F29, F29.binds (ps := ["what", "message"]) (fun _ _ _ _ _ _ us hl => match us, hl with | [_, _], _ => rfl), PySem.W.mg_of X G a29,
    f30, _, F30, F30.binds (ps := ["house", "message"]) (fun _ _ _ _ _ _ us hl => match us, hl with | [_, _], _ => rfl), PySem.W.mg_of X G a30,
    f31, _, F31, F31.binds (ps := ["house", "message"]) (fun _ _ _ _ _ _ us hl => match us, hl with | [_, _], _ => rfl), PySem.W.mg_of X G a31,
    f32, _, F32, F32.binds (ps := ["house", "message"]) (fun _ _ _ _ _ _ us hl => match us, hl with | [_, _], _ => rfl), PySem.W.mg_of X G a32,
    f33, _, F33, F33.binds (ps := ["house", "message"]) (fun _ _ _ _ _ _ us hl => match us, hl with | [_, _], _ => rfl), PySem.W.mg_of X G a33,
    f34, _, F34, F34.binds (ps := ["script", "start"]) (fun _ _ _ _ _ _ us hl => match us, hl with | [_, _], _ => rfl), PySem.W.mg_of X G a34,
    f35, _, F35, F35.binds (ps := ["stream", "size"]) (fun _ _ _ _ _ _ us hl => match us, hl with | [_, _], _ => rfl), PySem.W.mg_of X G a35,
    f36, _, F36, F36.binds (ps := ["stream", "things"]) (fun _ _ _ _ _ _ us hl => match us, hl with | [_, _], _ => rfl), PySem.W.mg_of X G a36,
    f37, _, F37, F37.binds (ps := ["stream", "things"]) (fun _ _ _ _ _ _ us hl => match us, hl with | [_, _], _ => rfl), PySem.W.mg_of X G a37,
    f38, _, F38, F38.binds (ps := ["stream"]) (fun _ _ _ _ _ _ us hl => match us, hl with | [_], _ => rfl), PySem.W.mg_of X G a38,
    f39, _, F39, F39.binds (ps := ["stream"]) (fun _ _ _ _ _ _ us hl => match us, hl with | [_], _ => rfl), PySem.W.mg_of X G a39,
    f40, _, F40, F40.binds (ps := ["stream"]) (fun _ _ _ _ _ _ us hl => match us, hl with | [_], _ => rfl), PySem.W.mg_of X G a40,
    f41, _, F41, F41.binds (ps := ["stream"]) (fun _ _ _ _ _ _ us hl => match us, hl with | [_], _ => rfl), PySem.W.mg_of X G a41,
    f42, _, F42, F42.binds (ps := ["stream"]) (fun _ _ _ _ _ _ us hl => match us, hl with | [_], _ => rfl), PySem.W.mg_of X G a42,
    f43, _, F43, F43.binds (ps := ["stream", "address"]) (fun _ _ _ _ _ _ us hl => match us, hl with | [_, _], _ => rfl), PySem.W.mg_of X G a43,
    f44, _, F44, F44.binds (ps := ["stream"]) (fun _ _ _ _ _ _ us hl => match us, hl with | [_], _ => rfl), PySem.W.mg_of X G a44,
    f45, _, F45, F45.binds (ps := ["stream", "rule"]) (fun _ _ _ _ _ _ us hl => match us, hl with | [_, _], _ => rfl), PySem.W.mg_of X G a45,
    ⟨mk, a19, i19, kc⟩,
    PySem.W.mg_none_of X G z0,
    PySem.W.mg_none_of X G z1,
    PySem.W.mg_none_of X G z2,
    PySem.W.mg_none_of X G z3,
    PySem.W.mg_none_of X G z4,
    PySem.W.mg_none_of X G z5,
    PySem.W.mg_none_of X G z6,
    PySem.W.mg_none_of X G z7,
    PySem.W.mg_none_of X G z8,
    PySem.W.mg_none_of X G z9,
    PySem.W.mg_none_of X G z10,
    PySem.W.mg_none_of X G z11,
    PySem.W.mg_none_of X G z12,
    PySem.W.mg_none_of X G z13,
    PySem.W.mg_none_of X G z14,
    .ref au0, PySem.W.mg_of X G y0, ⟨au0, rfl, fun H => .inr ⟨_, _, _, yl0, rfl, rfl, by show 2 ≤ sizeLine; decide, (.cons ⟨_, rfl⟩ (.cons ⟨_, rfl⟩ .nil))⟩⟩,
    _, PySem.W.mg_of X G y1,
    .ref au2, PySem.W.mg_of X G y2, ⟨au2, rfl, fun H => .inr ⟨_, _, _, yl2, rfl, rfl, by show 2 ≤ sizeLine; decide, (.cons ⟨_, rfl⟩ (.cons ⟨_, rfl⟩ .nil))⟩⟩,
    _, PySem.W.mg_of X G y3,
    _, PySem.W.mg_of X G y4,
    _, PySem.W.mg_of X G y5,
    _, PySem.W.mg_of X G y6,
    _, PySem.W.mg_of X G y7,
    _, PySem.W.mg_of X G y8,
    _, PySem.W.mg_of X G y9,
    _, PySem.W.mg_of X G y10,
    _, PySem.W.mg_of X G y11,
    _, PySem.W.mg_of X G y12,
    .ref au13, PySem.W.mg_of X G y13, ⟨au13, rfl, fun H => .inr ⟨_, _, _, yl13, rfl, rfl, by show 3 ≤ sizeLine; decide, (.cons ⟨_, rfl⟩ (.cons ⟨_, rfl⟩ (.cons ⟨_, rfl⟩ .nil)))⟩⟩,
    _, PySem.W.mg_of X G y14,
    _, PySem.W.mg_of X G y15,
    .ref au16, PySem.W.mg_of X G y16, ⟨au16, rfl, fun H => .inr ⟨_, _, _, yl16, rfl, rfl, by show 3 ≤ sizeLine; decide, (.cons ⟨_, rfl⟩ (.cons ⟨_, rfl⟩ (.cons ⟨_, rfl⟩ .nil)))⟩⟩,
    .ref au17, PySem.W.mg_of X G y17, ⟨au17, rfl, fun H => .inr ⟨_, _, _, yl17, rfl, rfl, by show 2 ≤ sizeLine; decide, (.cons ⟨_, rfl⟩ (.cons ⟨_, rfl⟩ .nil))⟩⟩⟩
  exact ⟨off, PySem.W.fnOf "law" "law" (defArgs s_law) (defBody s_law) (defScope s_law) .none kV46 dc46 pm46 an46 cd46 ct46, fun s v => .of_eq rfl, fun base _ _ => ok_law T F46⟩
end MR
open PySem PySem.W PyProof.Rows
set_option maxHeartbeats 0 in
theorem PySem.Challenge.cw_mailrings_k29_whole_rules_parted_holds : PySem.Challenge.rw_mailrings_k29_whole_rules_parted.Holds := by
  w_on; o_law; k_head; (case hw => w_witness2)
  k_fill
  refine MR.walk_G (l := PySem.Challenge.rw_mailrings_k29_whole_rules_parted) (k := 18) rfl rfl (by decide +kernel) ⟨rfl, by decide, by decide⟩ (fun w h Y => PySem.W.kIn_of Y) ?F
  case F =>
    intro w mg fa h KX G hmg
    refine' MR.all_mk KX G hmg ?a0 ?l0 ?c0 ?k0 ?a1 ?l1 ?c1 ?k1 ?a2 ?l2 ?c2 ?k2 ?a3 ?l3 ?c3 ?k3 ?a4 ?l4 ?c4 ?k4 ?a5 ?l5 ?c5 ?k5 ?a6 ?l6 ?c6 ?k6 ?a7 ?l7 ?c7 ?k7 ?a8 ?l8 ?c8 ?k8 ?a9 ?l9 ?c9 ?k9 ?a10 ?l10 ?c10 ?k10 ?a11 ?l11 ?c11 ?k11 ?a12 ?l12 ?c12 ?k12 ?a13 ?l13 ?c13 ?k13 ?a14 ?l14 ?c14 ?k14 ?a15 ?l15 ?c15 ?k15 ?a16 ?l16 ?c16 ?k16 ?a17 ?l17 ?c17 ?k17 ?a18 ?l18 ?c18 ?k18 ?a19 ?i19 ?l19 ?c19 ?k19 ?a20 ?i20 ?l20 ?c20 ?k20 ?a21 ?i21 ?l21 ?c21 ?k21 ?a22 ?i22 ?l22 ?c22 ?k22 ?a23 ?i23 ?l23 ?c23 ?k23 ?a24 ?i24 ?l24 ?c24 ?k24 ?yd25 ?a25 ?i25 ?l25 ?c25 ?k25 ?a26 ?i26 ?l26 ?c26 ?k26 ?a27 ?i27 ?l27 ?c27 ?k27 ?a28 ?l28 ?c28 ?k28 ?a29 ?l29 ?c29 ?k29 ?a30 ?l30 ?c30 ?k30 ?a31 ?l31 ?c31 ?k31 ?a32 ?l32 ?c32 ?k32 ?a33 ?l33 ?c33 ?k33 ?a34 ?l34 ?c34 ?k34 ?a35 ?l35 ?c35 ?k35 ?a36 ?l36 ?c36 ?k36 ?a37 ?l37 ?c37 ?k37 ?a38 ?l38 ?c38 ?k38 ?a39 ?l39 ?c39 ?k39 ?a40 ?l40 ?c40 ?k40 ?a41 ?l41 ?c41 ?k41 ?a42 ?l42 ?c42 ?k42 ?a43 ?l43 ?c43 ?k43 ?a44 ?l44 ?c44 ?k44 ?a45 ?l45 ?c45 ?k45 ?a46 ?l46 ?c46 ?k46 ?aC ?pg ?hd ?po ?sa ?mk ?kc ?nE ?nM ?z0 ?z1 ?z2 ?z3 ?z4 ?z5 ?z6 ?z7 ?z8 ?z9 ?z10 ?z11 ?z12 ?z13 ?z14 ?y0 ?yl0 ?y1 ?y2 ?yl2 ?y3 ?y4 ?y5 ?y6 ?y7 ?y8 ?y9 ?y10 ?y11 ?y12 ?y13 ?yl13 ?y14 ?y15 ?y16 ?yl16 ?y17 ?yl17 ?off
    (case aC => k_is); (case a0 => k_is); (case l0 => k_is); (case c0 => k_is); (case k0 => k_is); (case a1 => k_is); (case l1 => k_is); (case c1 => k_is); (case k1 => k_is); (case a2 => k_is); (case l2 => k_is); (case c2 => k_is); (case k2 => k_is); (case a3 => k_is); (case l3 => k_is); (case c3 => k_is); (case k3 => k_is); (case a4 => k_is); (case l4 => k_is); (case c4 => k_is); (case k4 => k_is); (case a5 => k_is); (case l5 => k_is); (case c5 => k_is); (case k5 => k_is); (case a6 => k_is); (case l6 => k_is); (case c6 => k_is); (case k6 => k_is); (case a7 => k_is); (case l7 => k_is); (case c7 => k_is); (case k7 => k_is); (case a8 => k_is); (case l8 => k_is); (case c8 => k_is); (case k8 => k_is); (case a9 => k_is); (case l9 => k_is); (case c9 => k_is); (case k9 => k_is); (case a10 => k_is); (case l10 => k_is); (case c10 => k_is); (case k10 => k_is); (case a11 => k_is); (case l11 => k_is); (case c11 => k_is); (case k11 => k_is); (case a12 => k_is); (case l12 => k_is); (case c12 => k_is); (case k12 => k_is); (case a13 => k_is); (case l13 => k_is); (case c13 => k_is); (case k13 => k_is); (case a14 => k_is); (case l14 => k_is); (case c14 => k_is); (case k14 => k_is); (case a15 => k_is); (case l15 => k_is); (case c15 => k_is); (case k15 => k_is); (case a16 => k_is); (case l16 => k_is); (case c16 => k_is); (case k16 => k_is); (case a17 => k_is); (case l17 => k_is); (case c17 => k_is); (case k17 => k_is); (case a18 => k_is); (case l18 => k_is); (case c18 => k_is); (case k18 => k_is); (case a19 => k_is); (case i19 => k_is); (case l19 => k_is); (case c19 => k_is); (case k19 => k_is); (case a20 => k_is); (case i20 => k_is); (case l20 => k_is); (case c20 => k_is); (case k20 => k_is); (case a21 => k_is); (case i21 => k_is); (case l21 => k_is); (case c21 => k_is); (case k21 => k_is); (case a22 => k_is); (case i22 => k_is); (case l22 => k_is); (case c22 => k_is); (case k22 => k_is); (case a23 => k_is); (case i23 => k_is); (case l23 => k_is); (case c23 => k_is); (case k23 => k_is); (case a24 => k_is); (case i24 => k_is); (case l24 => k_is); (case c24 => k_is); (case k24 => k_is); (case a25 => k_is); (case i25 => k_is); (case l25 => k_is); (case c25 => k_is); (case k25 => k_is); (case a26 => k_is); (case i26 => k_is); (case l26 => k_is); (case c26 => k_is); (case k26 => k_is); (case a27 => k_is); (case i27 => k_is); (case l27 => k_is); (case c27 => k_is); (case k27 => k_is); (case a28 => k_is); (case l28 => k_is); (case c28 => k_is); (case k28 => k_is); (case a29 => k_is); (case l29 => k_is); (case c29 => k_is); (case k29 => k_is); (case a30 => k_is); (case l30 => k_is); (case c30 => k_is); (case k30 => k_is); (case a31 => k_is); (case l31 => k_is); (case c31 => k_is); (case k31 => k_is); (case a32 => k_is); (case l32 => k_is); (case c32 => k_is); (case k32 => k_is); (case a33 => k_is); (case l33 => k_is); (case c33 => k_is); (case k33 => k_is); (case a34 => k_is); (case l34 => k_is); (case c34 => k_is); (case k34 => k_is); (case a35 => k_is); (case l35 => k_is); (case c35 => k_is); (case k35 => k_is); (case a36 => k_is); (case l36 => k_is); (case c36 => k_is); (case k36 => k_is); (case a37 => k_is); (case l37 => k_is); (case c37 => k_is); (case k37 => k_is); (case a38 => k_is); (case l38 => k_is); (case c38 => k_is); (case k38 => k_is); (case a39 => k_is); (case l39 => k_is); (case c39 => k_is); (case k39 => k_is); (case a40 => k_is); (case l40 => k_is); (case c40 => k_is); (case k40 => k_is); (case a41 => k_is); (case l41 => k_is); (case c41 => k_is); (case k41 => k_is); (case a42 => k_is); (case l42 => k_is); (case c42 => k_is); (case k42 => k_is); (case a43 => k_is); (case l43 => k_is); (case c43 => k_is); (case k43 => k_is); (case a44 => k_is); (case l44 => k_is); (case c44 => k_is); (case k44 => k_is); (case a45 => k_is); (case l45 => k_is); (case c45 => k_is); (case k45 => k_is); (case a46 => k_is); (case l46 => k_is); (case c46 => k_is); (case k46 => k_is); (case pg => k_is); (case hd => k_is); (case po => k_is); (case sa => k_is); (case mk => k_is); (case kc => k_is); (case nE => k_is); (case nM => k_is); (case z0 => k_is); (case z1 => k_is); (case z2 => k_is); (case z3 => k_is); (case z4 => k_is); (case z5 => k_is); (case z6 => k_is); (case z7 => k_is); (case z8 => k_is); (case z9 => k_is); (case z10 => k_is); (case z11 => k_is); (case z12 => k_is); (case z13 => k_is); (case z14 => k_is); (case y0 => k_is); (case yl0 => k_is); (case y1 => k_is); (case y2 => k_is); (case yl2 => k_is); (case y3 => k_is); (case y4 => k_is); (case y5 => k_is); (case y6 => k_is); (case y7 => k_is); (case y8 => k_is); (case y9 => k_is); (case y10 => k_is); (case y11 => k_is); (case y12 => k_is); (case y13 => k_is); (case yl13 => k_is); (case y14 => k_is); (case y15 => k_is); (case y16 => k_is); (case yl16 => k_is); (case y17 => k_is); (case yl17 => k_is); (case yd25 => k_is)
    (case off => rfl)

