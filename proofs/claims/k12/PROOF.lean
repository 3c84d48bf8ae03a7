import PyProof.Rows.All
import Wide.All
import OpenK.AllK
import Wide.FinOn
import HandS.SetFor
import HandS.More
import HandS.ForMost
import HandS.StrMore
import HandS.Zip
import HandS.NoneIn
import HandS.Wide
import HandS.IsInst
import HandS.TupMul
import HandS.TupAny
import HandS.Style
import HandS.ExcInit
import HandS.ExcField
import HandS.ForExc
import HandS.Star
import HandS.ListEq
import HandS.DeepEq
import HandS.Codes
import HandS.Ends
import KE.GoesMore
import KE.GoesEnum
import PyProof.ListStr
import PyProof.Rows.SortShellAny
import HandS.Deep
import HandS.WideBits
import KE.KxText
import HandS.Dict
import HandS.ForDict
import HandS.Conv
import PySem.Challenge.RW_braceloops_k12_right_sizes_by_all_cuts
set_option Elab.async false
set_option linter.all false
set_option maxRecDepth 100000
/-! sets whose members are texts or ints: set(xs) of a list or a tuple, sorted(set(xs)). -/
namespace Sg
open PySem PySem.Spec PyProof.Rows L2

/-- the members of a set, as values -/
structure Mem (P : Program) (w : World) (κ : Type) [DecidableEq κ] where
  k : PySem.KeyKind P w κ
  vl : κ → Tok → Value
  of : Value → κ
  is_vl : ∀ x t, k.is x (vl x t) = true
  shape : ∀ x v, k.is x v = true → ∃ t, v = vl x t
  of_vl : ∀ x t, of (vl x t) = x
  scan : ∀ x t, (vl x t).scannable = true
def memS (P : Program) (w : World) : Mem P w Str where
  k := PySem.strKind P w
  vl := fun x t => .str x t
  of := fun v => match v with
    | .str x _ => x
    | _ => Str.empty
  is_vl := fun x t => strKind_is P w x t
  shape := fun x v h => Value.isStrOf_shape h
  of_vl := fun _ _ => rfl
  scan := fun _ _ => rfl
def memI (P : Program) (w : World) : Mem P w Int where
  k := intKind P w
  vl := fun x t => .int x t
  of := fun v => match v with
    | .int x _ => x
    | _ => 0
  is_vl := fun x t => intKind_is P w x t
  shape := fun x v h => Value.isInt_shape h
  of_vl := fun _ _ => rfl
  scan := fun _ _ => rfl
section
variable {P : Program} {w : World} {κ : Type} [DecidableEq κ] (M : Mem P w κ)
def keyM (e : Int × Value) : κ := M.of e.2
def OkM (e : Int × Value) : Prop := ∃ x t, e.2 = M.vl x t ∧ e.1 = M.k.hash x
/-- the set at a: S tells its members, m counts them -/
def SetM (h : Heap) (a : Addr) (S : κ → Bool) (m : Nat) : Prop :=
  ∃ o rs ep tb, h.get? a = some o ∧ o.ExactSet ∧ o.data = .set rs ep tb ∧ (∀ e ∈ rs.toList, OkM M e) ∧ (rs.toList.map (keyM M)).Nodup ∧ (∀ x, S x = true ↔ x ∈ rs.toList.map (keyM M)) ∧
    rs.size < scanBound ∧ tb.fits rs.size = true ∧ rs.size = m ∧ Ris tb.place.toList ∧ (w.params.followText "set-order" = true ∨ tb.led = true)
variable {M}
variable {h h' : Heap} {a : Addr} {S : κ → Bool} {m : Nat}
theorem SetM.stays (R : SetM M h a S m) (q : ∀ o, h.get? a = some o → h'.get? a = some o) : SetM M h' a S m := by
  obtain ⟨o, rs, ep, tb, oH, z⟩ := R
  exact ⟨o, rs, ep, tb, q o oH, z⟩
theorem SetM.same {S' : κ → Bool} (R : SetM M h a S m) (q : ∀ x, S' x = S x) : SetM M h a S' m := by
  rw [show S' = S from funext q]
  exact R
theorem okM_elems {l : List (Int × Value)} (g : ∀ e ∈ l, OkM M e) : ElemsOf M.k l := fun e he => by
  obtain ⟨x, t, z1, z2⟩ := g e he
  refine ⟨⟨x, by rw [z1]; exact M.is_vl x t, z2⟩, ?_⟩
  rw [z1]
  exact M.scan x t
theorem okM_is {e : Int × Value} (g : OkM M e) (x : κ) : M.k.is x e.2 = true ↔ keyM M e = x := by
  obtain ⟨y, t, z1, _⟩ := g
  have ek : keyM M e = y := by
    show M.of e.2 = y
    rw [z1, M.of_vl]
  rw [ek, z1]
  refine ⟨fun q => ?_, fun q => by rw [← q]; exact M.is_vl y t⟩
  obtain ⟨u, q2⟩ := M.shape x _ q
  have := congrArg M.of q2
  rwa [M.of_vl, M.of_vl] at this
theorem okM_mem {l : List (Int × Value)} (g : ∀ e ∈ l, OkM M e) (x : κ) : x ∈ l.map (keyM M) ↔ ∃ e ∈ l, M.k.is x e.2 = true := by
  rw [List.mem_map]
  exact ⟨fun ⟨e, he, q⟩ => ⟨e, he, (okM_is (g e he) x).2 q⟩, fun ⟨e, he, q⟩ => ⟨e, he, (okM_is (g e he) x).1 q⟩⟩
end

section
variable {P : Program} {w : World} {κ : Type} [DecidableEq κ] {M : Mem P w κ} {A : Around} {E : Value → Shared → Prop} {s : Shared} {a : Addr} {S : κ → Bool} {m : Nat}
theorem addM_tail {gw : Bool → Sem Unit} (gwh : ∀ (b : Bool) (s₁ : Shared) (Q' : Unit → Shared → Prop), Q' () s₁ → wpAny (model P w) A (gw b) Q' E s₁)
    {o : Obj} {rs : Array (Int × Value)} {ep : Nat} {tb : SetTable} (oH : s.heap.get? a = some o) (oX : o.ExactSet) (oD : o.data = .set rs ep tb)
    {rs1 : Array (Int × Value)} {tb2 : SetTable} {S' : κ → Bool} (k1 : ∀ e ∈ rs1.toList, OkM M e) (k2 : (rs1.toList.map (keyM M)).Nodup) (k3 : ∀ x, S' x = true ↔ x ∈ rs1.toList.map (keyM M))
    (k4 : rs1.size < scanBound) (k5 : tb2.fits rs1.size = true) (k6 : Ris tb2.place.toList) (k7 : w.params.followText "set-order" = true ∨ tb2.led = true) {wd : Bool} {R : Option Bool → Shared → Prop}
    (fin : ∀ h', Heap.SameBut a s.heap h' → SetM M h' a S' rs1.size → R (some true) { s with heap := h' }) :
    wpAny (model P w) A (do
        storeSet a rs1 tb2
        if (!wd && tb2.tooFull) = true then do
            gw (relayAll tb2 rs1 (SetTable.grown rs1.size)).2.2
            storeSet a (relayAll tb2 rs1 (SetTable.grown rs1.size)).1 (relayAll tb2 rs1 (SetTable.grown rs1.size)).2.1
            pure (some true)
          else pure (some true)) R E s := by
  refine wpAny_bind (wpAny_storeSet_of oH oD ?_ (fits_of_scanBound k4))
  have oH1 := store_at (es' := rs1) (t' := tb2) oH oD
  have sm1 := Heap.SameBut.update s.heap a (Obj.putSet rs1 tb2)
  split
  · have c1 := relayAll_perm tb2 rs1 (SetTable.grown rs1.size)
    have c2 := relayAll_fits tb2 rs1 (SetTable.grown rs1.size)
    have c3 := relayAll_ris tb2 rs1 (SetTable.grown rs1.size)
    have c4 := relayAll_led tb2 rs1 (SetTable.grown rs1.size)
    generalize relayAll tb2 rs1 (SetTable.grown rs1.size) = Y at c1 c2 c3 c4 ⊢
    obtain ⟨rs2, tb3, gv⟩ := Y
    dsimp only at c1 c2 c3 c4 ⊢
    have ez : rs2.size = rs1.size := by rw [← Array.length_toList, c1.length_eq, Array.length_toList]
    refine wpAny_bind (gwh _ _ _ ?_)
    refine wpAny_bind (wpAny_storeSet_of oH1 rfl ?_ (fits_of_scanBound (ez ▸ k4)))
    have oH2 := store_at (es' := rs2) (t' := tb3) oH1 rfl
    refine wpAny_pure (fin _ (sm1.trans (Heap.SameBut.update _ a _)) ⟨_, rs2, _, tb3, oH2, oX, rfl, fun e he => k1 e (c1.mem_iff.mp he), (c1.map (keyM M)).nodup_iff.mpr k2, fun x => (k3 x).trans (c1.map (keyM M)).mem_iff.symm, ez ▸ k4, c2, ez, c3, k7.imp id fun z => by rw [c4]; exact z⟩)
  · exact wpAny_pure (fin _ sm1 ⟨_, rs1, _, tb2, oH1, oX, rfl, k1, k2, k3, k4, k5, rfl, k6, k7⟩)

theorem addM {x : κ} {tk : Tok} {Q : Bool → Shared → Prop} (R : SetM M s.heap a S m) (few : m + 1 < scanBound)
    (fin : ∀ h', Heap.SameBut a s.heap h' → SetM M h' a (fun y => S y || decide (y = x)) (if S x = true then m else m + 1) → Q (!S x) { s with heap := h' }) :
    wpAny (model P w) A (setAddHashed a (M.vl x tk) (M.k.hash x)) Q E s := by
  obtain ⟨o, rs, ep, tb, oH, oX, oD, k1, k2, k3, k4, k5, k6, k7, k8⟩ := R
  have isx : M.k.is x (M.vl x tk) = true := M.is_vl x tk
  have scx : (M.vl x tk).scannable = true := M.scan x tk
  have elx : ElemsOf M.k rs.toList := okM_elems k1
  unfold setAddHashed setAddHashedIn
  refine wpAny_holding (wpAny_bind (wpAny_setState_of oH oD k5 ?_))
  dsimp only
  rw [byScan_of scx k4 elx]
  simp only [↓reduceIte]
  unfold setAddByScan
  refine wpAny_bind ?_
  refine wpAny_bind (wpAny_rule ?_)
  refine wpAny_bind (wpAny_setScan_of isx oH oD k5 elx ?_)
  cases hfi : List.findIdx? (fun e => M.k.is x e.2) rs.toList with
  | some j =>
    dsimp only
    obtain ⟨jl, jp, _⟩ := List.findIdx?_eq_some_iff_getElem.mp hfi
    have Sx : S x = true := (k3 x).2 ((okM_mem k1 x).2 ⟨rs.toList[j], List.getElem_mem jl, jp⟩)
    refine wpAny_pure (wpAny_pure ?_)
    have z := fin s.heap (Heap.SameBut.refl a s.heap) ⟨o, rs, ep, tb, oH, oX, oD, k1, k2, fun i => by
      rw [Bool.or_eq_true, decide_eq_true_eq, ← k3 i]
      exact ⟨fun u => u.elim id (fun e => e ▸ Sx), .inl⟩, k4, k5, by rw [if_pos Sx]; exact k6, k7, k8⟩
    rw [Sx] at z
    exact z
  | none =>
    dsimp only
    have nin : x ∉ rs.toList.map (keyM M) := fun z => by
      obtain ⟨e, he, q⟩ := (okM_mem k1 x).1 z
      have c := List.findIdx?_eq_none_iff.mp hfi e he
      rw [q] at c
      cases c
    have Sx : S x = false := by
      cases q : S x with
      | false => rfl
      | true => exact absurd ((k3 x).1 q) nin
    have gwy : ∀ (b : Bool) {s₁ : Shared} {Q' : Unit → Shared → Prop}, Q' () s₁ → wpAny (model P w) A (match b with | true => rule "set.scan.the-table-gave-way" | false => pure ()) Q' E s₁ :=
      fun b s₁ Q' q => by cases b <;> first | exact wpAny_pure q | exact wpAny_rule q
    have c1 := layNew_perm tb rs (M.k.hash x) (M.vl x tk)
    have c2 := layNew_fits tb rs (M.k.hash x) (M.vl x tk)
    have c3 := layNew_ris tb rs (M.k.hash x) (M.vl x tk) k7
    have c4 := layNew_led tb rs (M.k.hash x) (M.vl x tk)
    generalize layNew tb rs (M.k.hash x) (M.vl x tk) = Y at c1 c2 c3 c4 ⊢
    obtain ⟨rs1, tb1, wasDm, gv⟩ := Y
    dsimp only at c1 c2 c3 c4 ⊢
    rw [Array.toList_push] at c1
    have d1 : rs1.toList.Perm ((M.k.hash x, M.vl x tk) :: rs.toList) := c1.trans (List.perm_append_singleton _ _)
    have ex : keyM M (M.k.hash x, M.vl x tk) = x := M.of_vl x tk
    have d2 : (rs1.toList.map (keyM M)).Perm (x :: rs.toList.map (keyM M)) := by
      have z := d1.map (keyM M)
      rw [List.map_cons, ex] at z
      exact z
    have e1 : ∀ e ∈ rs1.toList, OkM M e := fun e he => by
      rcases List.mem_cons.mp (d1.mem_iff.mp he) with z | z
      · rw [z]
        exact ⟨x, tk, rfl, rfl⟩
      · exact k1 e z
    have e2 : (rs1.toList.map (keyM M)).Nodup := d2.nodup_iff.mpr (List.nodup_cons.mpr ⟨nin, k2⟩)
    have e3 : ∀ i, (S i || decide (i = x)) = true ↔ i ∈ rs1.toList.map (keyM M) := fun i => by
      rw [Bool.or_eq_true, decide_eq_true_eq, k3 i, d2.mem_iff, List.mem_cons]
      exact Or.comm
    have sz : rs1.size = m + 1 := by rw [← Array.length_toList, d1.length_eq, List.length_cons, Array.length_toList, k6]
    have e4 : rs1.size < scanBound := sz ▸ few
    have e5 : w.params.followText "set-order" = true ∨ tb1.led = true := k8.imp id fun z => by rw [c4]; exact z
    have done : ∀ h', Heap.SameBut a s.heap h' → SetM M h' a (fun y => S y || decide (y = x)) rs1.size → Q true { s with heap := h' } := fun h' sb r => by
      have z := fin h' sb
      rw [Sx] at z
      rw [sz] at r
      exact z r
    refine wpAny_bind (gwy _ ?_)
    split
    · refine wpAny_bind ?_
      rw [hashByValue_scannable 8 scx]
      refine wpAny_pure ?_
      refine addM_tail ?_ oH oX oD e1 e2 e3 e4 ?_ ?_ ?_ ?_
      · intro b s₁ Q' q
        cases b
        · exact wpAny_pure q
        · exact wpAny_rule q
      · first | (split <;> first | exact c2 | exact SetTable.fits_plain_off c2) | exact c2
      · first | (split <;> exact c3) | exact c3
      · first | (split <;> exact e5) | exact e5
      · intro h' sb r
        dsimp only
        exact wpAny_pure (done h' sb r)
    · refine wpAny_bind (wpAny_pure ?_)
      simp only [↓reduceIte]
      refine addM_tail ?_ oH oX oD e1 e2 e3 e4 c2 c3 e5 ?_
      · intro b s₁ Q' q
        cases b
        · exact wpAny_pure q
        · exact wpAny_rule q
      · intro h' sb r
        dsimp only
        exact wpAny_pure (done h' sb r)
end
end Sg
namespace Sg
open PySem PySem.Spec PyProof.Rows L2
def newSet (w : World) : Obj := { cls := .type "set", dict := none, data := .set #[] 0 (.fresh 0 0 (!w.params.followText "set-order")) }
section
variable {P : Program} {w : World} {κ : Type} [DecidableEq κ]
/-- values and the members that they are -/
inductive AreM (M : Mem P w κ) : List Value → List κ → Prop
  | nil : AreM M [] []
  | cons (x : κ) (t : Tok) {vs : List Value} {xs : List κ} : AreM M vs xs → AreM M (M.vl x t :: vs) (x :: xs)
variable {M : Mem P w κ}
theorem AreM.len : ∀ {vs : List Value} {xs : List κ}, AreM M vs xs → vs.length = xs.length
  | _, _, .nil => rfl
  | _, _, .cons _ _ q => by rw [List.length_cons, List.length_cons, AreM.len q]
theorem AreM.at : ∀ {vs : List Value} {xs : List κ}, AreM M vs xs → ∀ (i : Nat) (v : Value), vs[i]? = some v → ∃ x t, xs[i]? = some x ∧ v = M.vl x t
  | _, _, .nil, i, v, h => by simp at h
  | _, _, .cons x t q, 0, v, h => by
    simp at h
    exact ⟨x, t, rfl, h.symm⟩
  | _, _, .cons x t q, i + 1, v, h => by
    obtain ⟨y, u, h1, h2⟩ := AreM.at q i v (by simpa using h)
    exact ⟨y, u, by simpa using h1, h2⟩
theorem areM_strs : ∀ {vs : List Value} {xs : List Str}, StrsAre vs xs → AreM (memS P w) vs xs
  | _, _, .nil => .nil
  | _, _, .cons x t q => .cons (M := memS P w) x t (areM_strs q)
theorem areM_ints : ∀ {vs : List Value} {xs : List Int}, IntsAre vs xs → AreM (memI P w) vs xs
  | _, _, .nil => .nil
  | _, _, .cons x t q => .cons (M := memI P w) x t (areM_ints q)
theorem freshM {h : Heap} {a : Addr} {xs : List κ} (ho : h.get? a = some (newSet w)) : SetM M h a (fun y => decide (y ∈ xs.take 0)) 0 := by
  refine ⟨_, #[], 0, _, ho, ⟨rfl, rfl, rfl⟩, rfl, (fun e he => by simp at he), by simp, (fun k => by simp), by decide, rfl, rfl, List.Pairwise.nil, ?_⟩
  show _ ∨ (!w.params.followText "set-order") = true
  cases w.params.followText "set-order"
  · exact .inr rfl
  · exact .inl rfl
variable {A : Around} {E : Value → Shared → Prop} {s : Shared}
theorem loopM {I : Addr} {fp wr : List Addr} {G : Array GenState → Array GenState → Prop} {n : Nat} {Pv : Nat → Value → Prop} {St : Nat → Shared → Prop} {R : Result → Shared → Prop}
    (W : WalksS P w A.in1 I fp wr G n Pv St) (a : Addr) (na : a ∉ fp) (xs : List κ) (hn : n = xs.length) (few : xs.length + 1 < scanBound) (val : ∀ i v, Pv i v → ∃ x t, xs[i]? = some x ∧ v = M.vl x t) :
    ∀ (k i : Nat) (s : Shared), n - i = k → i ≤ n → St i s → (∃ c, c ≤ i ∧ SetM M s.heap a (fun y => decide (y ∈ xs.take i)) c) →
      (∀ s' c, Moved (a :: wr) G s s' → c ≤ n → SetM M s'.heap a (fun y => decide (y ∈ xs)) c → R (.ok (.ret .none)) s') →
      codeAny (model P w) A (.builtin "set.update.loop" ⟨[.ref a, .ref I], []⟩) R s := by
  have nw : a ∉ wr := fun h => na (W.sub _ h)
  have sb : ∀ b ∈ wr, b ∈ a :: wr := fun b hb => List.mem_cons_of_mem _ hb
  intro k
  induction k with
  | zero =>
    intro i s hk hi st ⟨c, hc, S0⟩ fin
    have ein : i = n := by omega
    subst ein
    refine codeAny_builtin F.entry_set_update_loop ?_
    rw [Around.under_plainId F.plain_set_update_loop _]
    show wpAny _ A.in1 (pyNext (.ref I) >>= _) _ _ s
    refine wpAny_bind (W.done s _ _ st fun s' mv => ?_)
    show wpAny _ A.in1 (ret Value.none) _ _ s'
    rw [List.take_of_length_le (by omega : xs.length ≤ i)] at S0
    exact wpAny_pure (fin s' c (mv.mono sb) hc (S0.stays fun o e => mv.heap a o nw e))
  | succ k ih =>
    intro i s hk hi st ⟨c, hc, S0⟩ fin
    have lt : i < n := by omega
    refine codeAny_builtin F.entry_set_update_loop ?_
    rw [Around.under_plainId F.plain_set_update_loop _]
    show wpAny _ A.in1 (pyNext (.ref I) >>= _) _ _ s
    refine wpAny_bind (W.item i s _ _ lt st fun v s' vP st' mv => ?_)
    obtain ⟨x, t, hx, rfl⟩ := val i v vP
    have S1 : SetM M s'.heap a (fun y => decide (y ∈ xs.take i)) c := S0.stays fun o e => mv.heap a o nw e
    show wpAny _ A.in1 (holding [M.vl x t] (setAdd a (M.vl x t)) >>= _) _ _ s'
    refine wpAny_bind (wpAny_holding ?_)
    unfold setAdd
    refine wpAny_holding ?_
    refine wpAny_bind (M.k.pyHash (k := x) (M.is_vl _ _) ?_)
    refine addM (s := { s' with toks := s'.toks + 1 }) S1 (by omega) fun h' hsb S2 => ?_
    have S3 : SetM M h' a (fun y => decide (y ∈ xs.take (i + 1))) (if decide (x ∈ xs.take i) = true then c else c + 1) := S2.same fun y => by
      rw [List.take_add_one, hx]
      simp [List.mem_append]
    have c3 : (if decide (x ∈ xs.take i) = true then c else c + 1) ≤ i + 1 := by
      split <;> omega
    refine wpAny_pure ⟨plainId_quiet F.plain_set_update_loop _, ih (i + 1) _ (by omega) lt (W.frame _ s' _ _ st' (Nat.le_succ _) fun b hb o e => ?_) ⟨_, c3, S3⟩ fun s'' c2 mv2 hc2 S4 => ?_⟩
    · rw [hsb.2 b (fun z : b = a => na (by rw [← z]; exact hb))]
      exact e
    · refine fin s'' c2 (Moved.trans W.gtrans ((mv.mono sb).then_heap (Nat.le_succ _) fun b o hb e => ?_) mv2) hc2 S4
      rw [hsb.2 b (fun z : b = a => hb (by rw [z]; exact List.mem_cons_self))]
      exact e

set_option maxHeartbeats 3200000 in
theorem setOf_list {l : Addr} {its : Array Value} {xs : List κ} {Q : Value → Shared → Prop} (calm : A.handled = none) (lq : s.heap.IsList l its) (lx : AreM M its.toList xs) (few : xs.length + 1 < scanBound)
    (fin : ∀ (h' : Heap) (tk c : Nat), SetM M h' s.heap.objs.size (fun y => decide (y ∈ xs)) c → c ≤ xs.length → (∀ b o, s.heap.get? b = some o → h'.get? b = some o) → Q (.ref s.heap.objs.size) { s with heap := h', toks := tk }) :
    wpAny (model P w) A (call (.type "set") [.ref l]) Q E s := by
  have isz : its.size = xs.length := by rw [← Array.length_toList]; exact lx.len
  obtain ⟨c0, tl0, mro0⟩ := F.called_set.mro
  have z1 := F.called_set.made
  have z2 := F.called_set.sub
  refine wpAny_call (codeAny_of_tree ?_)
  show wpAny _ _ (callAny (.type "set") _) _ _ _
  refine wpAny_pure ⟨Code.quiet_builtin _ (by decide +kernel), codeAny_builtin F.entry_type_call ?_⟩
  rw [Around.under_plain (weight_type_call_type "set" [.ref l] []) rfl]
  have z3 := F.called_set.notType
  have z4 := F.called_set.canCreate
  have z5 := F.typeCall_set_1 (.ref l)
  repeat (any_goals (first | assumption | wp_step))
  refine codeAny_mono (code_set_led1 (.ref l) (E := E) (Q₁ := fun ob s₁ => ob = .ref s.heap.objs.size ∧ s₁ = { s with heap := s.heap.push (newSet w) }) ⟨rfl, rfl⟩) fun r s₁ rr => ?_
  cases r with
  | error e => exact rr
  | ok fl =>
  cases fl with
  | ret ob =>
    obtain ⟨rfl, rfl⟩ := rr
    have nS : (s.heap.push (newSet w)).get? s.heap.objs.size = some (newSet w) := Heap.get?_push_size _ rfl
    have nT : Shared.TypeIs { s with heap := s.heap.push (newSet w) } (.ref s.heap.objs.size) "set" := ⟨_, nS, rfl⟩
    have z6 := F.called_set.init.lookup
    have z7 := F.called_set.init.bind (.ref s.heap.objs.size)
    repeat (any_goals (first | assumption | wp_step))
    refine codeAny_mono (codeAny_call_builtin (R := wants (fun r s₂ => r = .none ∧ ∃ h' tk c, s₂ = { s with heap := h', toks := tk } ∧ SetM M h' s.heap.objs.size (fun y => decide (y ∈ xs)) c ∧ c ≤ xs.length ∧ (∀ b o, s.heap.get? b = some o → h'.get? b = some o)) E) F.called_set.init.plain F.entry_set_init (check_set_init_1 nT ?_)) fun r₂ s₂ rr₂ => ?_
    · obtain ⟨lo, lo1, lo2, lo3, lo4⟩ := lq
      obtain ⟨lc, ldi, lda, lsl⟩ := lo
      simp only at lo2 lo4
      subst lo2
      subst lo4
      have lo1' : (s.heap.push (newSet w)).get? l = some { cls := .type "list", dict := ldi, data := .seq its lo3, slots := lsl } := Heap.get?_push_of_some _ lo1
      have y1 := F.sub_list_set
      have y2 := F.sub_list_frozenset
      have y3 : (Value.type "list" == Value.type "dict") = false := by decide
      have lq1 : (s.heap.push (newSet w)).IsList l its := ⟨_, lo1', rfl, lo3, rfl⟩
      unfold Builtin.«set.__init__» noKeywords Builtin.Frozenset.updateFrom
      generalize ePI : pyIter = PI
      wp_walk
      subst ePI
      refine wpAny_pyIter_list lq1 ?_
      refine wpAny_bind (wpAny_runValue ?_)
      have ll : l < s.heap.objs.size := Heap.lt_size lo1
      have calm3 : A.in1.in1.in1.handled = none := by simp [calm]
      have neI : l ≠ (s.heap.push (newSet w)).objs.size := by
        rw [Heap.size_push]
        exact Nat.ne_of_lt (Nat.lt_succ_of_lt ll)
      have nfp : s.heap.objs.size ∉ [(s.heap.push (newSet w)).objs.size, l] := by
        rw [Heap.size_push]
        simp only [List.mem_cons, List.mem_singleton, List.not_mem_nil, or_false, not_or]
        exact ⟨Nat.ne_of_lt (Nat.lt_succ_self _), Nat.ne_of_gt ll⟩
      have val : ∀ (i : Nat) (v : Value), its[i]? = some v → ∃ x t, xs[i]? = some x ∧ v = M.vl x t := fun i v hv => lx.at i v (by rw [Array.getElem?_toList]; exact hv)
      refine loopM ((Walks.list calm3 _ l neI its).toS) s.heap.objs.size nfp xs isz few val (its.size - 0) 0 _ (by omega) (Nat.zero_le _) ⟨⟨_, Heap.get?_push_size _ rfl, rfl, rfl⟩, (lq1.push _)⟩ ?st ?en
      case st =>
        exact ⟨0, Nat.le_refl 0, freshM (Heap.get?_push_of_some _ nS)⟩
      case en =>
        intro s' c' mv cl S1
        obtain ⟨h', g2, d2, tk2, os2⟩ := s'
        have eg : g2 = s.gens := mv.gens
        have ed : d2 = s.drawn := mv.drawn
        have eo : os2 = s.os := mv.os
        subst eg
        subst ed
        subst eo
        show wpAny _ _ _ _ _ _
        refine wpAny_pure ?_
        show wpAny _ _ (ret Value.none) _ _ _
        rw [isz] at cl
        refine wpAny_pure ⟨rfl, h', tk2, c', rfl, S1, cl, fun b o e => ?_⟩
        have b0 : b < s.heap.objs.size := Heap.lt_size e
        have b1 : b ≠ s.heap.objs.size := Nat.ne_of_lt b0
        have b2 : b ≠ (s.heap.push (newSet w)).objs.size := by
          rw [Heap.size_push]
          exact Nat.ne_of_lt (Nat.lt_succ_of_lt b0)
        refine mv.heap b o ?_ (Heap.get?_push_of_some _ (Heap.get?_push_of_some _ e))
        simp only [List.mem_cons, List.mem_singleton, List.not_mem_nil, or_false, not_or]
        exact ⟨b1, b2⟩
    · cases r₂ with
      | error e => exact rr₂
      | ok fl₂ =>
      cases fl₂ with
      | ret r =>
        obtain ⟨rfl, h', tk, c', rfl, S1, cl, kp⟩ := rr₂
        repeat (any_goals (first | assumption | wp_step))
        exact fin _ _ _ S1 cl kp
      | _ => exact rr₂.elim
  | _ => exact rr.elim

set_option maxHeartbeats 3200000 in
theorem setOf_tuple {l : Addr} {its : Array Value} {xs : List κ} {Q : Value → Shared → Prop} (calm : A.handled = none) (lq : s.heap.IsTuple l its) (lx : AreM M its.toList xs) (few : xs.length + 1 < scanBound)
    (fin : ∀ (h' : Heap) (tk c : Nat), SetM M h' s.heap.objs.size (fun y => decide (y ∈ xs)) c → c ≤ xs.length → (∀ b o, s.heap.get? b = some o → h'.get? b = some o) → Q (.ref s.heap.objs.size) { s with heap := h', toks := tk }) :
    wpAny (model P w) A (call (.type "set") [.ref l]) Q E s := by
  have isz : its.size = xs.length := by rw [← Array.length_toList]; exact lx.len
  obtain ⟨c0, tl0, mro0⟩ := F.called_set.mro
  have z1 := F.called_set.made
  have z2 := F.called_set.sub
  refine wpAny_call (codeAny_of_tree ?_)
  show wpAny _ _ (callAny (.type "set") _) _ _ _
  refine wpAny_pure ⟨Code.quiet_builtin _ (by decide +kernel), codeAny_builtin F.entry_type_call ?_⟩
  rw [Around.under_plain (weight_type_call_type "set" [.ref l] []) rfl]
  have z3 := F.called_set.notType
  have z4 := F.called_set.canCreate
  have z5 := F.typeCall_set_1 (.ref l)
  repeat (any_goals (first | assumption | wp_step))
  refine codeAny_mono (code_set_led1 (.ref l) (E := E) (Q₁ := fun ob s₁ => ob = .ref s.heap.objs.size ∧ s₁ = { s with heap := s.heap.push (newSet w) }) ⟨rfl, rfl⟩) fun r s₁ rr => ?_
  cases r with
  | error e => exact rr
  | ok fl =>
  cases fl with
  | ret ob =>
    obtain ⟨rfl, rfl⟩ := rr
    have nS : (s.heap.push (newSet w)).get? s.heap.objs.size = some (newSet w) := Heap.get?_push_size _ rfl
    have nT : Shared.TypeIs { s with heap := s.heap.push (newSet w) } (.ref s.heap.objs.size) "set" := ⟨_, nS, rfl⟩
    have z6 := F.called_set.init.lookup
    have z7 := F.called_set.init.bind (.ref s.heap.objs.size)
    repeat (any_goals (first | assumption | wp_step))
    refine codeAny_mono (codeAny_call_builtin (R := wants (fun r s₂ => r = .none ∧ ∃ h' tk c, s₂ = { s with heap := h', toks := tk } ∧ SetM M h' s.heap.objs.size (fun y => decide (y ∈ xs)) c ∧ c ≤ xs.length ∧ (∀ b o, s.heap.get? b = some o → h'.get? b = some o)) E) F.called_set.init.plain F.entry_set_init (check_set_init_1 nT ?_)) fun r₂ s₂ rr₂ => ?_
    · obtain ⟨lo, lo1, lo2, lo3, lo4⟩ := lq
      obtain ⟨lc, ldi, lda, lsl⟩ := lo
      simp only at lo2 lo4
      subst lo2
      subst lo4
      have lo1' : (s.heap.push (newSet w)).get? l = some { cls := .type "tuple", dict := ldi, data := .seq its lo3, slots := lsl } := Heap.get?_push_of_some _ lo1
      have y1 := F.sub_tuple_set
      have y2 := F.sub_tuple_frozenset
      have y3 : (Value.type "tuple" == Value.type "dict") = false := by decide
      have lq1 : (s.heap.push (newSet w)).IsTuple l its := ⟨_, lo1', rfl, lo3, rfl⟩
      unfold Builtin.«set.__init__» noKeywords Builtin.Frozenset.updateFrom
      generalize ePI : pyIter = PI
      wp_walk
      subst ePI
      refine wpAny_pyIter_tuple lq1 ?_
      refine wpAny_bind (wpAny_runValue ?_)
      have ll : l < s.heap.objs.size := Heap.lt_size lo1
      have calm3 : A.in1.in1.in1.handled = none := by simp [calm]
      have neI : l ≠ (s.heap.push (newSet w)).objs.size := by
        rw [Heap.size_push]
        exact Nat.ne_of_lt (Nat.lt_succ_of_lt ll)
      have nfp : s.heap.objs.size ∉ [(s.heap.push (newSet w)).objs.size, l] := by
        rw [Heap.size_push]
        simp only [List.mem_cons, List.mem_singleton, List.not_mem_nil, or_false, not_or]
        exact ⟨Nat.ne_of_lt (Nat.lt_succ_self _), Nat.ne_of_gt ll⟩
      have val : ∀ (i : Nat) (v : Value), its[i]? = some v → ∃ x t, xs[i]? = some x ∧ v = M.vl x t := fun i v hv => lx.at i v (by rw [Array.getElem?_toList]; exact hv)
      refine loopM ((Walks.tuple calm3 _ l neI its).toS) s.heap.objs.size nfp xs isz few val (its.size - 0) 0 _ (by omega) (Nat.zero_le _) ⟨⟨_, Heap.get?_push_size _ rfl, rfl, rfl⟩, (lq1.push _)⟩ ?st ?en
      case st =>
        exact ⟨0, Nat.le_refl 0, freshM (Heap.get?_push_of_some _ nS)⟩
      case en =>
        intro s' c' mv cl S1
        obtain ⟨h', g2, d2, tk2, os2⟩ := s'
        have eg : g2 = s.gens := mv.gens
        have ed : d2 = s.drawn := mv.drawn
        have eo : os2 = s.os := mv.os
        subst eg
        subst ed
        subst eo
        show wpAny _ _ _ _ _ _
        refine wpAny_pure ?_
        show wpAny _ _ (ret Value.none) _ _ _
        rw [isz] at cl
        refine wpAny_pure ⟨rfl, h', tk2, c', rfl, S1, cl, fun b o e => ?_⟩
        have b0 : b < s.heap.objs.size := Heap.lt_size e
        have b1 : b ≠ s.heap.objs.size := Nat.ne_of_lt b0
        have b2 : b ≠ (s.heap.push (newSet w)).objs.size := by
          rw [Heap.size_push]
          exact Nat.ne_of_lt (Nat.lt_succ_of_lt b0)
        refine mv.heap b o ?_ (Heap.get?_push_of_some _ (Heap.get?_push_of_some _ e))
        simp only [List.mem_cons, List.mem_singleton, List.not_mem_nil, or_false, not_or]
        exact ⟨b1, b2⟩
    · cases r₂ with
      | error e => exact rr₂
      | ok fl₂ =>
      cases fl₂ with
      | ret r =>
        obtain ⟨rfl, h', tk, c', rfl, S1, cl, kp⟩ := rr₂
        repeat (any_goals (first | assumption | wp_step))
        exact fin _ _ _ S1 cl kp
      | _ => exact rr₂.elim
  | _ => exact rr.elim

end
end Sg
/-! Rules of my own over the hand layer: ** of wide ints, text * int, repr of data, calls by keywords alone, and defs that need an empty list of guards. -/
namespace Bl
open PySem PySem.Spec PyProof.Rows L2

section
variable {X : Cx}
/-- ** of an int below 2 ^ 1000 by a small one -/
def CPowW (i j : Int) : Prop := (0 ≤ j ∧ j ≤ 1000) ∧ i.natAbs < 2 ^ 1000
theorem bits_pow {i j : Int} (h : CPowW i j) : (Builtin.Int.intBits i : Int) * j ≤ 2 ^ 27 := by
  obtain ⟨⟨h0, h1⟩, h2⟩ := h
  have hb : Builtin.Int.intBits i ≤ 1000 := by
    have e := PySem.Flt.log2_lt_of (n := i.natAbs) (k := 1000) (by decide) h2
    unfold Builtin.Int.intBits
    split <;> omega
  have q : (Builtin.Int.intBits i : Int) * j ≤ 1000 * j := Int.mul_le_mul_of_nonneg_right (by omega) h0
  omega
theorem op_powW : OpR X (binaryOp .Pow) (rI CPowW fun i j => .int (i ^ j.toNat)) :=
  opI fun _ _ _ _ _ _ _ hc q => pow_int hc.1.1 (bits_pow hc) q

/-- text * int -/
def rMulS : R2 := fun x y H Q => ∃ (z : Str) (n : Int), x = .str z ∧ y = .int n ∧ 0 ≤ n ∧ n ≤ 16777216 ∧ z.length * n.toNat ≤ sizeLine ∧ Q (.str (Txt.mul z n)) H
theorem mulOk_of {z : Str} {n : Int} (h0 : 0 ≤ n) (h1 : n ≤ 16777216) (hz : z.length * n.toNat ≤ sizeLine) : MulOk z n := by
  have hs : sizeLine = 16777216 := sizeLine_eq
  refine ⟨?_, fun a b c => ?_, fun a b => ?_⟩
  · rw [decide_eq_false (by omega), decide_eq_false (by omega)]
    rfl
  · have hn : 0 < n := by omega
    have hle : (z.length : Int) * n ≤ 16777216 := by
      have e : ((z.length * n.toNat : Nat) : Int) = (z.length : Int) * n := by
        rw [Int.natCast_mul, Int.toNat_of_nonneg h0]
      omega
    have hq : (z.length : Int) ≤ (2 ^ 63 - 1) / n := (Int.le_ediv_iff_mul_le hn).mpr (by omega)
    omega
  · unfold Builtin.Str.tooLong
    exact decide_eq_false (by omega)
theorem op_mulS : OpR X (binaryOp .Mult) rMulS := by
  intro pins s σ H x y v u Q I rx ry h
  obtain ⟨z, n, rfl, rfl, h0, h1, hz, q⟩ := h
  obtain ⟨t, rfl⟩ := rx
  obtain ⟨t', rfl⟩ := ry
  exact SB.mul (mulOk_of h0 h1 hz) fun t1 k => ⟨.str (Txt.mul z n), H, I.tok k, ⟨_, rfl⟩, q⟩

/-- repr of data -/
def rRepr (K : PySem.W.Frag) : List V → Hp → VK → Prop := fun xs H Q => ∃ (a : Addr) (d : PyData), xs = [.ref a] ∧ Dp K H (.ref a) d ∧ d.showable = true ∧ d.hasDict = false ∧ d.depth ≤ 40 ∧ d.shown.length ≤ sizeLine ∧ Q (.str d.shown) H
theorem call_repr (hg : X.A.guards = some []) (hu : X.A.units + 64 < cLine) : CallR X (.builtin "repr") (rRepr X.K) := by
  intro pins s σ H xs us Q I r h
  obtain ⟨a, d, rfl, hd, hs, hn, hdp, hz, q⟩ := h
  obtain ⟨u, rfl, ru⟩ := vals1 r
  obtain ⟨as, rd⟩ := Dp.reads I d (.ref a) u hd ru
  cases ru
  refine repr_of_reads' rd hs (PyData.noDict_hsm hn) hg (by omega) (fun _ _ z => z) (fun h' w tk k => ?_) hz
  exact ⟨.str d.shown, H, I.kept (t' := tk) k, ⟨_, rfl⟩, q⟩
end

/-! ### f(k = v, ..) without positional arguments -/
section
variable {X : Cx} {CX : CXT} {k : Nat} {f : Addr} {fd : FuncData} {ps ks : List Str} {sp : Sp} {E : XK} {x : Str} {p pos : Pos} {kws : List Keyword} {tk : TA} {g : List Value → List Value → List Value} {gV : List V → List V → List V}
def tCallK0 (sp : Sp) (gV : List V → List V → List V) (E : XK) (tk : TA) : TE := fun σ H Q => tk σ H fun zs H2 => sp (gV [] zs) H2 Q E
theorem pe_callK0 (F : FnOk X.prog X.w X.K X.mg X.base CX k f fd ps sp) (hr : Room k X.A) (hgl : Gl X x) (hm : X.mg x = some (.ref f)) (hk : PySem.W.keepIn X.K (.ref f) = true) (hb : KBinds X.K fd ps ks g gV) (hx : Passes CX X E) (hkw : PK X kws tk)
    (hall : (backToKw pos (keywordEach kws X.env)).all (·.1.isSome) = true := by rfl) (hks : (backToKw pos (keywordEach kws X.env)).filterMap (·.1) = ks := by rfl) (hdb : (x == ("__debug__" : Str)) = false := by decide)
    (hpl : ((backTo pos (starEach [] X.env)).any (·.1) || (backToKw pos (keywordEach kws X.env)).any (·.1.isNone)) = false := by rfl) :
    PE X (.Call (.Name x p) [] kws pos) (tCallK0 sp gV E tk) := by
  constructor
  intro pins s σ H Q I h
  apply wpAny_Call_Name_kw
  apply ld_glob I hgl hm _ hdb
  refine PySem.W.callWith_KW0 (h₀ := X.base) I.ok.mod.kin hk hall ?_ hpl
  refine thn (hkw.run pos pins s σ H _ I h) fun ws s2 z => ?_
  obtain ⟨zs, H2, I2, rz, q2⟩ := z
  refine ⟨I2.kIn, ?_⟩
  rw [hks]
  exact run_fnk (us := []) F hr hb hx I2 .nil rz q2
end

/-! ### defs that ask that no repr is under way -/
structure FnG (P : Program) (w : World) (K : PySem.W.Frag) (mg : Str → Option Value) (base : Heap) (CX : CXT) (k : Nat) (f : Addr) (fd : FuncData) (ps : List Str) (sp : Sp) : Prop where
  lenG : ∀ vs H Q E, sp vs H Q E → vs.length = ps.length
  runG : ∀ (A : Around) (outer : List Env) (s : Shared) (H : Hp) (args : Args) (us : List Value) (vs : List V) (Q : VK) (E : XK), A.guards = some [] → Room k A → Env0 P w K mg base A outer s H →
    BindsTo s fd args (ps.zip us) → Vals vs us → sp vs H Q E → codeAny (model P w) A (.call (.ref f) args) (CR CX outer P w H s Q E) s
section
variable {X : Cx} {CX : CXT} {k : Nat} {f : Addr} {fd : FuncData} {ps : List Str} {sp : Sp} {E : XK} {x : Str} {p pos : Pos} {e : Expr} {es : List Expr} {t : TA}
theorem pe_callG (F : FnG X.prog X.w X.K X.mg X.base CX k f fd ps sp) (hgd : X.A.guards = some []) (hr : Room k X.A) (hgl : Gl X x) (hm : X.mg x = some (.ref f)) (hk : PySem.W.keepIn X.K (.ref f) = true) (hb : Binds X.K fd ps []) (hx : Passes CX X E) (ha : PA X (e :: es) t)
    (hdb : (x == ("__debug__" : Str)) = false := by decide) (he : starEach (e :: es) X.env = (false, eval e X.env) :: starEach es X.env := by rfl) (hpl : (backTo pos (starEach es X.env)).any (·.1) = false := by rfl) :
    PE X (.Call (.Name x p) (e :: es) [] pos) (tCall sp [] E t) := by
  constructor
  intro pins s σ H Q I h
  apply wpAny_Call_Name_kw
  apply ld_glob I hgl hm _ hdb
  refine PySem.W.callWith_K (h₀ := X.base) I.ok.mod.kin hk ?_ he hpl
  refine thn (ha.run pos pins s σ H _ I h) fun us s1 z => ?_
  obtain ⟨vs, H1, I1, r, q⟩ := z
  refine ⟨I1.kIn, ?_⟩
  rw [List.append_nil] at q
  have hl : (us ++ []).length = ps.length := by
    rw [List.append_nil, ← r.length]
    exact F.lenG _ _ _ _ q
  have hbt := hb s1 us I1.kIn hl
  rw [List.append_nil] at hbt
  refine wpAny_call (codeAny_mono (F.runG X.A X.stack s1 H1 ⟨us, []⟩ us vs Q E hgd hr I1.env0 hbt r q) ?_)
  intro res s2 hq
  match res, hq with
  | .error ex, hq => exact hx pins σ H1 s1 ex s2 I1 hq
  | .ok (.ret v), hq => exact I1.after hq
  | .ok .next, hq => exact False.elim hq
  | .ok .brk, hq => exact False.elim hq
  | .ok .cont, hq => exact False.elim hq
end
section
variable {P : Program} {w : World} {K : PySem.W.Frag} {mg : Str → Option Value} {base : Heap}
/-- a def's promise by its body, the guards known to be none -/
theorem okG {x qual : Str} {st : Stmt} {f : Addr} {fd : FuncData} {N ps : List Str} {k : Nat} {sp : Sp} (F : Fun K x qual st f fd) (S : FnScope N ps (defScope st)) (len : ∀ vs H Q E, sp vs H Q E → vs.length = ps.length)
    (hbody : ∀ (cdv : Value) (A : Around) (outer : List Env) (s : Shared) (H : Hp) (vs : List V) (Q : VK) (E : XK), A.guards = some [] → Room k (A.deeper (envOfC qual (defScope st) s.heap.objs.size f cdv)) → sp vs H Q E →
      ∃ t, PSs (cxOf CX0 P w K mg base N qual (defScope st) f cdv A outer s H E).nox (defBody st) t ∧ t { nx := fun _ H' => Q .non H', rt := Q } (start N vs) H) : FnG P w K mg base CX0 (k + 1) f fd ps sp := by
  obtain ⟨oc, od, kV, doc, pm, an, cdv, ct, osl, rfl, lk, hcd⟩ := F.ex
  constructor
  · exact len
  intro A outer s H args us vs Q E hgd hr e0 hb r hsp
  have hlen := len _ _ _ _ hsp
  have KX : K.In s.heap := e0.mod.kin.keeps fun b o z => (e0.bs b o z).1
  have nolim : s.heap.NoLimit := e0.mod.nolimit.keeps fun b o z => (e0.bs b o z).1
  have kinds : ∀ y ∈ ps.zip us, (defScope st).names.lookup y.1 = some .local ∨ ((defScope st).names.lookup y.1 = some .cell ∧ ((cellsFrom (s.heap.objs.size + 1) (defScope st).names []).lookup y.1).isSome = true) := by
    intro y hy
    cases S.par y.1 (List.of_mem_zip hy).1 with
    | inl z => exact Or.inl z
    | inr z => exact Or.inr ⟨z, PySem.W.cellsFrom_some _ _ _ (Or.inl z)⟩
  apply codeAny_call_function hr.depth (KX _ _ lk) rfl S.co S.gen rfl (PySem.W.codeRec_of KX hcd)
  apply hb
  apply wpAny_newFunctionEnv_cells S.kind kinds
  intro env henv s1 inC
  subst henv
  refine ⟨nolim.keeps inC.toInCall.keep, ?_⟩
  apply codeAny_func
  obtain ⟨t, ht, hq⟩ := hbody cdv A outer s H vs Q E hgd (hr.deeper _) hsp
  have I := inv_start (CX := CX0) (E := E) S hr.hd e0 hlen r inC
  refine wpAny_mono (ht.nox.run [] s1 (start N vs) H _ I hq) ?_ (fun _ _ z => z)
  intro fl s2 hs
  match fl, hs with
  | .ret u, ⟨v, σ2, H2, J, rv, q⟩ => exact ⟨v, H2, J.os, J.bare, J.base, J.hok, rv, q⟩
  | .next, ⟨σ2, H2, J, q⟩ => exact ⟨V.non, H2, J.os, J.bare, J.base, J.hok, rfl, q⟩
  | .brk, ⟨_, _, _, q⟩ => exact False.elim q
  | .cont, ⟨_, _, _, q⟩ => exact False.elim q
end
end Bl
/-! Texts of letters, their common beginnings and what is left behind them. -/
namespace Bl
open PySem PySem.Spec PyProof.Rows L2 TL

/-- letters a to z -/
def Lets (x : Str) : Prop := ∀ c ∈ tl x, 97 ≤ c ∧ c ≤ 122
theorem Lets.app {x y : Str} (h : Lets x) (k : Lets y) : Lets (x ++ y) := fun c hc => by
  rw [tl_append] at hc
  rcases List.mem_append.mp hc with z | z
  · exact h c z
  · exact k c z
theorem Lets.nil : Lets ("" : Str) := fun c hc => by
  have e : tl ("" : Str) = [] := rfl
  rw [e] at hc
  cases hc
def lcp : List Nat → List Nat → Nat
  | a :: r, b :: s => if a = b then lcp r s + 1 else 0
  | _, _ => 0
theorem lcp_nil (l : List Nat) : lcp l [] = 0 := by cases l <;> rfl
theorem lcp_nil' (l : List Nat) : lcp [] l = 0 := by cases l <;> rfl
theorem lcp_cons (a b : Nat) (r s : List Nat) : lcp (a :: r) (b :: s) = if a = b then lcp r s + 1 else 0 := rfl
theorem lcp_comm : ∀ l m : List Nat, lcp l m = lcp m l
  | [], m => by rw [lcp_nil, lcp_nil']
  | a :: r, [] => by rw [lcp_nil, lcp_nil']
  | a :: r, b :: s => by
    rw [lcp_cons, lcp_cons, lcp_comm r s]
    by_cases e : a = b
    · rw [if_pos e, if_pos e.symm]
    · rw [if_neg e, if_neg (Ne.symm e)]
theorem lcp_le : ∀ l m : List Nat, lcp l m ≤ l.length ∧ lcp l m ≤ m.length
  | [], m => by rw [lcp_nil']; exact ⟨Nat.zero_le _, Nat.zero_le _⟩
  | a :: r, [] => by rw [lcp_nil]; exact ⟨Nat.zero_le _, Nat.zero_le _⟩
  | a :: r, b :: s => by
    have ih := lcp_le r s
    rw [lcp_cons, List.length_cons, List.length_cons]
    by_cases e : a = b
    · rw [if_pos e]; omega
    · rw [if_neg e]; omega
theorem lcp_app : ∀ p l m : List Nat, lcp (p ++ l) (p ++ m) = p.length + lcp l m
  | [], l, m => by simp
  | a :: p, l, m => by
    show lcp (a :: (p ++ l)) (a :: (p ++ m)) = _
    rw [lcp_cons, if_pos rfl, lcp_app p l m, List.length_cons]
    omega
theorem lcp_drop : ∀ l m : List Nat, lcp (l.drop (lcp l m)) (m.drop (lcp l m)) = 0
  | [], m => by rw [lcp_nil']; simp [lcp_nil']
  | a :: r, [] => by rw [lcp_nil]; simp [lcp_nil]
  | a :: r, b :: s => by
    by_cases e : a = b
    · subst e
      rw [lcp_cons, if_pos rfl, List.drop_succ_cons, List.drop_succ_cons]
      exact lcp_drop r s
    · have h : lcp (a :: r) (b :: s) = 0 := by rw [lcp_cons, if_neg e]
      rw [h, List.drop_zero, List.drop_zero, h]
/-- a common beginning of k letters -/
theorem lcp_take : ∀ (k : Nat) (l m : List Nat), k ≤ l.length → k ≤ m.length → (l.take k = m.take k ↔ k ≤ lcp l m)
  | 0, l, m, _, _ => by simp
  | k + 1, [], m, h, _ => by simp at h
  | k + 1, a :: r, [], _, h => by simp at h
  | k + 1, a :: r, b :: s, h, h' => by
    have ih := lcp_take k r s (by simpa using h) (by simpa using h')
    rw [lcp_cons, List.take_succ_cons, List.take_succ_cons, List.cons.injEq]
    by_cases e : a = b
    · rw [if_pos e, ih]
      omega
    · rw [if_neg e]
      constructor
      · rintro ⟨z, _⟩
        exact absurd z e
      · omega
/-- the letter at the common beginning's end -/
theorem lcp_at : ∀ (l m : List Nat) (k : Nat), k ≤ lcp l m → k < l.length → k < m.length → (l[k]? = m[k]? ↔ k < lcp l m)
  | [], m, k, _, h, _ => by simp at h
  | a :: r, [], k, _, _, h => by simp at h
  | a :: r, b :: s, 0, _, _, _ => by
    rw [lcp_cons]
    by_cases e : a = b
    · simp [e]
    · simp [e]
  | a :: r, b :: s, k + 1, h, h1, h2 => by
    rw [lcp_cons] at h ⊢
    by_cases e : a = b
    · rw [if_pos e] at h ⊢
      have ih := lcp_at r s k (by omega) (by simpa using h1) (by simpa using h2)
      simp only [List.getElem?_cons_succ]
      rw [ih]
      omega
    · rw [if_neg e] at h
      omega

def dropS (x : Str) (n : Nat) : Str := ⟨((tl x).drop n).toArray⟩
def takeS (x : Str) (n : Nat) : Str := ⟨((tl x).take n).toArray⟩
theorem tl_dropS (x : Str) (n : Nat) : tl (dropS x n) = (tl x).drop n := rfl
theorem tl_takeS (x : Str) (n : Nat) : tl (takeS x n) = (tl x).take n := rfl
theorem cut_from (x : Str) (n : Nat) : cutS x (some (n : Int)) none = dropS x n := by
  apply ext_tl
  show (((tl x).drop (HT.sIx x.length 0 (some (n : Int)))).take (x.length - HT.sIx x.length 0 (some (n : Int)))) = (tl x).drop n
  have hl := len_tl x
  rw [HT.sIx_nat]
  by_cases h : n ≤ x.length
  · rw [Nat.min_eq_left h]
    exact List.take_of_length_le (by rw [List.length_drop]; omega)
  · rw [Nat.min_eq_right (by omega), List.drop_of_length_le (l := tl x) (i := n) (by omega), List.drop_of_length_le (by omega)]
    simp
theorem cut_to (x : Str) (n : Nat) : cutS x none (some (n : Int)) = takeS x n := by
  apply ext_tl
  show (((tl x).drop 0).take (HT.sIx x.length x.length (some (n : Int)) - 0)) = (tl x).take n
  have hl := len_tl x
  rw [HT.sIx_nat, List.drop_zero, Nat.sub_zero]
  by_cases h : n ≤ x.length
  · rw [Nat.min_eq_left h]
  · rw [Nat.min_eq_right (by omega), List.take_of_length_le (by omega), List.take_of_length_le (by omega)]
/-- what is left of both behind the common beginning -/
def common (x y : Str) : Nat := lcp (tl x) (tl y)
def restL (x y : Str) : Str := dropS x (common x y)
def restR (x y : Str) : Str := dropS y (common x y)
theorem rest_swap (x y : Str) : restL y x = restR x y ∧ restR y x = restL x y := by
  unfold restL restR common
  rw [lcp_comm (tl y) (tl x)]
  exact ⟨rfl, rfl⟩
theorem rest_app (b x y : Str) : restL (b ++ x) (b ++ y) = restL x y ∧ restR (b ++ x) (b ++ y) = restR x y := by
  have e : common (b ++ x) (b ++ y) = (tl b).length + common x y := by
    unfold common
    rw [tl_append, tl_append, lcp_app]
  refine ⟨ext_tl ?_, ext_tl ?_⟩
  · show (tl (b ++ x)).drop (common (b ++ x) (b ++ y)) = (tl x).drop (common x y)
    rw [e, tl_append, ← List.drop_drop, List.drop_left]
  · show (tl (b ++ y)).drop (common (b ++ x) (b ++ y)) = (tl y).drop (common x y)
    rw [e, tl_append, ← List.drop_drop, List.drop_left]
theorem dropS_zero (x : Str) : dropS x 0 = x := ext_tl rfl
theorem rest_again (x y : Str) : restL (restL x y) (restR x y) = restL x y ∧ restR (restL x y) (restR x y) = restR x y := by
  have e : common (restL x y) (restR x y) = 0 := lcp_drop (tl x) (tl y)
  have e1 : restL (restL x y) (restR x y) = dropS (restL x y) (common (restL x y) (restR x y)) := rfl
  have e2 : restR (restL x y) (restR x y) = dropS (restR x y) (common (restL x y) (restR x y)) := rfl
  rw [e1, e2, e, dropS_zero, dropS_zero]
  exact ⟨rfl, rfl⟩
theorem rest_front (f m : Str) : restL f (f ++ m) = ("" : Str) ∧ restR f (f ++ m) = m := by
  have e : common f (f ++ m) = (tl f).length := by
    unfold common
    have h := lcp_app (tl f) [] (tl m)
    rw [List.append_nil, lcp_nil', Nat.add_zero, ← tl_append] at h
    exact h
  refine ⟨ext_tl ?_, ext_tl ?_⟩
  · show (tl f).drop (common f (f ++ m)) = []
    rw [e]
    exact List.drop_length
  · show (tl (f ++ m)).drop (common f (f ++ m)) = tl m
    rw [e, tl_append, List.drop_left]
theorem lets_drop {x : Str} (h : Lets x) (n : Nat) : Lets (dropS x n) := fun c hc => h c (List.mem_of_mem_drop hc)
theorem len_app (x y : Str) : (x ++ y).length = x.length + y.length := by
  rw [len_tl, tl_append, List.length_append, ← len_tl, ← len_tl]
theorem len_drop (x : Str) (n : Nat) : (dropS x n).length ≤ x.length := by
  rw [len_tl, tl_dropS, List.length_drop, ← len_tl]
  omega
theorem common_le (x y : Str) : common x y ≤ x.length ∧ common x y ≤ y.length := by
  rw [len_tl x, len_tl y]
  exact lcp_le _ _
/-! ### text * int -/
theorem tl_mul (x : Str) (n : Nat) : tl (Txt.mul x (n : Int)) = (List.replicate n (tl x)).flatten := by
  have fold : ∀ (k : Nat) (acc : Array Nat), (List.foldl (fun x1 x2 => x1 ++ x2) acc (List.replicate k x.cps)).toList = acc.toList ++ (List.replicate k (tl x)).flatten := by
    intro k
    induction k with
    | zero => intro acc; simp
    | succ k ih =>
      intro acc
      rw [List.replicate_succ, List.foldl_cons, ih, List.replicate_succ, List.flatten_cons, Array.toList_append, List.append_assoc]
  unfold Txt.mul
  by_cases h : (n : Int) < 1
  · have hn : n = 0 := by omega
    rw [if_pos h, hn]
    rfl
  · rw [if_neg h]
    by_cases c : ((n : Int) == 1 || x.length == 0) = true
    · rw [if_pos c]
      rcases Bool.or_eq_true _ _ ▸ c with z | z
      · have hn : n = 1 := by
          have := beq_iff_eq.mp z
          omega
        rw [hn]
        simp
      · have hx : tl x = [] := List.eq_nil_of_length_eq_zero (by rw [← len_tl]; exact beq_iff_eq.mp z)
        rw [hx]
        clear fold h c
        induction n with
        | zero => rfl
        | succ n ih => rw [List.replicate_succ, List.flatten_cons, ← ih]; rfl
    · rw [if_neg c]
      show (List.foldl (fun x1 x2 => x1 ++ x2) #[] (List.replicate (n : Int).toNat x.cps)).toList = _
      rw [Int.toNat_natCast, fold]
      simp
theorem len_mul (x : Str) (n : Nat) : (Txt.mul x (n : Int)).length = n * x.length := by
  rw [len_tl, tl_mul, List.length_flatten, List.map_replicate, List.sum_replicate_nat, ← len_tl]
theorem lets_mul {x : Str} (h : Lets x) (n : Nat) : Lets (Txt.mul x (n : Int)) := fun c hc => by
  rw [tl_mul, List.mem_flatten] at hc
  obtain ⟨l, hl, hc⟩ := hc
  rw [(List.mem_replicate.mp hl).2] at hc
  exact h c hc
/-! ### what isalpha, islower and isascii say of letters -/
theorem uni_tab : ∀ k < 26, (Unicode.isAlpha (97 + k) && Unicode.isLower (97 + k) && !(Unicode.isUpper (97 + k) || Unicode.isTitle (97 + k))) = true := by decide +kernel
theorem uni_of {c : Nat} (h : 97 ≤ c ∧ c ≤ 122) : Unicode.isAlpha c = true ∧ Unicode.isLower c = true ∧ (Unicode.isUpper c || Unicode.isTitle c) = false := by
  have e := uni_tab (c - 97) (by omega)
  rw [show 97 + (c - 97) = c by omega, Bool.and_eq_true, Bool.and_eq_true] at e
  refine ⟨e.1.1, e.1.2, ?_⟩
  have := e.2
  revert this
  cases (Unicode.isUpper c || Unicode.isTitle c) <;> simp
theorem word_tests {x : Str} (h : Lets x) : Txt.isascii x = true ∧ (x.length ≠ 0 → Txt.isalpha x = true ∧ Txt.islower x = true) := by
  have all : ∀ c ∈ x.cps.toList, 97 ≤ c ∧ c ≤ 122 := h
  refine ⟨?_, fun hx => ⟨?_, ?_⟩⟩
  · unfold Txt.isascii
    rw [← Array.all_toList, List.all_eq_true]
    intro c hc
    have := all c hc
    exact decide_eq_true (by omega)
  · unfold Txt.isalpha
    rw [Bool.and_eq_true]
    refine ⟨decide_eq_true (by omega), ?_⟩
    rw [← Array.all_toList, List.all_eq_true]
    intro c hc
    exact (uni_of (all c hc)).1
  · unfold Txt.islower
    rw [Bool.and_eq_true]
    constructor
    · rw [← Array.any_toList, List.any_eq_true]
      have hl := len_tl x
      cases e : tl x with
      | nil => rw [e] at hl; exact absurd hl hx
      | cons c r =>
        have hc : c ∈ x.cps.toList := by
          show c ∈ tl x
          rw [e]
          exact List.mem_cons_self
        exact ⟨c, hc, (uni_of (all c hc)).2.1⟩
    · rw [Bool.not_eq_true', ← Array.any_toList, List.any_eq_false]
      intro c hc
      rw [(uni_of (all c hc)).2.2]
      decide
/-! ### how long a repr may come -/
theorem lets_small {x : Str} (h : Lets x) : ∀ c ∈ x.cps.toList, c < 16 ^ 8 := fun c hc => by
  have := h c hc
  have e : (16 : Nat) ^ 8 = 4294967296 := by decide
  omega
theorem repr_len {x : Str} (h : Lets x) : (reprText x).length ≤ 10 * x.length + 2 := StrLaws.reprText_len x (lets_small h)
end Bl
/-! Data with tuples and an empty dict, what it is for isinstance, its repr; further rules. -/
namespace Bl
open PySem PySem.Spec PyProof.Rows L2 TL

/-! ### data of tuples and the empty dict -/
mutual
inductive Rt (K : PySem.W.Frag) (H : Hp) : V → PyData → Prop
  | non : Rt K H .non .none
  | bl (b : Bool) : Rt K H (.bl b) (.bool b)
  | int (i : Int) : Rt K H (.int i) (.int i)
  | str (x : Str) : Rt K H (.str x) (.str x)
  | tup {a : Addr} {xs : List V} {ds : List PyData} : SqT K H a xs → RtAll K H xs ds → Rt K H (.ref a) (.tuple ds)
  | emp {a : Addr} : H a = some (.dK []) → Rt K H (.ref a) (.dict [])
inductive RtAll (K : PySem.W.Frag) (H : Hp) : List V → List PyData → Prop
  | nil : RtAll K H [] []
  | cons {v : V} {vs : List V} {d : PyData} {ds : List PyData} : Rt K H v d → RtAll K H vs ds → RtAll K H (v :: vs) (d :: ds)
end
section
variable {X : Cx} {pins : List (Addr × Obj)} {σ : L2.St} {H : Hp} {s : Shared}
mutual
theorem Rt.reads (I : Inv X pins σ H s) : ∀ (d : PyData) (v : V) (u : Value), Rt X.K H v d → RelV v u → ∃ as, Reads s.heap u d as ∧ sysModules ∉ as
  | .none, _, _, h, r => by
    cases h; cases r
    exact ⟨_, .none, List.not_mem_nil⟩
  | .bool b, _, _, h, r => by
    cases h; cases r
    exact ⟨_, .bool b, List.not_mem_nil⟩
  | .int i, _, _, h, r => by
    cases h
    obtain ⟨t, rfl⟩ := r
    exact ⟨_, .int i t, List.not_mem_nil⟩
  | .str x, _, _, h, r => by
    cases h
    obtain ⟨t, rfl⟩ := r
    exact ⟨_, .str x t, List.not_mem_nil⟩
  | .list _, _, _, h, _ => by cases h
  | .tuple ds, _, _, h, r => by
    cases h with
    | tup hq ha =>
      cases r
      have z := I.tuple hq
      obtain ⟨its, rv, q, _⟩ := z
      obtain ⟨o, ho, hc, n, hd⟩ := q
      obtain ⟨as, hr, hn⟩ := Rt.readsAll I ds _ its ha rv
      exact ⟨as, .tuple ho hc hd hr, hn⟩
  | .dict kvs, _, _, h, r => by
    cases h with
    | @emp a e =>
      cases r
      have z : ([] : List (Key × V)).length ≤ sizeLine ∧ (a == sysModules) = false ∧ ∃ vs, KV ([] : List (Key × V)) vs ∧ s.heap.DictOf (mixKind X.prog X.w) a vs := I.hok a _ e
      obtain ⟨_, hne, vs, kv, D⟩ := z
      cases kv
      obtain ⟨o, es, ep, e1, e2, e3, _, e4, _⟩ := D
      have hes : es.toList = [] := by
        cases es with
        | mk l =>
          cases l with
          | nil => rfl
          | cons x r => cases e4
      refine ⟨_, .dict (kvs := []) e1 e2.1 e3 (as := []) (bs := []) ?_ ?_, ?_⟩
      · rw [hes]
        exact .nil
      · rw [hes]
        exact .nil
      · intro hm
        have hm : sysModules = a := by simpa using hm
        rw [hm] at hne
        simp at hne
theorem Rt.readsAll (I : Inv X pins σ H s) : ∀ (ds : List PyData) (vs : List V) (us : List Value), RtAll X.K H vs ds → Vals vs us → ∃ as, ReadsAll s.heap us ds as ∧ sysModules ∉ as
  | [], _, _, h, r => by
    cases h; cases r
    exact ⟨_, .nil, List.not_mem_nil⟩
  | d :: ds, _, _, h, r => by
    cases h with
    | cons h1 h2 =>
      cases r with
      | cons r1 r2 =>
        obtain ⟨as, q1, n1⟩ := Rt.reads I d _ _ h1 r1
        obtain ⟨bs, q2, n2⟩ := Rt.readsAll I ds _ _ h2 r2
        exact ⟨as ++ bs, .cons q1 q2, fun hm => (List.mem_append.mp hm).elim n1 n2⟩
end
end

/-- data of either kind -/
def Gd (K : PySem.W.Frag) (H : Hp) (v : V) (d : PyData) : Prop := Dp K H v d ∨ Rt K H v d
def GdAll (K : PySem.W.Frag) (H : Hp) (vs : List V) (ds : List PyData) : Prop := DpAll K H vs ds ∨ RtAll K H vs ds
theorem dpAll_at {K : PySem.W.Frag} {H : Hp} : ∀ {vs : List V} {ds : List PyData}, DpAll K H vs ds → ∀ (i : Nat) (v : V), vs[i]? = some v → ∃ d, ds[i]? = some d ∧ Dp K H v d
  | _, _, .nil, i, v, h => by simp at h
  | _, _, .cons r q, 0, v, h => by
    simp at h
    subst h
    exact ⟨_, rfl, r⟩
  | _, _, .cons r q, i + 1, v, h => by
    obtain ⟨d, h1, h2⟩ := dpAll_at q i v (by simpa using h)
    exact ⟨d, by simpa using h1, h2⟩
theorem rtAll_at {K : PySem.W.Frag} {H : Hp} : ∀ {vs : List V} {ds : List PyData}, RtAll K H vs ds → ∀ (i : Nat) (v : V), vs[i]? = some v → ∃ d, ds[i]? = some d ∧ Rt K H v d
  | _, _, .nil, i, v, h => by simp at h
  | _, _, .cons r q, 0, v, h => by
    simp at h
    subst h
    exact ⟨_, rfl, r⟩
  | _, _, .cons r q, i + 1, v, h => by
    obtain ⟨d, h1, h2⟩ := rtAll_at q i v (by simpa using h)
    exact ⟨d, by simpa using h1, h2⟩
theorem GdAll.at {K : PySem.W.Frag} {H : Hp} {vs : List V} {ds : List PyData} (h : GdAll K H vs ds) {i : Nat} {v : V} (e : vs[i]? = some v) : ∃ d, ds[i]? = some d ∧ Gd K H v d := by
  rcases h with h | h
  · obtain ⟨d, h1, h2⟩ := dpAll_at h i v e
    exact ⟨d, h1, .inl h2⟩
  · obtain ⟨d, h1, h2⟩ := rtAll_at h i v e
    exact ⟨d, h1, .inr h2⟩
theorem dpAll_len {K : PySem.W.Frag} {H : Hp} : ∀ {vs : List V} {ds : List PyData}, DpAll K H vs ds → vs.length = ds.length
  | _, _, .nil => rfl
  | _, _, .cons _ q => by rw [List.length_cons, List.length_cons, dpAll_len q]
theorem rtAll_len {K : PySem.W.Frag} {H : Hp} : ∀ {vs : List V} {ds : List PyData}, RtAll K H vs ds → vs.length = ds.length
  | _, _, .nil => rfl
  | _, _, .cons _ q => by rw [List.length_cons, List.length_cons, rtAll_len q]
theorem GdAll.len {K : PySem.W.Frag} {H : Hp} {vs : List V} {ds : List PyData} (h : GdAll K H vs ds) : vs.length = ds.length := h.elim dpAll_len rtAll_len
theorem Gd.tup {K : PySem.W.Frag} {H : Hp} {a : Addr} {vs : List V} {ds : List PyData} (h : SqT K H a vs) (q : GdAll K H vs ds) : Gd K H (.ref a) (.tuple ds) := by
  rcases q with q | q
  · exact .inl (.tup h q)
  · exact .inr (.tup h q)
/-- it stands while what stands stands -/
theorem same_t {K : PySem.W.Frag} {H H' : Hp} {a : Addr} {xs : List V} (e : Same H H') (h : SqT K H a xs) : SqT K H' a xs := by
  rcases h with h | h
  · rcases h with h | ⟨o, h⟩
    · exact .inl (.inl (e _ _ h))
    · exact .inl (.inr ⟨o, e _ _ h⟩)
  · exact .inr h
mutual
theorem dp_mono {K : PySem.W.Frag} {H H' : Hp} (e : Same H H') : ∀ (d : PyData) (v : V), Dp K H v d → Dp K H' v d
  | .none, _, h => by cases h; exact .non
  | .bool b, _, h => by cases h; exact .bl b
  | .int i, _, h => by cases h; exact .int i
  | .str x, _, h => by cases h; exact .str x
  | .list ds, _, h => by
    cases h with
    | lst q r => exact .lst (e.seq q) (dpAll_mono e ds _ r)
  | .tuple ds, _, h => by
    cases h with
    | tup q r => exact .tup (same_t e q) (dpAll_mono e ds _ r)
  | .dict _, _, h => by cases h
theorem dpAll_mono {K : PySem.W.Frag} {H H' : Hp} (e : Same H H') : ∀ (ds : List PyData) (vs : List V), DpAll K H vs ds → DpAll K H' vs ds
  | [], _, h => by cases h; exact .nil
  | d :: ds, _, h => by
    cases h with
    | cons q r => exact .cons (dp_mono e d _ q) (dpAll_mono e ds _ r)
end
mutual
theorem rt_mono {K : PySem.W.Frag} {H H' : Hp} (e : Same H H') : ∀ (d : PyData) (v : V), Rt K H v d → Rt K H' v d
  | .none, _, h => by cases h; exact .non
  | .bool b, _, h => by cases h; exact .bl b
  | .int i, _, h => by cases h; exact .int i
  | .str x, _, h => by cases h; exact .str x
  | .list ds, _, h => by cases h
  | .tuple ds, _, h => by
    cases h with
    | tup q r => exact .tup (same_t e q) (rtAll_mono e ds _ r)
  | .dict _, _, h => by
    cases h with
    | emp q => exact .emp (e _ _ q)
theorem rtAll_mono {K : PySem.W.Frag} {H H' : Hp} (e : Same H H') : ∀ (ds : List PyData) (vs : List V), RtAll K H vs ds → RtAll K H' vs ds
  | [], _, h => by cases h; exact .nil
  | d :: ds, _, h => by
    cases h with
    | cons q r => exact .cons (rt_mono e d _ q) (rtAll_mono e ds _ r)
end
theorem Gd.mono {K : PySem.W.Frag} {H H' : Hp} {v : V} {d : PyData} (h : Gd K H v d) (e : Same H H') : Gd K H' v d := h.elim (fun z => .inl (dp_mono e d v z)) fun z => .inr (rt_mono e d v z)
theorem GdAll.mono {K : PySem.W.Frag} {H H' : Hp} {vs : List V} {ds : List PyData} (h : GdAll K H vs ds) (e : Same H H') : GdAll K H' vs ds := h.elim (fun z => .inl (dpAll_mono e ds vs z)) fun z => .inr (rtAll_mono e ds vs z)

/-! ### how long a repr of data comes -/
mutual
def sz : PyData → Nat
  | .none => 4
  | .bool _ => 5
  | .int _ => 1
  | .str x => 10 * x.length + 2
  | .list ds => szAll ds + 3
  | .tuple ds => szAll ds + 3
  | .dict _ => 2
def szAll : List PyData → Nat
  | [] => 0
  | d :: ds => sz d + 2 + szAll ds
end
mutual
/-- small ints, plain texts, empty dicts -/
def okD : PyData → Prop
  | .none => True
  | .bool _ => True
  | .int i => 0 ≤ i ∧ i ≤ 9
  | .str x => ∀ c ∈ x.cps.toList, c < 1000
  | .list ds => okAll ds
  | .tuple ds => okAll ds
  | .dict kvs => kvs = []
def okAll : List PyData → Prop
  | [] => True
  | d :: ds => okD d ∧ okAll ds
end
theorem digit_len : ∀ k < 10, (toString ((k : Nat) : Int) : String).length = 1 := by decide
mutual
theorem show_le : ∀ d : PyData, okD d → d.shown.length ≤ sz d ∧ d.showable = true
  | .none, _ => ⟨by show ("None" : Str).length ≤ 4; decide +kernel, rfl⟩
  | .bool b, _ => ⟨by cases b; (show ("False" : Str).length ≤ 5; decide +kernel); (show ("True" : Str).length ≤ 5; decide +kernel), rfl⟩
  | .int i, h => by
    obtain ⟨h0, h1⟩ : 0 ≤ i ∧ i ≤ 9 := h
    have e : i = 0 ∨ i = 1 ∨ i = 2 ∨ i = 3 ∨ i = 4 ∨ i = 5 ∨ i = 6 ∨ i = 7 ∨ i = 8 ∨ i = 9 := by omega
    refine ⟨?_, ?_⟩
    · show (Str.ofString (toString i)).length ≤ 1
      rcases e with rfl | rfl | rfl | rfl | rfl | rfl | rfl | rfl | rfl | rfl <;> decide +kernel
    · rcases e with rfl | rfl | rfl | rfl | rfl | rfl | rfl | rfl | rfl | rfl <;> decide +kernel
  | .str x, h => by
    have h : ∀ c ∈ x.cps.toList, c < 1000 := h
    exact ⟨StrLaws.reprText_len x fun c hc => Nat.lt_of_lt_of_le (h c hc) (by decide), rfl⟩
  | .list ds, h => by
    obtain ⟨h1, h2⟩ := showAll_le ds h
    have q := listText_len_le (PyData.shownAll ds)
    refine ⟨?_, h2⟩
    show (listText (PyData.shownAll ds)).length ≤ szAll ds + 3
    omega
  | .tuple ds, h => by
    obtain ⟨h1, h2⟩ := showAll_le ds h
    have q := tupleText_len_le (PyData.shownAll ds)
    refine ⟨?_, h2⟩
    show (tupleText (PyData.shownAll ds)).length ≤ szAll ds + 3
    omega
  | .dict kvs, h => by
    have h : kvs = [] := h
    subst h
    exact ⟨by show (dictText []).length ≤ 2; decide +kernel, rfl⟩
theorem showAll_le : ∀ ds : List PyData, okAll ds → ((PyData.shownAll ds).map (·.length)).sum + 2 * (PyData.shownAll ds).length ≤ szAll ds ∧ PyData.showableAll ds = true
  | [], _ => ⟨Nat.le_refl _, rfl⟩
  | d :: ds, h => by
    obtain ⟨h1, h2⟩ : okD d ∧ okAll ds := h
    obtain ⟨a1, a2⟩ := show_le d h1
    obtain ⟨b1, b2⟩ := showAll_le ds h2
    refine ⟨?_, ?_⟩
    · show ((d.shown :: PyData.shownAll ds).map (·.length)).sum + 2 * (d.shown :: PyData.shownAll ds).length ≤ sz d + 2 + szAll ds
      rw [List.map_cons, List.sum_cons, List.length_cons]
      omega
    · show (d.showable && PyData.showableAll ds) = true
      rw [a2, b2]
      rfl
end
section
variable {X : Cx}
/-- repr of data of either kind -/
def rReprG (K : PySem.W.Frag) : List V → Hp → VK → Prop := fun xs H Q => ∃ (v : V) (d : PyData), xs = [v] ∧ Gd K H v d ∧ okD d ∧ sz d ≤ 16000000 ∧ d.depth ≤ 40 ∧ Q (.str d.shown) H
theorem dp_noDict {K : PySem.W.Frag} {H : Hp} : ∀ (d : PyData) (v : V), Dp K H v d → d.canLay0 = true ∨ True := fun _ _ _ => .inr trivial
mutual
theorem dp_hasNo {K : PySem.W.Frag} {H : Hp} : ∀ (d : PyData) (v : V), Dp K H v d → d.hasDict = false
  | .none, _, _ => rfl
  | .bool _, _, _ => rfl
  | .int _, _, _ => rfl
  | .str _, _, _ => rfl
  | .list ds, _, h => by
    cases h with
    | lst _ r => exact dpAll_hasNo ds _ r
  | .tuple ds, _, h => by
    cases h with
    | tup _ r => exact dpAll_hasNo ds _ r
  | .dict _, _, h => by cases h
theorem dpAll_hasNo {K : PySem.W.Frag} {H : Hp} : ∀ (ds : List PyData) (vs : List V), DpAll K H vs ds → PyData.hasDictAll ds = false
  | [], _, _ => rfl
  | d :: ds, _, h => by
    cases h with
    | cons q r =>
      show (d.hasDict || PyData.hasDictAll ds) = false
      rw [dp_hasNo d _ q, dpAll_hasNo ds _ r]
      rfl
end
theorem call_reprG (hg : X.A.guards = some []) (hu : X.A.units + 64 < cLine) : CallR X (.builtin "repr") (rReprG X.K) := by
  intro pins s σ H xs us Q I r h
  obtain ⟨v, d, rfl, hd, ok, hz, hdp, q⟩ := h
  obtain ⟨u, rfl, ru⟩ := vals1 r
  obtain ⟨l1, l2⟩ := show_le d ok
  have hl : d.shown.length ≤ sizeLine := by
    rw [sizeLine_eq]
    omega
  obtain ⟨as, rd, hsm⟩ : ∃ as, Reads s.heap u d as ∧ (d.hasDict = true → sysModules ∉ as) := by
    rcases hd with z | z
    · obtain ⟨as, rd⟩ := Dp.reads I d v u z ru
      exact ⟨as, rd, PyData.noDict_hsm (dp_hasNo d v z)⟩
    · obtain ⟨as, rd, n⟩ := Rt.reads I d v u z ru
      exact ⟨as, rd, fun _ => n⟩
  cases v with
  | ref a =>
    cases ru
    refine repr_of_reads' rd l2 hsm hg (by omega) (fun _ _ z => z) (fun h' w tk k => ?_) hl
    exact ⟨.str d.shown, H, I.kept (t' := tk) k, ⟨_, rfl⟩, q⟩
  | non =>
    cases ru
    cases rd
    exact PySem.P.repr_of_none ⟨.str _, H, I.tok _, ⟨_, rfl⟩, q⟩
  | bl b =>
    cases ru
    cases rd
    exact PySem.P.repr_of_bool ⟨.str _, H, I.tok _, ⟨_, rfl⟩, q⟩
  | int i =>
    obtain ⟨t, rfl⟩ := ru
    cases rd
    exact PySem.P.repr_of_int (by simpa [PyData.showable] using l2) ⟨.str _, H, I.tok _, ⟨_, rfl⟩, q⟩
  | str x =>
    obtain ⟨t, rfl⟩ := ru
    cases rd
    exact PySem.P.repr_of_str (hsz := hl) ⟨.str _, H, I.tok _, ⟨_, rfl⟩, q⟩
  | byt b => rcases hd with z | z <;> cases z
  | flt b => rcases hd with z | z <;> cases z
  | ty n => rcases hd with z | z <;> cases z
end

/-! ### isinstance -/
def kindOf : PyData → String
  | .none => "NoneType"
  | .bool _ => "bool"
  | .int _ => "int"
  | .str _ => "str"
  | .list _ => "list"
  | .tuple _ => "tuple"
  | .dict _ => "dict"
theorem ty_list {K : PySem.W.Frag} {H : Hp} {a : Addr} {xs : List V} (h : SqL K H a xs) : TyX K H (.ref a) (.type "list") := by
  rcases h with (h | ⟨o, h⟩) | ⟨o, its, n, h, hc, _⟩
  · exact .base (.lst h)
  · exact .base (.frz h)
  · exact .kList h hc
theorem ty_tuple {K : PySem.W.Frag} {H : Hp} {a : Addr} {xs : List V} (h : SqT K H a xs) : TyX K H (.ref a) (.type "tuple") := by
  rcases h with (h | ⟨o, h⟩) | ⟨o, its, n, h, hc, _⟩
  · exact .base (.tup h)
  · exact .fTuple h
  · exact .kTuple h hc
theorem ty_of {K : PySem.W.Frag} {H : Hp} {v : V} {d : PyData} (h : Gd K H v d) : TyX K H v (.type (kindOf d)) := by
  rcases h with h | h
  · cases h with
    | non => exact .base .non
    | bl b => exact .base (.bl b)
    | int i => exact .base (.int i)
    | str x => exact .base (.str x)
    | lst q _ => exact ty_list q
    | tup q _ => exact ty_tuple q
  · cases h with
    | non => exact .base .non
    | bl b => exact .base (.bl b)
    | int i => exact .base (.int i)
    | str x => exact .base (.str x)
    | tup q _ => exact ty_tuple q
    | emp q => exact .base (.dK q)
def isT : PyData → Bool
  | .tuple _ => true
  | _ => false
def isS : PyData → Bool
  | .str _ => true
  | _ => false
theorem kit_t : ∀ d : PyData, kitB (kindOf d) "tuple" = some (isT d)
  | .none => (by decide +kernel : kitB "NoneType" "tuple" = some false)
  | .bool _ => (by decide +kernel : kitB "bool" "tuple" = some false)
  | .int _ => (by decide +kernel : kitB "int" "tuple" = some false)
  | .str _ => (by decide +kernel : kitB "str" "tuple" = some false)
  | .list _ => (by decide +kernel : kitB "list" "tuple" = some false)
  | .tuple _ => (by decide +kernel : kitB "tuple" "tuple" = some true)
  | .dict _ => (by decide +kernel : kitB "dict" "tuple" = some false)
theorem kit_s : ∀ d : PyData, kitB (kindOf d) "str" = some (isS d)
  | .none => (by decide +kernel : kitB "NoneType" "str" = some false)
  | .bool _ => (by decide +kernel : kitB "bool" "str" = some false)
  | .int _ => (by decide +kernel : kitB "int" "str" = some false)
  | .str _ => (by decide +kernel : kitB "str" "str" = some true)
  | .list _ => (by decide +kernel : kitB "list" "str" = some false)
  | .tuple _ => (by decide +kernel : kitB "tuple" "str" = some false)
  | .dict _ => (by decide +kernel : kitB "dict" "str" = some false)

/-! ### strip of letters leaves nothing -/
theorem strip_all {x y : Str} : (Txt.stripChars x y).length = 0 ↔ ∀ c ∈ tl x, y.cps.contains c = true := by
  have tw : ∀ (p : Nat → Bool) (l : List Nat), (∀ c ∈ l, p c = true) → l.takeWhile p = l := by
    intro p l h
    induction l with
    | nil => rfl
    | cons a r ih =>
      rw [List.takeWhile_cons, h a List.mem_cons_self, if_pos rfl, ih fun c hc => h c (List.mem_cons_of_mem _ hc)]
  have mem_tw : ∀ (p : Nat → Bool) (l : List Nat) (c : Nat), c ∈ l.takeWhile p → p c = true := by
    intro p l
    induction l with
    | nil => intro c hc; cases hc
    | cons a r ih =>
      intro c hc
      rw [List.takeWhile_cons] at hc
      by_cases pa : p a = true
      · rw [if_pos pa] at hc
        rcases List.mem_cons.mp hc with e | e
        · rw [e]; exact pa
        · exact ih c e
      · rw [if_neg pa] at hc
        cases hc
  have hx := len_tl x
  constructor
  · intro h
    unfold Txt.stripChars Txt.stripBy at h
    by_cases c : stripSame y.cps.contains true true x = true
    · rw [if_pos c, len_tl] at h
      intro d hd
      rw [List.eq_nil_of_length_eq_zero h] at hd
      cases hd
    · rw [if_neg c] at h
      have e1 : tl (stripped y.cps.contains true true x) = ((tl x).drop (stripLo y.cps.contains true x)).take (stripHi y.cps.contains true x (stripLo y.cps.contains true x) - stripLo y.cps.contains true x) := PySem.StrLaws.strSub_toList x _ _
      have elo : stripLo y.cps.contains true x = ((tl x).takeWhile y.cps.contains).length := rfl
      rw [len_tl, e1] at h
      rw [elo] at h
      have ehi : stripHi y.cps.contains true x ((tl x).takeWhile y.cps.contains).length = x.length - (((tl x).drop ((tl x).takeWhile y.cps.contains).length).reverse.takeWhile y.cps.contains).length := rfl
      rw [ehi] at h
      have esplit := List.takeWhile_append_dropWhile (p := y.cps.contains) (l := tl x)
      have edrop : (tl x).drop ((tl x).takeWhile y.cps.contains).length = (tl x).dropWhile y.cps.contains := by
        have q := congrArg (List.drop ((tl x).takeWhile y.cps.contains).length) esplit
        rw [List.drop_left] at q
        exact q.symm
      rw [edrop] at h
      cases hd : (tl x).dropWhile y.cps.contains with
      | nil =>
        rw [hd, List.append_nil] at esplit
        intro d hdm
        rw [← esplit] at hdm
        exact mem_tw _ _ _ hdm
      | cons d r =>
        exfalso
        have hnp : ¬ y.cps.contains d = true := by
          have q := List.head?_dropWhile_not (p := y.cps.contains) (tl x)
          rw [hd] at q
          simpa using q
        have hlen : (((d :: r).reverse).takeWhile y.cps.contains).length ≤ r.length := by
          have hle : (((d :: r).reverse).takeWhile y.cps.contains).length ≤ (d :: r).length := by
            have q := (List.takeWhile_sublist (l := (d :: r).reverse) y.cps.contains).length_le
            rw [List.length_reverse] at q
            exact q
          by_cases hz : (((d :: r).reverse).takeWhile y.cps.contains).length = (d :: r).length
          · exfalso
            have q := List.takeWhile_append_dropWhile (p := y.cps.contains) (l := (d :: r).reverse)
            have q2 : ((d :: r).reverse).dropWhile y.cps.contains = [] := by
              have q3 := congrArg List.length q
              rw [List.length_append, hz, List.length_reverse] at q3
              exact List.eq_nil_of_length_eq_zero (by omega)
            rw [q2, List.append_nil] at q
            have hm : d ∈ ((d :: r).reverse).takeWhile y.cps.contains := by
              rw [q]
              simp
            exact hnp (mem_tw _ _ _ hm)
          · rw [List.length_cons] at hle hz
            omega
        rw [hd, List.length_take, List.length_cons] at h
        have hsum := congrArg List.length esplit
        rw [hd, List.length_append, List.length_cons, ← hx] at hsum
        omega
  · intro h
    have e0 : stripLo y.cps.contains true x = x.length := by
      show ((tl x).takeWhile y.cps.contains).length = x.length
      rw [tw _ _ h, hx]
    unfold Txt.stripChars Txt.stripBy
    by_cases c : stripSame y.cps.contains true true x = true
    · rw [if_pos c]
      unfold stripSame at c
      rw [e0, Bool.and_eq_true] at c
      exact beq_iff_eq.mp c.1
    · rw [if_neg c, len_tl]
      have e1 : tl (stripped y.cps.contains true true x) = ((tl x).drop (stripLo y.cps.contains true x)).take (stripHi y.cps.contains true x (stripLo y.cps.contains true x) - stripLo y.cps.contains true x) := PySem.StrLaws.strSub_toList x _ _
      rw [e1, e0, List.drop_of_length_le (by omega)]
      simp
end Bl
/-! Words, rows and products among data. -/
namespace Bl
open PySem PySem.Spec PyProof.Rows L2 TL
theorem ascii_tab : ∀ c < 128, (Unicode.isAlpha c && !(Unicode.isUpper c || Unicode.isTitle c)) = true → 97 ≤ c ∧ c ≤ 122 := by decide +kernel
/-- as the program asks it -/
def wordB (x : Str) : Bool := (x.length == 0) || (Txt.isascii x && (Txt.isalpha x && Txt.islower x))
theorem word_iff {x : Str} : wordB x = true ↔ Lets x := by
  unfold wordB
  constructor
  · intro h
    by_cases h0 : x.length = 0
    · intro c hc
      rw [len_tl] at h0
      rw [List.eq_nil_of_length_eq_zero h0] at hc
      cases hc
    · have h0 : (x.length == 0) = false := beq_eq_false_iff_ne.mpr h0
      rw [h0, Bool.false_or, Bool.and_eq_true, Bool.and_eq_true] at h
      obtain ⟨h1, h2, h3⟩ := h
      unfold Txt.isascii at h1
      unfold Txt.isalpha at h2
      unfold Txt.islower at h3
      rw [Bool.and_eq_true] at h2 h3
      rw [← Array.all_toList, List.all_eq_true] at h1
      have h2 := h2.2
      rw [← Array.all_toList, List.all_eq_true] at h2
      have h3 := h3.2
      rw [Bool.not_eq_true', ← Array.any_toList, List.any_eq_false] at h3
      intro c hc
      have a1 := of_decide_eq_true (h1 c hc)
      have a2 := h2 c hc
      have a3 := h3 c hc
      refine ascii_tab c a1 ?_
      rw [a2, Bool.true_and]
      cases e : (Unicode.isUpper c || Unicode.isTitle c)
      · rfl
      · exact absurd e a3
  · intro h
    obtain ⟨h1, h2⟩ := word_tests h
    by_cases h0 : x.length = 0
    · rw [h0]
      rfl
    · obtain ⟨h3, h4⟩ := h2 h0
      rw [h1, h3, h4]
      simp
def azs : Str := "abcdefghijklmnopqrstuvwxyz"
theorem azs_list : azs.cps = #[97, 98, 99, 100, 101, 102, 103, 104, 105, 106, 107, 108, 109, 110, 111, 112, 113, 114, 115, 116, 117, 118, 119, 120, 121, 122] := by decide +kernel
theorem azs_has {c : Nat} : azs.cps.contains c = true ↔ 97 ≤ c ∧ c ≤ 122 := by
  rw [azs_list, Array.contains_iff]
  simp
  omega
theorem strip_lets {x : Str} : (Txt.stripChars x azs).length = 0 ↔ Lets x := by
  rw [strip_all]
  constructor
  · intro h c hc
    exact azs_has.mp (h c hc)
  · intro h c hc
    exact azs_has.mpr (h c hc)
def wordD : PyData → Bool
  | .str x => wordB x
  | _ => false
def rowD : PyData → Bool
  | .tuple ds => !ds.isEmpty && ds.all wordD
  | _ => false
def prodD : PyData → Bool
  | .tuple ds => !ds.isEmpty && ds.all rowD
  | _ => false
theorem str_of {K : PySem.W.Frag} {H : Hp} {v : V} {d : PyData} (h : Gd K H v d) (e : isS d = true) : ∃ x, v = .str x ∧ d = .str x := by
  rcases h with h | h <;> cases h <;> first | exact ⟨_, rfl, rfl⟩ | exact absurd e (by simp [isS])
theorem tup_of {K : PySem.W.Frag} {H : Hp} {v : V} {d : PyData} (h : Gd K H v d) (e : isT d = true) : ∃ a xs ds, v = .ref a ∧ d = .tuple ds ∧ SqT K H a xs ∧ GdAll K H xs ds := by
  rcases h with h | h
  · cases h with
    | tup q r => exact ⟨_, _, _, rfl, rfl, q, .inl r⟩
    | _ => exact absurd e (by simp [isT])
  · cases h with
    | tup q r => exact ⟨_, _, _, rfl, rfl, q, .inr r⟩
    | _ => exact absurd e (by simp [isT])
theorem sz_mem : ∀ {ds : List PyData} {d : PyData}, d ∈ ds → sz d + 2 ≤ szAll ds
  | [], d, h => by cases h
  | a :: r, d, h => by
    show sz d + 2 ≤ sz a + 2 + szAll r
    rcases List.mem_cons.mp h with e | e
    · rw [e]; omega
    · have := sz_mem e
      omega
theorem sz_len : ∀ ds : List PyData, 2 * ds.length ≤ szAll ds
  | [] => Nat.le_refl _
  | a :: r => by
    have := sz_len r
    show 2 * (r.length + 1) ≤ sz a + 2 + szAll r
    omega
theorem szAll_append : ∀ a b : List PyData, szAll (a ++ b) = szAll a + szAll b
  | [], b => by show szAll b = 0 + szAll b; omega
  | x :: a, b => by
    show sz x + 2 + szAll (a ++ b) = sz x + 2 + szAll a + szAll b
    rw [szAll_append a b]
    omega
theorem take_more {α : Type} {l : List α} {i : Nat} {x : α} (h : l[i]? = some x) : l.take (i + 1) = l.take i ++ [x] := by
  rw [List.take_succ, h]
  rfl
theorem same_d {H H' : Hp} {D : Addr} {o : HO} (hD : H D = none) (h : Same H H') : Same H (upd H' D o) := fun b u e => by
  rw [upd_ne (ne_of_none e hD)]
  exact h b u e
section
variable {X : Cx}
/-- xs == [] -/
def rEqNil (K : PySem.W.Frag) : R2 := fun x y H Q => ∃ (a b : Addr) (xs : List V), x = .ref a ∧ y = .ref b ∧ SqL K H a xs ∧ SqL K H b [] ∧ Q (.bl xs.isEmpty) H
theorem op_eqNil (hu : X.A.units + 64 < cLine) : OpR X (compareOp .Eq) (rEqNil X.K) := by
  intro pins s σ H x y v u Q I rx ry h
  obtain ⟨a, b, xs, rfl, rfl, h1, h2, q⟩ := h
  cases xs with
  | nil => exact op_eqD hu pins s σ H _ _ v u Q I rx ry ⟨.list [], .list [], .lst h1 .nil, .lst h2 .nil, by decide +kernel, by decide +kernel, q⟩
  | cons z xs =>
    cases rx
    cases ry
    obtain ⟨its, r1, p1, _⟩ := I.list h1
    obtain ⟨its2, r2, p2, _⟩ := I.list h2
    have e2 := r2.length
    have e1 := r1.length
    refine SeqAt.eq_list_lengthsAt p1.isList p2.isList ?_ (by omega) ⟨.bl false, H, I, rfl, q⟩
    rw [bne_iff_ne]
    intro e
    rw [List.size_toArray, List.size_toArray, ← e1, ← e2] at e
    simp at e
def rNeNil (K : PySem.W.Frag) : R2 := fun x y H Q => ∃ (a b : Addr) (xs : List V), x = .ref a ∧ y = .ref b ∧ SqL K H a xs ∧ SqL K H b [] ∧ Q (.bl (!xs.isEmpty)) H
end
theorem gd_same {K : PySem.W.Frag} {H H' : Hp} {vs : List V} {ds : List PyData} {i : Nat} {v : V} (h : GdAll K H vs ds) (e : Same H H') (hv : vs[i]? = some v) : ∃ d, ds[i]? = some d ∧ Gd K H' v d := by
  obtain ⟨d, h1, h2⟩ := h.at hv
  exact ⟨d, h1, h2.mono e⟩
end Bl
/-! The tray that draws are taken from, and what may change beside it. -/
namespace Bl
open PySem PySem.Spec PyProof.Rows L2 TL
theorem sl_small {n : Nat} (h : n ≤ 100000) : n ≤ sizeLine := Nat.le_trans h (by decide)
/-! ### the tray: three ints in a list, the last one counts -/
def Tray (H : Hp) (t : Addr) (n : Nat) : Prop := ∃ a b c : Int, H t = some (.lst [.int a, .int b, .int c]) ∧ 0 ≤ a ∧ 0 ≤ b ∧ b < 2 ^ 200 ∧ 0 ≤ c ∧ c ≤ (n : Int)
theorem Tray.mono {H : Hp} {t : Addr} {n m : Nat} (h : Tray H t n) (e : n ≤ m) : Tray H t m := by
  obtain ⟨a, b, c, h1, h2, h3, h4, h5, h6⟩ := h
  exact ⟨a, b, c, h1, h2, h3, h4, h5, by omega⟩
theorem Tray.of {H H' : Hp} {t : Addr} {n : Nat} (h : Tray H t n) (e : H' t = H t) : Tray H' t n := by
  obtain ⟨a, b, c, h1, h2⟩ := h
  exact ⟨a, b, c, e.trans h1, h2⟩
/-- all but the object at t stands as it did -/
def But (t : Addr) (H H' : Hp) : Prop := ∀ b o, b ≠ t → H b = some o → H' b = some o
theorem But.refl (t : Addr) (H : Hp) : But t H H := fun _ _ _ h => h
theorem But.trans {t : Addr} {H H1 H2 : Hp} (a : But t H H1) (b : But t H1 H2) : But t H H2 := fun c o n h => b c o n (a c o n h)
theorem But.set {t : Addr} {H : Hp} {o : HO} : But t H (upd H t o) := fun b u n h => by
  rw [upd_ne n]
  exact h
theorem But.new {t p : Addr} {H : Hp} {o : HO} (hp : H p = none) : But t H (upd H p o) := fun b u _ h => by
  rw [upd_ne (ne_of_none h hp)]
  exact h
/-- what a def with a tray may do: the tray's own change, new objects, nothing else -/
theorem Tray.ne {H : Hp} {t p : Addr} {n : Nat} (h : Tray H t n) (hp : H p = none) : t ≠ p := by
  obtain ⟨a, b, c, h1, _⟩ := h
  exact ne_of_none h1 hp
theorem Tray.new {H : Hp} {t p : Addr} {n : Nat} {o : HO} (h : Tray H t n) (hp : H p = none) : Tray (upd H p o) t n := h.of (upd_ne (h.ne hp))
theorem seed_range (z : Int) (i : Nat) (hi : i ≤ 1000) : 0 ≤ z % ((10 : Int) ^ (38 : Int).toNat + 133) * 89 + 59 * (i : Int) + 23 ∧ z % ((10 : Int) ^ (38 : Int).toNat + 133) * 89 + 59 * (i : Int) + 23 < 2 ^ 200 := by
  have e : (10 : Int) ^ (38 : Int).toNat + 133 = 100000000000000000000000000000000000133 := by decide
  rw [e]
  have h1 := Int.emod_nonneg z (b := 100000000000000000000000000000000000133) (by decide)
  have h2 := Int.emod_lt_of_pos z (b := 100000000000000000000000000000000000133) (by decide)
  have e2 : (2 : Int) ^ 200 = 1606938044258990275541962092341162602522202993782792835301376 := by decide
  rw [e2]
  omega
theorem big1 : (10 : Int) ^ (39 : Int).toNat + 3 = 1000000000000000000000000000000000000003 := by decide
theorem big2 : (10 : Int) ^ (40 : Int).toNat + 121 = 10000000000000000000000000000000000000121 := by decide
theorem p200 : (2 : Int) ^ 200 = 1606938044258990275541962092341162602522202993782792835301376 := by decide
theorem pow_ok {x : Int} (h0 : 0 ≤ x) (h1 : x < 2 ^ 210) : CPowW x 3 := by
  refine ⟨⟨by decide, by decide⟩, ?_⟩
  have e : (2 : Int) ^ 210 = ((2 ^ 210 : Nat) : Int) := by decide
  have h2 : x.natAbs < 2 ^ 210 := by
    rw [e] at h1
    omega
  exact Nat.lt_trans h2 (Nat.pow_lt_pow_right (by decide) (by decide))
theorem p210 : (2 : Int) ^ 210 = 1645504557321206042154969182557350504982735865633579863348609024 := by decide
theorem log_small {m : Int} (h0 : 0 < m) (h : m < 4294967296) : m.natAbs.log2 < 9000 :=
  Nat.lt_trans (PySem.Flt.log2_lt_of (n := m.natAbs) (k := 32) (by decide) (by omega)) (by decide)
theorem sum_ones : ∀ ys : List Str, (∀ y ∈ ys, y.length = 1) → (ys.map (·.length)).sum = ys.length
  | [], _ => rfl
  | y :: r, h => by
    rw [List.map_cons, List.sum_cons, List.length_cons, h y List.mem_cons_self, sum_ones r fun z hz => h z (List.mem_cons_of_mem _ hz)]
    omega
theorem join_lets : ∀ ys : List Str, (∀ y ∈ ys, Lets y ∧ y.length = 1) → Lets (Txt.join "" ys) ∧ (Txt.join "" ys).length = ys.length := by
  intro ys h
  rw [join_eq]
  have key : ∀ ps : List (List Nat), (∀ p ∈ ps, p.length = 1 ∧ ∀ c ∈ p, 97 ≤ c ∧ c ≤ 122) → (joinL [] ps).length = ps.length ∧ ∀ c ∈ joinL [] ps, 97 ≤ c ∧ c ≤ 122 := by
    intro ps
    induction ps with
    | nil => intro _; exact ⟨rfl, fun c hc => absurd hc (by simp [joinL])⟩
    | cons p r ih =>
      intro hp
      obtain ⟨h1, h2⟩ := hp p List.mem_cons_self
      obtain ⟨i1, i2⟩ := ih fun q hq => hp q (List.mem_cons_of_mem _ hq)
      have e : joinL [] (p :: r) = p ++ joinL [] r := by
        cases r with
        | nil => simp [joinL]
        | cons q s => simp [joinL]
      rw [e]
      refine ⟨by rw [List.length_append, List.length_cons, h1, i1]; omega, fun c hc => ?_⟩
      rcases List.mem_append.mp hc with z | z
      · exact h2 c z
      · exact i2 c z
  have ht := tl_join "" ys
  have he : tl ("" : Str) = [] := rfl
  rw [he] at ht
  obtain ⟨k1, k2⟩ := key (ys.map tl) fun p hp => by
    obtain ⟨y, hy, rfl⟩ := List.mem_map.mp hp
    obtain ⟨q1, q2⟩ := h y hy
    exact ⟨by rw [← len_tl]; exact q2, q1⟩
  refine ⟨fun c hc => k2 c (by rw [← ht]; exact hc), ?_⟩
  rw [len_tl, ht, k1, List.length_map]
theorem same_new {H : Hp} {p : Addr} {o : HO} (hp : H p = none) : Same H (upd H p o) := fun b u h => by
  rw [upd_ne (ne_of_none h hp)]
  exact h
theorem pick3 (a b c : V) {v : Int} (h0 : 0 ≤ v) (h1 : v < 3) : ∃ x, atI [a, b, c] v = some x ∧ (x = a ∨ x = b ∨ x = c) := by
  have e : v = 0 ∨ v = 1 ∨ v = 2 := by omega
  rcases e with rfl | rfl | rfl
  · exact ⟨a, rfl, .inl rfl⟩
  · exact ⟨b, rfl, .inr (.inl rfl)⟩
  · exact ⟨c, rfl, .inr (.inr rfl)⟩
theorem pick4 (a b c d : V) {v : Int} (h0 : 0 ≤ v) (h1 : v < 4) : ∃ x, atI [a, b, c, d] v = some x ∧ (x = a ∨ x = b ∨ x = c ∨ x = d) := by
  have e : v = 0 ∨ v = 1 ∨ v = 2 ∨ v = 3 := by omega
  rcases e with rfl | rfl | rfl | rfl
  · exact ⟨a, rfl, .inl rfl⟩
  · exact ⟨b, rfl, .inr (.inl rfl)⟩
  · exact ⟨c, rfl, .inr (.inr (.inl rfl))⟩
  · exact ⟨d, rfl, .inr (.inr (.inr rfl))⟩
theorem lets_x : Lets ("x" : Str) := by unfold Lets; decide +kernel
theorem lets_ab : Lets ("ab" : Str) := by unfold Lets; decide +kernel
theorem lets_az : Lets ("abcdefghijklmnopqrstuvwxyz" : Str) := by unfold Lets; decide +kernel
end Bl
/-! Items with bounds, in one of two kinds of data; tuples put together, where the new address does not matter. -/
namespace Bl
open PySem PySem.Spec PyProof.Rows L2 TL
def Rl (K : PySem.W.Frag) (H : Hp) : Bool → V → PyData → Prop
  | true => Dp K H
  | false => Rt K H
def Itm (K : PySem.W.Frag) (b k : Nat) (m : Bool) (H : Hp) (v : V) : Prop := ∃ d, Rl K H m v d ∧ okD d ∧ sz d ≤ b ∧ d.depth ≤ k
def Itms (K : PySem.W.Frag) (b k : Nat) (m : Bool) (H : Hp) (vs : List V) : Prop := ∀ v ∈ vs, Itm K b k m H v
section
variable {K : PySem.W.Frag} {b k : Nat} {m : Bool} {H H' : Hp} {v : V} {vs ws : List V}
theorem Itm.mono (h : Itm K b k m H v) (e : Same H H') : Itm K b k m H' v := by
  obtain ⟨d, h1, h2⟩ := h
  cases m with
  | true => exact ⟨d, dp_mono e d v h1, h2⟩
  | false => exact ⟨d, rt_mono e d v h1, h2⟩
theorem Itm.more {b' k' : Nat} (h : Itm K b k m H v) (hb : b ≤ b') (hk : k ≤ k') : Itm K b' k' m H v := by
  obtain ⟨d, h1, h2, h3, h4⟩ := h
  exact ⟨d, h1, h2, by omega, by omega⟩
theorem Itm.gd (h : Itm K b k m H v) : ∃ d, Gd K H v d ∧ okD d ∧ sz d ≤ b ∧ d.depth ≤ k := by
  obtain ⟨d, h1, h2⟩ := h
  cases m with
  | true => exact ⟨d, .inl h1, h2⟩
  | false => exact ⟨d, .inr h1, h2⟩
theorem Itms.mono (h : Itms K b k m H vs) (e : Same H H') : Itms K b k m H' vs := fun v hv => (h v hv).mono e
theorem Itms.more {b' k' : Nat} (h : Itms K b k m H vs) (hb : b ≤ b') (hk : k ≤ k') : Itms K b' k' m H vs := fun v hv => (h v hv).more hb hk
theorem Itms.app (h : Itms K b k m H vs) (q : Itms K b k m H ws) : Itms K b k m H (vs ++ ws) := fun v hv => (List.mem_append.mp hv).elim (h v) (q v)
theorem Itms.one (h : Itm K b k m H v) : Itms K b k m H [v] := fun u hu => by
  rw [List.mem_singleton] at hu
  rw [hu]
  exact h
theorem Itms.nil : Itms K b k m H [] := fun u hu => by cases hu
theorem Itms.cons (h : Itm K b k m H v) (q : Itms K b k m H vs) : Itms K b k m H (v :: vs) := fun u hu => by
  rcases List.mem_cons.mp hu with e | e
  · rw [e]; exact h
  · exact q u e
theorem Itms.take (h : Itms K b k m H vs) (n : Nat) : Itms K b k m H (vs.take n) := fun u hu => h u (List.mem_of_mem_take hu)
theorem Itms.drop (h : Itms K b k m H vs) (n : Nat) : Itms K b k m H (vs.drop n) := fun u hu => h u (List.mem_of_mem_drop hu)
/-- the data of items as a list -/
theorem Itms.all : ∀ {vs : List V}, Itms K b k m H vs → ∃ ds, (match m with | true => DpAll K H vs ds | false => RtAll K H vs ds) ∧ okAll ds ∧ szAll ds ≤ vs.length * (b + 2) ∧ PyData.depthAll ds ≤ k
  | [], _ => ⟨[], by cases m; exact .nil; exact .nil, trivial, by show 0 ≤ _; omega, Nat.zero_le _⟩
  | v :: vs, h => by
    obtain ⟨d, h1, h2, h3, h4⟩ := h v List.mem_cons_self
    obtain ⟨ds, q1, q2, q3, q4⟩ := Itms.all fun u hu => h u (List.mem_cons_of_mem _ hu)
    refine ⟨d :: ds, ?_, ⟨h2, q2⟩, ?_, ?_⟩
    · cases m with
      | true => exact .cons h1 q1
      | false => exact .cons h1 q1
    · show sz d + 2 + szAll ds ≤ (vs.length + 1) * (b + 2)
      rw [Nat.succ_mul]
      omega
    · show max d.depth (PyData.depthAll ds) ≤ k
      omega
theorem Itms.tup {a : Addr} {b' : Nat} (h : Itms K b k m H vs) (ht : SqT K H a vs) (hb : vs.length * (b + 2) + 3 ≤ b') : Itm K b' (k + 1) m H (.ref a) := by
  obtain ⟨ds, q1, q2, q3, q4⟩ := h.all
  refine ⟨.tuple ds, ?_, q2, ?_, ?_⟩
  · cases m with
    | true => exact .tup ht q1
    | false => exact .tup ht q1
  · show szAll ds + 3 ≤ b'
    omega
  · show PyData.depthAll ds + 1 ≤ k + 1
    omega
theorem Itms.lst {a : Addr} {b' : Nat} (h : Itms K b k true H vs) (ht : SqL K H a vs) (hb : vs.length * (b + 2) + 3 ≤ b') : Itm K b' (k + 1) true H (.ref a) := by
  obtain ⟨ds, q1, q2, q3, q4⟩ := h.all
  refine ⟨.list ds, .lst ht q1, q2, ?_, ?_⟩
  · show szAll ds + 3 ≤ b'
    omega
  · show PyData.depthAll ds + 1 ≤ k + 1
    omega
theorem itm_str {x : Str} (h : ∀ c ∈ x.cps.toList, c < 1000) (hb : 10 * x.length + 2 ≤ b) : Itm K b k m H (.str x) := ⟨.str x, by cases m; exact .str x; exact .str x, h, hb, Nat.zero_le _⟩
theorem itm_lets {x : Str} (h : Lets x) (hb : 10 * x.length + 2 ≤ b) : Itm K b k m H (.str x) := itm_str (fun c hc => by have := h c hc; omega) hb
theorem itm_non (hb : 4 ≤ b) : Itm K b k m H .non := ⟨.none, by cases m; exact .non; exact .non, trivial, hb, Nat.zero_le _⟩
theorem itm_bl {x : Bool} (hb : 5 ≤ b) : Itm K b k m H (.bl x) := ⟨.bool x, by cases m; exact .bl x; exact .bl x, trivial, hb, Nat.zero_le _⟩
theorem itm_int {i : Int} (h0 : 0 ≤ i) (h1 : i ≤ 9) (hb : 1 ≤ b) : Itm K b k m H (.int i) := ⟨.int i, by cases m; exact .int i; exact .int i, ⟨h0, h1⟩, hb, Nat.zero_le _⟩
theorem itm_dict {a : Addr} (h : H a = some (.dK [])) (hb : 2 ≤ b) (hk : (PyData.dict []).depth ≤ k) : Itm K b k false H (.ref a) := ⟨.dict [], .emp h, rfl, hb, hk⟩
/-- words -/
theorem itms_words {xs : List Str} (h : ∀ x ∈ xs, Lets x ∧ x.length ≤ 200) : Itms K 2002 0 m H (xs.map V.str) := fun v hv => by
  obtain ⟨x, hx, rfl⟩ := List.mem_map.mp hv
  obtain ⟨h1, h2⟩ := h x hx
  exact itm_lets h1 (by omega)
end
/-! ### tuples, wherever they come to lie -/
section
variable {X : Cx}
def rCatN (K : PySem.W.Frag) : R2 := fun x y H Q => ∃ (a b : Addr) (xs ys : List V), x = .ref a ∧ y = .ref b ∧ SqT K H a xs ∧ SqT K H b ys ∧ xs.length + ys.length ≤ sizeLine ∧ ∀ q H', Same H H' → SqT K H' q (xs ++ ys) → Q (.ref q) H'
theorem op_catN : OpR X (binaryOp .Add) (rCatN X.K) := by
  intro pins s σ H x y v u Q I rx ry h
  obtain ⟨a, b, xs, ys, ex, ey, ha, hb, hz, q⟩ := h
  refine op_catA pins s σ H x y v u Q I rx ry ⟨a, b, xs, ys, ex, ey, ha, hb, hz, fun e => ?_, fun _ e => ?_, fun _ _ p hp => ?_⟩
  · subst e
    exact q b H (Same.refl H) hb
  · subst e
    exact q a H (Same.refl H) (by rw [List.append_nil]; exact ha)
  · exact q p _ (same_new hp) (SqT.of upd_same)
def rSlN (K : PySem.W.Frag) : V → Option Int → Option Int → Hp → VK → Prop := fun x lo hi H Q => ∃ (a : Addr) (xs : List V), x = .ref a ∧ SqT K H a xs ∧ ∀ q H', Same H H' → SqT K H' q (cutV xs lo hi) → Q (.ref q) H'
theorem sl_tupN : SlR X (rSlN X.K) := by
  intro pins s σ H x v vl vu lo hi sl Q I rx hs pl pu h
  obtain ⟨a, xs, ex, ha, q⟩ := h
  refine sl_tupA pins s σ H x v vl vu lo hi sl Q I rx hs pl pu ⟨a, xs, ex, ha, fun e => ?_, fun _ p hp => ?_⟩
  · refine q a H (Same.refl H) ?_
    have e2 : cutV xs lo hi = xs := by
      unfold cutV
      rw [e.1, e.2, List.drop_zero, Nat.sub_zero, List.take_length]
    rw [e2]
    exact ha
  · exact q p _ (same_new hp) (SqT.of upd_same)
theorem cutV_to (xs : List V) (n : Nat) : cutV xs none (some (n : Int)) = xs.take n := by
  unfold cutV
  rw [HT.sIx_nat]
  show (xs.drop 0).take (min n xs.length - 0) = xs.take n
  rw [List.drop_zero, Nat.sub_zero]
  by_cases h : n ≤ xs.length
  · rw [Nat.min_eq_left h]
  · rw [Nat.min_eq_right (by omega), List.take_of_length_le (Nat.le_refl _), List.take_of_length_le (by omega)]
theorem cutV_from (xs : List V) (n : Nat) : cutV xs (some (n : Int)) none = xs.drop n := by
  unfold cutV
  rw [HT.sIx_nat]
  show (xs.drop (min n xs.length)).take (xs.length - min n xs.length) = xs.drop n
  by_cases h : n ≤ xs.length
  · rw [Nat.min_eq_left h]
    exact List.take_of_length_le (by rw [List.length_drop]; omega)
  · rw [Nat.min_eq_right (by omega), List.drop_of_length_le (Nat.le_refl _), List.drop_of_length_le (by omega)]
    simp
/-- tuple * int, the tuple not empty -/
def rRepB (K : PySem.W.Frag) : R2 := fun x y H Q => ∃ (l : Addr) (k : Int) (xs : List V), x = .ref l ∧ y = .int k ∧ SqT K H l xs ∧ xs ≠ [] ∧ 2 ≤ k ∧ k ≤ 4000 ∧ xs.length ≤ 1000 ∧ ∀ p, H p = none → Q (.ref p) (upd H p (.tup (List.replicate k.toNat xs).flatten))
theorem op_repB : OpR X (binaryOp .Mult) (rRepB X.K) := by
  intro pins s σ H x y v u Q I rx ry h
  obtain ⟨l, k, xs, rfl, rfl, hT, hne, h1, h2, hz, q⟩ := h
  cases rx
  obtain ⟨t, rfl⟩ := ry
  have z := I.tuple hT
  obtain ⟨its, r, ⟨⟨cls, dd, data, sl⟩, ho, hc, n, hd⟩, hs⟩ := z
  simp only at hc hd
  subst hc hd
  have len := r.length
  have many : k.toNat * xs.length ≤ 4000 * 1000 := Nat.mul_le_mul (by omega) hz
  have arr : its.toArray.size = xs.length := by rw [List.size_toArray, len]
  have pos : 0 < xs.length := List.length_pos_iff.mpr hne
  have noEmpty : its.toArray.isEmpty = false := by
    cases its with
    | nil =>
      rw [List.length_nil] at len
      omega
    | cons a b => rfl
  have prod : ((its.toArray.size : Nat) : Int) * k ≤ 4000000 := by
    rw [arr]
    have e : ((k.toNat * xs.length : Nat) : Int) = k * ((xs.length : Nat) : Int) := by
      rw [Int.natCast_mul, Int.toNat_of_nonneg (by omega)]
    rw [Int.mul_comm]
    omega
  have flat : (List.replicate k.toNat its).flatten.length ≤ sizeLine := by
    rw [lm_len_rep_flat, ← len, sizeLine_eq]
    omega
  have w0 : (decide (k < -(2 ^ 63)) || decide (k ≥ 2 ^ 63)) = false := by
    rw [Bool.or_eq_false_iff]
    exact ⟨decide_eq_false (by omega), decide_eq_false (by omega)⟩
  have w1 : (its.toArray.isEmpty || k == 1) = false := by
    rw [noEmpty]
    exact beq_eq_false_iff_ne.mpr (by omega)
  have w2 : (decide (k ≤ 0) || its.toArray.isEmpty) = false := by
    rw [noEmpty, decide_eq_false (by omega)]
    rfl
  have w4 : Builtin.Tuple.tupleTooMany (((its.toArray.size : Nat) : Int) * k) = false := by
    unfold Builtin.Tuple.tupleTooMany
    exact decide_eq_false (by rw [sizeLine_eq]; omega)
  have mul := tuple_mulW l its.toArray n dd sl k t w0 w1 w2 (by omega) w4 (by rw [size_rep, List.size_toArray]; exact flat)
  refine wpAny_binaryOp_repeat_ref (T := "tuple") (U := "int") (by decide) ⟨_, ho, rfl⟩
    (fun s2 => typeIs_int s2 k t) noFill_tuple_mul F.fills_int_mul
    F.slot_int_rmul repeat_tuple F.slot_int_index.lookup ?_
  refine call_meets F.slot_int_rmul (typeIs_int s k t) F.entry_int_rmul
    (F.args_int_rmul_2 _ _) (int_rmul_tuple k t l its.toArray n dd sl) ?_
  refine ⟨ho, rfl, ⟨_, ho, rfl⟩, ?_⟩
  refine call_meets F.slot_tuple_mul ⟨_, ho, rfl⟩ F.entry_tuple_mul
    (F.args_tuple_mul_2 _ _) mul ?_
  refine ⟨ho, ?_⟩
  rw [size_rep]
  have fresh := I.hok.fresh (Nat.le_refl s.heap.objs.size)
  refine ⟨.ref s.heap.objs.size, _, I.laid (t' := s.toks) (o := .tup (List.replicate k.toNat xs).flatten) (fun _ _ z => Heap.get?_push_of_some _ z) (Nat.le_refl _) ?_, rfl, q _ fresh⟩
  refine ⟨?_, _, r.rep k.toNat, IsTup.new _ _⟩
  rw [lm_len_rep_flat, sizeLine_eq]
  omega
end
end Bl
/-! Products of rows: their words, their number, how they lie in the heap. -/
namespace Bl
open PySem PySem.Spec PyProof.Rows L2 TL
theorem passX {P : Program} {w : World} {X : Cx} : Passes (L2.CX P w) X E0 := fun _ _ _ _ _ _ _ ⟨_, _, _, _, _, _, _, _, _, _, _, _, z⟩ => z.elim
/-! ### a comprehension with two walks -/
theorem lc_tup1 {K : PySem.W.Frag} {a : Addr} {xs : List V} {g : TG} {tt : TT} {te : TE} {vs : List Nat} {σ : L2.St} {H1 : Hp} {D : Addr} {Nx : Hp → Prop} (Pv : Nat → Hp → Prop) (h0 : Pv 0 H1) (hl : ∀ i H, i ≤ xs.length → Pv i H → SqT K H a xs)
    (hs : ∀ i x H, xs[i]? = some x → Pv i H → g x (wipe σ vs) H fun σ2 H2 => wipe σ2 vs = wipe σ vs ∧ tt σ2 H2 fun b H3 =>
      if b = true then te σ2 H3 fun y H4 => ∃ acc, H4 D = some (.lst acc) ∧ acc.length < sizeLine ∧ Pv (i + 1) (upd H4 D (.lst (acc ++ [y]))) else Pv (i + 1) H3) (hd : ∀ H, Pv xs.length H → Nx H) :
    ∃ W : Nat → Nat → Hp → Prop, (∃ m, W 0 m H1) ∧ ∀ i m H, W i m H →
      ((Itt K a).stop i H ∧ Nx H) ∨ ((Itt K a).go i H ∧ ∃ Nx1 : Hp → Prop, (∀ H', Nx1 H' → ∃ m', m' < m ∧ W (i + 1) m' H') ∧ ∀ x H', (Itt K a).yld i H x H' → g x (wipe σ vs) H' fun σ2 H2 => wipe σ2 vs = wipe σ vs ∧ tt σ2 H2 fun b H3 =>
        if b = true then te σ2 H3 fun y H4 => ∃ acc, H4 D = some (.lst acc) ∧ acc.length < sizeLine ∧ Nx1 (upd H4 D (.lst (acc ++ [y]))) else Nx1 H3) := by
  refine ⟨fun i m H => m = xs.length - i ∧ i ≤ xs.length ∧ Pv i H, ⟨xs.length, by simp, Nat.zero_le _, h0⟩, ?_⟩
  rintro i m H ⟨rfl, hi, p⟩
  have q := hl i H hi p
  by_cases hlt : i < xs.length
  · refine .inr ⟨⟨xs, xs[i], q, by simp [hlt]⟩, Pv (i + 1), fun H' p' => ⟨xs.length - (i + 1), by omega, rfl, hlt, p'⟩, fun x H' y => ?_⟩
    obtain ⟨e, y⟩ := y
    subst e
    exact hs i x _ (y xs q) p
  · have e : i = xs.length := by omega
    subst e
    exact .inl ⟨⟨xs, q, Nat.le_refl _⟩, hd H p⟩
/-- one row more behind -/
def addRow (ws r : List Str) : List Str := ws.flatMap fun w => r.map fun x => w ++ x
def prodW (rs : List (List Str)) : List Str := rs.foldl addRow [""]
def cnt (rs : List (List Str)) : Nat := rs.foldl (fun n r => n * r.length) 1
theorem addRow_len (ws r : List Str) : (addRow ws r).length = ws.length * r.length := by
  unfold addRow
  induction ws with
  | nil => simp
  | cons w ws ih =>
    rw [List.flatMap_cons, List.length_append, List.length_map, ih, List.length_cons, Nat.succ_mul]
    omega
theorem fold_len (rs : List (List Str)) : ∀ ws : List Str, (rs.foldl addRow ws).length = rs.foldl (fun n r => n * r.length) ws.length := by
  induction rs with
  | nil => intro ws; rfl
  | cons r rs ih =>
    intro ws
    rw [List.foldl_cons, List.foldl_cons, ih, addRow_len]
theorem prodW_len (rs : List (List Str)) : (prodW rs).length = cnt rs := fold_len rs [""]
theorem fold_mul (rs : List (List Str)) : ∀ n : Nat, rs.foldl (fun n r => n * r.length) n = n * cnt rs := by
  induction rs with
  | nil => intro n; exact (Nat.mul_one n).symm
  | cons r rs ih =>
    intro n
    unfold cnt
    rw [List.foldl_cons, List.foldl_cons, ih, ih (1 * r.length), Nat.one_mul, Nat.mul_assoc]
theorem cnt_app (a b : List (List Str)) : cnt (a ++ b) = cnt a * cnt b := by
  unfold cnt
  rw [List.foldl_append, fold_mul]
  rfl
theorem cnt_pos : ∀ {rs : List (List Str)}, (∀ r ∈ rs, 1 ≤ r.length) → 1 ≤ cnt rs
  | [], _ => Nat.le_refl _
  | r :: rs, h => by
    have e : cnt (r :: rs) = r.length * cnt rs := by
      have := cnt_app [r] rs
      rw [List.singleton_append] at this
      rw [this]
      show (1 * r.length) * cnt rs = _
      rw [Nat.one_mul]
    rw [e]
    exact Nat.mul_le_mul (h r List.mem_cons_self) (cnt_pos fun x hx => h x (List.mem_cons_of_mem _ hx))
theorem cnt_take {rs : List (List Str)} (h : ∀ r ∈ rs, 1 ≤ r.length) (i : Nat) : cnt (rs.take i) ≤ cnt rs := by
  have e := cnt_app (rs.take i) (rs.drop i)
  rw [List.take_append_drop] at e
  have p := cnt_pos (rs := rs.drop i) fun r hr => h r (List.mem_of_mem_drop hr)
  rw [e]
  exact Nat.le_mul_of_pos_right _ p
theorem cnt_more {rs : List (List Str)} {i : Nat} {r : List Str} (h : rs[i]? = some r) : cnt (rs.take (i + 1)) = cnt (rs.take i) * r.length := by
  rw [take_more h, cnt_app]
  show _ * (1 * r.length) = _
  rw [Nat.one_mul]
theorem prodW_more {rs : List (List Str)} {i : Nat} {r : List Str} (h : rs[i]? = some r) : prodW (rs.take (i + 1)) = addRow (prodW (rs.take i)) r := by
  unfold prodW
  rw [take_more h, List.foldl_append]
  rfl
/-- words of at most so many letters -/
def WdsOk (b : Nat) (ws : List Str) : Prop := ∀ x ∈ ws, Lets x ∧ x.length ≤ b
theorem addRow_ok {a b : Nat} {ws r : List Str} (h : WdsOk a ws) (k : WdsOk b r) : WdsOk (a + b) (addRow ws r) := fun x hx => by
  obtain ⟨w, hw, hx⟩ := List.mem_flatMap.mp hx
  obtain ⟨y, hy, rfl⟩ := List.mem_map.mp hx
  exact ⟨(h w hw).1.app (k y hy).1, by rw [len_app]; have := (h w hw).2; have := (k y hy).2; omega⟩
theorem fold_ok {b : Nat} : ∀ {rs : List (List Str)} {a : Nat} {ws : List Str}, WdsOk a ws → (∀ r ∈ rs, WdsOk b r) → WdsOk (a + rs.length * b) (rs.foldl addRow ws)
  | [], a, ws, h, _ => by simpa using h
  | r :: rs, a, ws, h, k => by
    have z := fold_ok (rs := rs) (a := a + b) (addRow_ok h (k r List.mem_cons_self)) fun x hx => k x (List.mem_cons_of_mem _ hx)
    rw [List.foldl_cons]
    have e : a + (r :: rs).length * b = a + b + rs.length * b := by
      rw [List.length_cons, Nat.succ_mul]
      omega
    rw [e]
    exact z
theorem one_ok : WdsOk 0 [""] := fun x hx => by
  rw [List.mem_singleton] at hx
  rw [hx]
  exact ⟨Lets.nil, by decide +kernel⟩
theorem prodW_ok {b : Nat} {rs : List (List Str)} (h : ∀ r ∈ rs, WdsOk b r) : WdsOk (rs.length * b) (prodW rs) := by
  have z := fold_ok one_ok h
  rwa [Nat.zero_add] at z
/-! ### in the heap -/
def RowAt (K : PySem.W.Frag) (H : Hp) (v : V) (ws : List Str) : Prop := ∃ p : Addr, v = .ref p ∧ SqT K H p (ws.map V.str)
inductive RowsAt (K : PySem.W.Frag) (H : Hp) : List V → List (List Str) → Prop
  | nil : RowsAt K H [] []
  | cons {v : V} {ws : List Str} {vs : List V} {rs : List (List Str)} : RowAt K H v ws → RowsAt K H vs rs → RowsAt K H (v :: vs) (ws :: rs)
section
variable {K : PySem.W.Frag} {H H' : Hp} {v : V} {vs us : List V} {ws : List Str} {rs ss : List (List Str)}
theorem RowAt.mono (h : RowAt K H v ws) (e : Same H H') : RowAt K H' v ws := let ⟨p, h1, h2⟩ := h; ⟨p, h1, same_t e h2⟩
theorem RowsAt.mono (h : RowsAt K H vs rs) (e : Same H H') : RowsAt K H' vs rs := by
  induction h with
  | nil => exact .nil
  | cons a _ ih => exact .cons (a.mono e) ih
theorem RowsAt.len (h : RowsAt K H vs rs) : vs.length = rs.length := by
  induction h with
  | nil => rfl
  | cons a _ ih => rw [List.length_cons, List.length_cons, ih]
theorem RowsAt.app (h : RowsAt K H vs rs) (k : RowsAt K H us ss) : RowsAt K H (vs ++ us) (rs ++ ss) := by
  induction h with
  | nil => exact k
  | cons a _ ih => exact .cons a ih
theorem RowsAt.at (h : RowsAt K H vs rs) : ∀ {i : Nat} {v : V}, vs[i]? = some v → ∃ ws, rs[i]? = some ws ∧ RowAt K H v ws := by
  induction h with
  | nil => intro i v e; cases i <;> cases e
  | cons a _ ih =>
    intro i v e
    cases i with
    | zero => cases e; exact ⟨_, rfl, a⟩
    | succ i => exact ih e
theorem RowsAt.get (h : RowsAt K H vs rs) : ∀ {i : Nat} {ws : List Str}, rs[i]? = some ws → ∃ v, vs[i]? = some v ∧ RowAt K H v ws := by
  induction h with
  | nil => intro i v e; cases i <;> cases e
  | cons a _ ih =>
    intro i v e
    cases i with
    | zero => cases e; exact ⟨_, rfl, a⟩
    | succ i => exact ih e
theorem RowsAt.take (h : RowsAt K H vs rs) : ∀ n, RowsAt K H (vs.take n) (rs.take n) := by
  induction h with
  | nil => intro n; cases n <;> exact .nil
  | cons a _ ih =>
    intro n
    cases n with
    | zero => exact .nil
    | succ n => exact .cons a (ih n)
theorem RowsAt.drop (h : RowsAt K H vs rs) : ∀ n, RowsAt K H (vs.drop n) (rs.drop n) := by
  induction h with
  | nil => intro n; cases n <;> exact .nil
  | cons a b ih =>
    intro n
    cases n with
    | zero => exact .cons a b
    | succ n => exact ih n
end
theorem mem_sum : ∀ {rs : List (List Str)} {r : List Str}, r ∈ rs → r.length ≤ (rs.map List.length).sum
  | [], _, h => by cases h
  | q :: rs, r, h => by
    rw [List.map_cons, List.sum_cons]
    rcases List.mem_cons.mp h with e | e
    · rw [e]; omega
    · have := mem_sum e
      omega
/-- what bounds a product: rows with words, letters, not too many in all -/
def wt (r : List Str) : Nat := szAll (r.map PyData.str)
def weight (rs : List (List Str)) : Nat := (rs.map wt).sum
structure Fit (rs : List (List Str)) : Prop where
  len : 1 ≤ rs.length ∧ rs.length ≤ 100
  row : ∀ r ∈ rs, 1 ≤ r.length ∧ WdsOk 4000 r
  sum : (rs.map List.length).sum ≤ 3000
  wt : weight rs ≤ 15000000
theorem sl_big {n : Nat} (h : n ≤ 10000000) : n ≤ sizeLine := Nat.le_trans h (by rw [sizeLine_eq]; decide)
theorem wt_mem : ∀ {rs : List (List Str)} {r : List Str}, r ∈ rs → wt r ≤ weight rs
  | [], _, h => by cases h
  | q :: rs, r, h => by
    have e : weight (q :: rs) = Bl.wt q + weight rs := by
      unfold weight
      rw [List.map_cons, List.sum_cons]
    rw [e]
    rcases List.mem_cons.mp h with e | e
    · rw [e]; omega
    · have := wt_mem e
      omega
theorem wds_dp {K : PySem.W.Frag} {H : Hp} : ∀ ws : List Str, DpAll K H (ws.map V.str) (ws.map PyData.str)
  | [] => .nil
  | x :: r => .cons (.str x) (wds_dp r)
theorem wds_sz {b : Nat} : ∀ ws : List Str, WdsOk b ws → szAll (ws.map PyData.str) ≤ ws.length * (10 * b + 4)
  | [], _ => Nat.zero_le _
  | x :: r, h => by
    have ih := wds_sz r fun y hy => h y (List.mem_cons_of_mem _ hy)
    have hx := (h x List.mem_cons_self).2
    show 10 * x.length + 2 + 2 + szAll (r.map PyData.str) ≤ (r.length + 1) * (10 * b + 4)
    have e : (r.length + 1) * (10 * b + 4) = r.length * (10 * b + 4) + (10 * b + 4) := Nat.succ_mul _ _
    omega
theorem wds_row {b : Nat} {ws : List Str} (h : WdsOk b ws) (h1 : 1 ≤ ws.length) : rowD (.tuple (ws.map PyData.str)) = true := by
  have e : rowD (.tuple (ws.map PyData.str)) = (!(ws.map PyData.str).isEmpty && (ws.map PyData.str).all wordD) := rfl
  rw [e, Bool.and_eq_true]
  constructor
  · cases ws with
    | nil => simp at h1
    | cons x r => rfl
  · rw [List.all_eq_true]
    intro d hd
    obtain ⟨x, hx, rfl⟩ := List.mem_map.mp hd
    exact word_iff.mpr (h x hx).1
theorem weight_le {b : Nat} : ∀ {rs : List (List Str)}, (∀ r ∈ rs, WdsOk b r) → weight rs ≤ (rs.map List.length).sum * (10 * b + 4)
  | [], _ => Nat.zero_le _
  | r :: rs, h => by
    have ih := weight_le (rs := rs) fun q hq => h q (List.mem_cons_of_mem _ hq)
    have z := wds_sz r (h r List.mem_cons_self)
    unfold weight
    rw [List.map_cons, List.sum_cons, List.map_cons, List.sum_cons, Nat.add_mul]
    exact Nat.add_le_add z ih
theorem row_gd {K : PySem.W.Frag} {H : Hp} {v : V} {ws : List Str} (h : RowAt K H v ws) (h1 : 1 ≤ ws.length) (h2 : WdsOk 4000 ws) (h3 : wt ws ≤ 15000000) : ∃ d, Gd K H v d ∧ sz d ≤ 16000000 ∧ rowD d = true := by
  obtain ⟨p, rfl, hp⟩ := h
  refine ⟨_, .inl (.tup hp (wds_dp ws)), ?_, wds_row h2 h1⟩
  show wt ws + 3 ≤ 16000000
  omega
theorem rows_gd {K : PySem.W.Frag} {H : Hp} {vs : List V} {rs : List (List Str)} (h : RowsAt K H vs rs) (hr : ∀ r ∈ rs, 1 ≤ r.length ∧ WdsOk 4000 r) : ∃ ds, DpAll K H vs ds ∧ ds.all rowD = true ∧ ds.length = rs.length ∧ szAll ds ≤ weight rs + rs.length * 5 := by
  induction h with
  | nil => exact ⟨[], .nil, rfl, rfl, Nat.zero_le _⟩
  | @cons v ws vs rs a _ ih =>
    obtain ⟨ds, q1, q2, q3, q4⟩ := ih fun r hr' => hr r (List.mem_cons_of_mem _ hr')
    obtain ⟨p, rfl, hp⟩ := a
    obtain ⟨h1, h2⟩ := hr ws List.mem_cons_self
    refine ⟨.tuple (ws.map PyData.str) :: ds, .cons (.tup hp (wds_dp ws)) q1, ?_, ?_, ?_⟩
    · rw [List.all_cons, q2, wds_row h2 h1]
      rfl
    · rw [List.length_cons, List.length_cons, q3]
    · show wt ws + 3 + 2 + szAll ds ≤ (wt ws + weight rs) + (rs.length + 1) * 5
      omega
theorem prod_gd {K : PySem.W.Frag} {H : Hp} {a : Addr} {vs : List V} {rs : List (List Str)} (ha : SqT K H a vs) (h : RowsAt K H vs rs) (f : Fit rs) : ∃ d, Gd K H (.ref a) d ∧ sz d ≤ 16000000 ∧ prodD d = true := by
  obtain ⟨ds, q1, q2, q3, q4⟩ := rows_gd h f.row
  have l := f.len
  have s := f.wt
  refine ⟨.tuple ds, .inl (.tup ha q1), ?_, ?_⟩
  · show szAll ds + 3 ≤ 16000000
    omega
  · have e2 : prodD (.tuple ds) = (!ds.isEmpty && ds.all rowD) := rfl
    rw [e2, q2, Bool.and_true]
    cases ds with
    | nil =>
      rw [List.length_nil] at q3
      omega
    | cons x r => rfl
end Bl
/-! The heap but for one object. -/
namespace Bl
open PySem PySem.Spec PyProof.Rows L2 TL
def mask (t : Addr) (H : Hp) : Hp := fun b => if b = t then none else H b
theorem mask_same (t : Addr) (H : Hp) : Same (mask t H) H := fun b o e => by
  unfold mask at e
  by_cases h : b = t
  · rw [if_pos h] at e
    cases e
  · rw [if_neg h] at e
    exact e
theorem mask_but {t : Addr} {H H' : Hp} (e : But t H H') : Same (mask t H) (mask t H') := fun b o q => by
  unfold mask at q ⊢
  by_cases h : b = t
  · rw [if_pos h] at q
    cases q
  · rw [if_neg h] at q ⊢
    exact e b o h q
theorem mask_at {t p : Addr} {H : Hp} {o : HO} (h : p ≠ t) (e : H p = some o) : mask t H p = some o := by
  unfold mask
  rw [if_neg h]
  exact e
theorem mask_t {K : PySem.W.Frag} {t q : Addr} {H : Hp} {n : Nat} {zs : List V} (hT : Tray H t n) (h : SqT K H q zs) : SqT K (mask t H) q zs := by
  obtain ⟨_, _, _, z, _⟩ := hT
  rcases h with h | h
  · rcases h with h | ⟨o, h⟩
    · refine .inl (.inl (mask_at ?_ h))
      rintro rfl
      rw [z] at h
      cases h
    · refine .inl (.inr ⟨o, mask_at ?_ h⟩)
      rintro rfl
      rw [z] at h
      cases h
  · exact .inr h
theorem tray_same {t : Addr} {n : Nat} {H H' : Hp} (h : Tray H t n) (e : Same H H') : Tray H' t n := by
  obtain ⟨a, b, c, h1, h2⟩ := h
  exact ⟨a, b, c, e t _ h1, h2⟩
theorem but_of {t : Addr} {H H' : Hp} (e : Same H H') : But t H H' := fun b o _ h => e b o h
theorem but_mask {t D : Addr} {H H' : Hp} (e : But D H H') : But D (mask t H) (mask t H') := fun b o n h => by
  unfold mask at h ⊢
  by_cases z : b = t
  · rw [if_pos z] at h
    cases h
  · rw [if_neg z] at h ⊢
    exact e b o n h
theorem mask_l {K : PySem.W.Frag} {D q : Addr} {H : Hp} {xs zs : List V} (hD : H D = some (.lst xs)) (h : SqT K H q zs) : SqT K (mask D H) q zs := by
  rcases h with h | h
  · rcases h with h | ⟨o, h⟩
    · refine .inl (.inl (mask_at ?_ h))
      rintro rfl
      rw [hD] at h
      cases h
    · refine .inl (.inr ⟨o, mask_at ?_ h⟩)
      rintro rfl
      rw [hD] at h
      cases h
  · exact .inr h
theorem sqt_upd {K : PySem.W.Frag} {D q : Addr} {H : Hp} {xs ys zs : List V} (hD : H D = some (.lst xs)) (h : SqT K H q zs) : SqT K (upd H D (.lst ys)) q zs := by
  rcases h with h | h
  · rcases h with h | ⟨o, h⟩
    · refine .inl (.inl ?_)
      rw [upd_ne]
      · exact h
      rintro rfl
      rw [hD] at h
      cases h
    · refine .inl (.inr ⟨o, ?_⟩)
      rw [upd_ne]
      · exact h
      rintro rfl
      rw [hD] at h
      cases h
  · exact .inr h
/-- one more row behind the rows of a list at D -/
theorem rows_snoc {K : PySem.W.Frag} {t D q : Addr} {H H' : Hp} {n : Nat} {rows : List V} {rs : List (List Str)} {ws : List Str} (hR : RowsAt K (mask D (mask t H)) rows rs) (B : But t H H') (nD : D ≠ t) (hD : H' D = some (.lst rows)) (hT : Tray H' t n) (hq : SqT K H' q (ws.map V.str)) :
    RowsAt K (mask D (mask t (upd H' D (.lst (rows ++ [.ref q]))))) (rows ++ [.ref q]) (rs ++ [ws]) := by
  have M : Same (mask D (mask t H)) (mask D (mask t (upd H' D (.lst (rows ++ [.ref q]))))) := (mask_but (but_of (mask_but B))).trans (mask_but (but_mask But.set))
  refine (hR.mono M).app (.cons ⟨q, rfl, ?_⟩ .nil)
  exact mask_l (mask_at nD upd_same) (mask_t (hT.of (upd_ne nD.symm)) (sqt_upd hD hq))
theorem at_last {xs : List V} {v : V} : atI (xs ++ [v]) (-1) = some v := by
  have e : ixN (xs ++ [v]).length (-1) = some xs.length := by
    unfold ixN
    rw [if_neg (by decide), if_pos (by rw [List.length_append]; show -((xs.length + 1 : Nat) : Int) ≤ -1; omega)]
    congr 1
    rw [List.length_append]
    show (-1 + ((xs.length + 1 : Nat) : Int)).toNat = xs.length
    omega
  unfold atI
  rw [e]
  show (xs ++ [v])[xs.length]? = some v
  rw [List.getElem?_append_right (Nat.le_refl _), Nat.sub_self]
  rfl
end Bl
/-! Lists and tuples of words: how long their text is, that they are equal to themselves. -/
namespace Bl
open PySem PySem.Spec PyProof.Rows L2 TL
theorem chr34 : ∀ k < 26, (Builtin.Str.reprChar 34 (97 + k)).length = 1 := by decide +kernel
theorem chr39 : ∀ k < 26, (Builtin.Str.reprChar 39 (97 + k)).length = 1 := by decide +kernel
theorem chr_len {q c : Nat} (hq : q = 34 ∨ q = 39) (h : 97 ≤ c ∧ c ≤ 122) : (Builtin.Str.reprChar q c).length = 1 := by
  have e : c = 97 + (c - 97) := by omega
  rw [e]
  rcases hq with rfl | rfl
  · exact chr34 _ (by omega)
  · exact chr39 _ (by omega)
theorem fold_chr {q : Nat} (hq : q = 34 ∨ q = 39) : ∀ (l : List Nat) (n : Nat), (∀ c ∈ l, 97 ≤ c ∧ c ≤ 122) → l.foldl (fun n c => n + (Builtin.Str.reprChar q c).length) n = n + l.length
  | [], n, _ => rfl
  | c :: r, n, h => by
    rw [List.foldl_cons, chr_len hq (h c List.mem_cons_self), fold_chr hq r (n + 1) fun d hd => h d (List.mem_cons_of_mem _ hd), List.length_cons]
    omega
theorem lets_repr {x : Str} (h : Lets x) : (reprText x).length = x.length + 2 := by
  have hq : reprQuote x = 34 ∨ reprQuote x = 39 := by
    unfold reprQuote
    split
    · exact .inl rfl
    · exact .inr rfl
  rw [← reprLen_eq, ← Array.foldl_toList, fold_chr hq _ _ h]
  show 2 + x.cps.toList.length = x.cps.size + 2
  rw [Array.length_toList]
  omega
theorem strOk_lets {x : Str} (h : Lets x) : PyData.strOk x = true := by
  unfold PyData.strOk
  rw [← Array.all_toList, List.all_eq_true]
  intro c hc
  have := h c hc
  exact decide_eq_true (by omega)
mutual
def szP : PyData → Nat
  | .str x => x.length + 2
  | .list ds => szPs ds + 3
  | .tuple ds => szPs ds + 3
  | _ => 0
def szPs : List PyData → Nat
  | [] => 0
  | d :: ds => szP d + 2 + szPs ds
end
mutual
def okP : PyData → Prop
  | .str x => Lets x
  | .list ds => okPs ds
  | .tuple ds => okPs ds
  | _ => False
def okPs : List PyData → Prop
  | [] => True
  | d :: ds => okP d ∧ okPs ds
end
mutual
theorem showP : ∀ d : PyData, okP d → d.shown.length ≤ szP d ∧ d.showable = true ∧ d.canLay0 = true
  | .str x, h => ⟨Nat.le_of_eq (lets_repr h), rfl, strOk_lets h⟩
  | .list ds, h => by
    obtain ⟨h1, h2, h3⟩ := showPs ds h
    have q := listText_len_le (PyData.shownAll ds)
    refine ⟨?_, h2, h3⟩
    show (listText (PyData.shownAll ds)).length ≤ szPs ds + 3
    omega
  | .tuple ds, h => by
    obtain ⟨h1, h2, h3⟩ := showPs ds h
    have q := tupleText_len_le (PyData.shownAll ds)
    refine ⟨?_, h2, h3⟩
    show (tupleText (PyData.shownAll ds)).length ≤ szPs ds + 3
    omega
  | .none, h => h.elim
  | .bool _, h => h.elim
  | .int _, h => h.elim
  | .dict _, h => h.elim
theorem showPs : ∀ ds : List PyData, okPs ds → ((PyData.shownAll ds).map (·.length)).sum + 2 * (PyData.shownAll ds).length ≤ szPs ds ∧ PyData.showableAll ds = true ∧ PyData.canLayAll0 ds = true
  | [], _ => ⟨Nat.le_refl _, rfl, rfl⟩
  | d :: ds, h => by
    obtain ⟨h1, h2⟩ : okP d ∧ okPs ds := h
    obtain ⟨a1, a2, a3⟩ := showP d h1
    obtain ⟨b1, b2, b3⟩ := showPs ds h2
    refine ⟨?_, ?_, ?_⟩
    · show ((d.shown :: PyData.shownAll ds).map (·.length)).sum + 2 * (d.shown :: PyData.shownAll ds).length ≤ szP d + 2 + szPs ds
      rw [List.map_cons, List.sum_cons, List.length_cons]
      omega
    · show (d.showable && PyData.showableAll ds) = true
      rw [a2, b2]
      rfl
    · show (d.canLay0 && PyData.canLayAll0 ds) = true
      rw [a3, b3]
      rfl
end
theorem selfP {d : PyData} (h : okP d) (h2 : d.depth ≤ 64) : SeqAt.shaped d = true ∧ PyData.eqv d d = true := by
  obtain ⟨_, _, a3⟩ := showP d h
  refine ⟨?_, SeqAt.eqv_refl d a3⟩
  unfold SeqAt.shaped
  rw [a3, decide_eq_true h2]
  rfl
/-- a row of words as data -/
def rowT (ws : List Str) : PyData := .tuple (ws.map PyData.str)
theorem wds_okP {b : Nat} : ∀ {ws : List Str}, WdsOk b ws → okPs (ws.map PyData.str)
  | [], _ => trivial
  | x :: r, h => ⟨(h x List.mem_cons_self).1, wds_okP fun y hy => h y (List.mem_cons_of_mem _ hy)⟩
theorem wds_szP {b : Nat} : ∀ {ws : List Str}, WdsOk b ws → szPs (ws.map PyData.str) ≤ ws.length * (b + 4)
  | [], _ => Nat.zero_le _
  | x :: r, h => by
    have ih := wds_szP (ws := r) fun y hy => h y (List.mem_cons_of_mem _ hy)
    have hx := (h x List.mem_cons_self).2
    show x.length + 2 + 2 + szPs (r.map PyData.str) ≤ (r.length + 1) * (b + 4)
    have e : (r.length + 1) * (b + 4) = r.length * (b + 4) + (b + 4) := Nat.succ_mul _ _
    omega
theorem wds_depth : ∀ ws : List Str, PyData.depthAll (ws.map PyData.str) ≤ 0
  | [] => Nat.le_refl _
  | x :: r => by
    have ih := wds_depth r
    show max 0 (PyData.depthAll (r.map PyData.str)) ≤ 0
    omega
theorem rowT_okP {b : Nat} {ws : List Str} (h : WdsOk b ws) : okP (rowT ws) ∧ szP (rowT ws) ≤ ws.length * (b + 4) + 3 ∧ (rowT ws).depth ≤ 1 := by
  have z := wds_szP h
  have dp := wds_depth ws
  refine ⟨wds_okP h, ?_, ?_⟩
  · show szPs (ws.map PyData.str) + 3 ≤ _
    omega
  · show PyData.depthAll (ws.map PyData.str) + 1 ≤ 1
    omega
theorem rowT_dp {K : PySem.W.Frag} {H : Hp} {p : Addr} {ws : List Str} (h : SqT K H p (ws.map V.str)) : Dp K H (.ref p) (rowT ws) := .tup h (wds_dp ws)
/-- products as data -/
theorem rows_P {K : PySem.W.Frag} {H : Hp} {b : Nat} {vs : List V} {rs : List (List Str)} (h : RowsAt K H vs rs) (hr : ∀ r ∈ rs, WdsOk b r) : DpAll K H vs (rs.map rowT) ∧ okPs (rs.map rowT) ∧ szPs (rs.map rowT) ≤ (rs.map List.length).sum * (b + 4) + rs.length * 5 ∧ PyData.depthAll (rs.map rowT) ≤ 1 := by
  induction h with
  | nil => exact ⟨.nil, trivial, Nat.zero_le _, Nat.zero_le _⟩
  | @cons v ws vs rs a _ ih =>
    obtain ⟨q1, q2, q3, q4⟩ := ih fun r hr' => hr r (List.mem_cons_of_mem _ hr')
    obtain ⟨p, rfl, hp⟩ := a
    obtain ⟨o1, o2, o3⟩ := rowT_okP (hr ws List.mem_cons_self)
    refine ⟨.cons (rowT_dp hp) q1, ⟨o1, q2⟩, ?_, ?_⟩
    · show szP (rowT ws) + 2 + szPs (rs.map rowT) ≤ (ws.length + (rs.map List.length).sum) * (b + 4) + (rs.length + 1) * 5
      rw [Nat.add_mul]
      omega
    · show max (rowT ws).depth (PyData.depthAll (rs.map rowT)) ≤ 1
      omega
section
variable {X : Cx}
/-- repr of lists and tuples of words -/
def rReprP (K : PySem.W.Frag) : List V → Hp → VK → Prop := fun xs H Q => ∃ (a : Addr) (d : PyData), xs = [.ref a] ∧ Dp K H (.ref a) d ∧ okP d ∧ szP d ≤ 16000000 ∧ d.depth ≤ 40 ∧ Q (.str d.shown) H
theorem call_reprP (hg : X.A.guards = some []) (hu : X.A.units + 64 < cLine) : CallR X (.builtin "repr") (rReprP X.K) := by
  intro pins s σ H xs us Q I r h
  obtain ⟨a, d, rfl, hd, ok, hz, hdp, q⟩ := h
  obtain ⟨u, rfl, ru⟩ := vals1 r
  obtain ⟨l1, l2, _⟩ := showP d ok
  have hl : d.shown.length ≤ sizeLine := by
    rw [sizeLine_eq]
    omega
  obtain ⟨as, rd⟩ := Dp.reads I d (.ref a) u hd ru
  cases ru
  refine repr_of_reads' rd l2 (PyData.noDict_hsm (dp_hasNo d _ hd)) hg (by omega) (fun _ _ z => z) (fun h' w tk k => ?_) hl
  exact ⟨.str d.shown, H, I.kept (t' := tk) k, ⟨_, rfl⟩, q⟩
end
end Bl
set_option maxHeartbeats 4000000
/-! A tuple times one is the tuple itself. -/
namespace Bl
open PySem PySem.Spec PyProof.Rows L2 TL
theorem tuple_mul1 (l : Addr) (items : Array Value) (n : Nat) (dd : Option Addr) (sl : Array (Option Value)) (x : Int) (u : Tok) (c0 : (decide (x < -(2 ^ 63)) || decide (x ≥ 2 ^ 63)) = false) (c1 : (items.isEmpty || x == 1) = true) :
    Meets (Builtin.«tuple.__mul__» ⟨[.ref l, .int x u], []⟩) (fun _ R s => s.heap.get? l = some { cls := .type "tuple", dict := dd, data := .seq items n, slots := sl } ∧ R (.ok (.ret (Value.ref l))) s) :=
  .of_wp fun prog w A R s h => by
    obtain ⟨hp, g, d, tk, os⟩ := s
    obtain ⟨hl, h⟩ := h
    have f1 := AutoSeq1.idx_int
    wp_walk using wpAny_loadPart' hl
    repeat (first
      | (refine wpAny_ite_false (decide_eq_false (by rw [c0]; exact Bool.false_ne_true)) ?_; wp_walk using wpAny_loadPart' hl)
      | (refine wpAny_ite_true (decide_eq_true (by rw [c1])) ?_; wp_walk using wpAny_loadPart' hl))
    exact ⟨_, rfl, h⟩
section
variable {X : Cx}
/-- tuple * int, wherever the new tuple comes to lie -/
def rRepN (K : PySem.W.Frag) : R2 := fun x y H Q => ∃ (l : Addr) (k : Int) (xs : List V), x = .ref l ∧ y = .int k ∧ SqT K H l xs ∧ xs ≠ [] ∧ 1 ≤ k ∧ k ≤ 4000 ∧ xs.length ≤ 1000 ∧ ∀ q H', Same H H' → SqT K H' q (List.replicate k.toNat xs).flatten → Q (.ref q) H'
theorem op_repN : OpR X (binaryOp .Mult) (rRepN X.K) := by
  intro pins s σ H x y v u Q I rx ry h
  obtain ⟨l, k, xs, rfl, rfl, hT, hne, h1, h2, hz, q⟩ := h
  by_cases hk : k = 1
  · subst hk
    cases rx
    obtain ⟨t, rfl⟩ := ry
    have z := I.tuple hT
    obtain ⟨its, r, ⟨⟨cls, dd, data, sl⟩, ho, hc, n, hd⟩, hs⟩ := z
    simp only at hc hd
    subst hc hd
    have w0 : (decide ((1 : Int) < -(2 ^ 63)) || decide ((1 : Int) ≥ 2 ^ 63)) = false := by decide
    have w1 : (its.toArray.isEmpty || (1 : Int) == 1) = true := by simp
    refine wpAny_binaryOp_repeat_ref (T := "tuple") (U := "int") (by decide) ⟨_, ho, rfl⟩
      (fun s2 => typeIs_int s2 1 t) noFill_tuple_mul F.fills_int_mul
      F.slot_int_rmul repeat_tuple F.slot_int_index.lookup ?_
    refine call_meets F.slot_int_rmul (typeIs_int s 1 t) F.entry_int_rmul
      (F.args_int_rmul_2 _ _) (int_rmul_tuple 1 t l its.toArray n dd sl) ?_
    refine ⟨ho, rfl, ⟨_, ho, rfl⟩, ?_⟩
    refine call_meets F.slot_tuple_mul ⟨_, ho, rfl⟩ F.entry_tuple_mul
      (F.args_tuple_mul_2 _ _) (tuple_mul1 l its.toArray n dd sl 1 t w0 w1) ?_
    refine ⟨ho, ?_⟩
    refine ⟨.ref l, H, I, rfl, q l H (Same.refl H) ?_⟩
    have e : (List.replicate (1 : Int).toNat xs).flatten = xs := by
      show (List.replicate 1 xs).flatten = xs
      simp
    rw [e]
    exact hT
  · exact op_repB pins s σ H _ _ v u Q I rx ry ⟨l, k, xs, rfl, rfl, hT, hne, by omega, h2, hz, fun p hp => q p _ (same_new hp) (SqT.of upd_same)⟩
end
end Bl
/-! A layer of data over the hand layer: slots hold data (or a list that is this def's own), no heap is seen. -/
namespace Dl
open PySem PySem.Spec PyProof.Rows L2 TL Bl

/-! ### data at a value -/
def keyD : Key → PyData
  | .inl i => .int i
  | .inr x => .str x
mutual
inductive Rp (K : PySem.W.Frag) (H : Hp) : V → PyData → Prop
  | non : Rp K H .non .none
  | bl (b : Bool) : Rp K H (.bl b) (.bool b)
  | int (i : Int) : Rp K H (.int i) (.int i)
  | str (x : Str) : Rp K H (.str x) (.str x)
  | lst {a : Addr} {xs : List V} {ds : List PyData} : H a = some (.lst xs) → RpAll K H xs ds → Rp K H (.ref a) (.list ds)
  | tup {a : Addr} {xs : List V} {ds : List PyData} : SqT K H a xs → RpAll K H xs ds → Rp K H (.ref a) (.tuple ds)
  | dic {a : Addr} {kvs : List (Key × V)} {ds : List (PyData × PyData)} : H a = some (.dK kvs) → RpK K H kvs ds → Rp K H (.ref a) (.dict ds)
inductive RpAll (K : PySem.W.Frag) (H : Hp) : List V → List PyData → Prop
  | nil : RpAll K H [] []
  | cons {v : V} {vs : List V} {d : PyData} {ds : List PyData} : Rp K H v d → RpAll K H vs ds → RpAll K H (v :: vs) (d :: ds)
inductive RpK (K : PySem.W.Frag) (H : Hp) : List (Key × V) → List (PyData × PyData) → Prop
  | nil : RpK K H [] []
  | cons {k : Key} {v : V} {kvs : List (Key × V)} {d : PyData} {ds : List (PyData × PyData)} : Rp K H v d → RpK K H kvs ds → RpK K H ((k, v) :: kvs) ((keyD k, d) :: ds)
end
section
variable {K : PySem.W.Frag} {H H' : Hp}
mutual
theorem Rp.mono (e : Same H H') : ∀ {v : V} {d : PyData}, Rp K H v d → Rp K H' v d
  | _, _, .non => .non
  | _, _, .bl b => .bl b
  | _, _, .int i => .int i
  | _, _, .str x => .str x
  | _, _, .lst h q => .lst (e _ _ h) (RpAll.mono e q)
  | _, _, .tup h q => .tup (same_t e h) (RpAll.mono e q)
  | _, _, .dic h q => .dic (e _ _ h) (RpK.mono e q)
theorem RpAll.mono (e : Same H H') : ∀ {vs : List V} {ds : List PyData}, RpAll K H vs ds → RpAll K H' vs ds
  | _, _, .nil => .nil
  | _, _, .cons h q => .cons (Rp.mono e h) (RpAll.mono e q)
theorem RpK.mono (e : Same H H') : ∀ {vs : List (Key × V)} {ds : List (PyData × PyData)}, RpK K H vs ds → RpK K H' vs ds
  | _, _, .nil => .nil
  | _, _, .cons h q => .cons (Rp.mono e h) (RpK.mono e q)
end
theorem RpAll.len : ∀ {vs : List V} {ds : List PyData}, RpAll K H vs ds → vs.length = ds.length
  | _, _, .nil => rfl
  | _, _, .cons _ q => by rw [List.length_cons, List.length_cons, RpAll.len q]
theorem RpAll.app : ∀ {vs ws : List V} {ds es : List PyData}, RpAll K H vs ds → RpAll K H ws es → RpAll K H (vs ++ ws) (ds ++ es)
  | _, _, _, _, .nil, r => r
  | _, _, _, _, .cons h q, r => .cons h (RpAll.app q r)
theorem RpAll.take : ∀ (n : Nat) {vs : List V} {ds : List PyData}, RpAll K H vs ds → RpAll K H (vs.take n) (ds.take n)
  | 0, _, _, _ => .nil
  | _ + 1, _, _, .nil => .nil
  | n + 1, _, _, .cons h q => .cons h (RpAll.take n q)
theorem RpAll.drop : ∀ (n : Nat) {vs : List V} {ds : List PyData}, RpAll K H vs ds → RpAll K H (vs.drop n) (ds.drop n)
  | 0, _, _, r => r
  | _ + 1, _, _, .nil => .nil
  | n + 1, _, _, .cons _ q => RpAll.drop n q
theorem RpAll.rev : ∀ {vs : List V} {ds : List PyData}, RpAll K H vs ds → RpAll K H vs.reverse ds.reverse
  | _, _, .nil => .nil
  | _, _, .cons h q => by
    rw [List.reverse_cons, List.reverse_cons]
    exact (RpAll.rev q).app (.cons h .nil)
theorem RpAll.at : ∀ {vs : List V} {ds : List PyData}, RpAll K H vs ds → ∀ {i : Nat} {v : V}, vs[i]? = some v → ∃ d, ds[i]? = some d ∧ Rp K H v d
  | _, _, .nil, i, v, h => by simp at h
  | _, _, .cons r q, 0, v, h => by
    simp at h
    subst h
    exact ⟨_, rfl, r⟩
  | _, _, .cons r q, i + 1, v, h => by
    obtain ⟨d, h1, h2⟩ := RpAll.at q (i := i) (v := v) (by simpa using h)
    exact ⟨d, by simpa using h1, h2⟩
theorem RpAll.to : ∀ {vs : List V} {ds : List PyData}, RpAll K H vs ds → ∀ {i : Nat} {d : PyData}, ds[i]? = some d → ∃ v, vs[i]? = some v ∧ Rp K H v d
  | _, _, .nil, i, v, h => by simp at h
  | _, _, .cons r q, 0, v, h => by
    simp at h
    subst h
    exact ⟨_, rfl, r⟩
  | _, _, .cons r q, i + 1, v, h => by
    obtain ⟨d, h1, h2⟩ := RpAll.to q (i := i) (d := v) (by simpa using h)
    exact ⟨d, by simpa using h1, h2⟩
theorem RpAll.set : ∀ {vs : List V} {ds : List PyData} {v : V} {d : PyData} (i : Nat), RpAll K H vs ds → Rp K H v d → RpAll K H (vs.set i v) (ds.set i d)
  | _, _, _, _, _, .nil, _ => .nil
  | _, _, _, _, 0, .cons _ q, r => .cons r q
  | _, _, _, _, i + 1, .cons h q, r => .cons h (RpAll.set i q r)
theorem RpAll.ints : ∀ {vs : List V} {is : List Int}, RpAll K H vs (is.map .int) → vs = is.map V.int
  | _, [], .nil => rfl
  | _, i :: is, .cons (.int _) q => by rw [List.map_cons, RpAll.ints q]
theorem RpAll.strs : ∀ {vs : List V} {is : List Str}, RpAll K H vs (is.map .str) → vs = is.map V.str
  | _, [], .nil => rfl
  | _, i :: is, .cons (.str _) q => by rw [List.map_cons, RpAll.strs q]
theorem RpAll.bls : ∀ {vs : List V} {is : List Bool}, RpAll K H vs (is.map .bool) → vs = is.map V.bl
  | _, [], .nil => rfl
  | _, i :: is, .cons (.bl _) q => by rw [List.map_cons, RpAll.bls q]
theorem rp_ints : ∀ (is : List Int), RpAll K H (is.map V.int) (is.map .int)
  | [] => .nil
  | i :: is => .cons (.int i) (rp_ints is)
theorem rp_strs : ∀ (is : List Str), RpAll K H (is.map V.str) (is.map .str)
  | [] => .nil
  | i :: is => .cons (.str i) (rp_strs is)
theorem RpAll.rep : ∀ (n : Nat) {vs : List V} {ds : List PyData}, RpAll K H vs ds → RpAll K H (List.replicate n vs).flatten (List.replicate n ds).flatten
  | 0, _, _, _ => .nil
  | n + 1, _, _, h => by
    rw [List.replicate_succ, List.replicate_succ, List.flatten_cons, List.flatten_cons]
    exact h.app (RpAll.rep n h)
end

/-! ### data without a dict; with empty dicts at most -/
mutual
def noDic : PyData → Bool
  | .list ds => noDics ds
  | .tuple ds => noDics ds
  | .dict _ => false
  | _ => true
def noDics : List PyData → Bool
  | [] => true
  | d :: ds => noDic d && noDics ds
end
mutual
def empDic : PyData → Bool
  | .list ds => empDics ds
  | .tuple ds => empDics ds
  | .dict kvs => kvs.isEmpty
  | _ => true
def empDics : List PyData → Bool
  | [] => true
  | d :: ds => empDic d && empDics ds
end
section
variable {K : PySem.W.Frag} {H : Hp}
mutual
theorem Rp.dp : ∀ {d : PyData} {v : V}, Rp K H v d → noDic d = true → Dp K H v d
  | _, _, .non, _ => .non
  | _, _, .bl b, _ => .bl b
  | _, _, .int i, _ => .int i
  | _, _, .str x, _ => .str x
  | _, _, .lst h q, n => .lst (SqL.of h) (RpAll.dp q n)
  | _, _, .tup h q, n => .tup h (RpAll.dp q n)
  | _, _, .dic _ _, n => by cases n
theorem RpAll.dp : ∀ {ds : List PyData} {vs : List V}, RpAll K H vs ds → noDics ds = true → DpAll K H vs ds
  | _, _, .nil, _ => .nil
  | _, _, .cons (d := d) (ds := ds) h q, n => by
    have n : (noDic d && noDics ds) = true := n
    rw [Bool.and_eq_true] at n
    exact .cons (Rp.dp h n.1) (RpAll.dp q n.2)
end
end
section
variable {X : Cx} {pins : List (Addr × Obj)} {σ : L2.St} {H : Hp} {s : Shared}
mutual
theorem Rp.reads (I : Inv X pins σ H s) : ∀ (d : PyData) (v : V) (u : Value), Rp X.K H v d → empDic d = true → RelV v u → ∃ as, Reads s.heap u d as
  | .none, _, _, h, _, r => by
    cases h; cases r
    exact ⟨_, .none⟩
  | .bool b, _, _, h, _, r => by
    cases h; cases r
    exact ⟨_, .bool b⟩
  | .int i, _, _, h, _, r => by
    cases h
    obtain ⟨t, rfl⟩ := r
    exact ⟨_, .int i t⟩
  | .str x, _, _, h, _, r => by
    cases h
    obtain ⟨t, rfl⟩ := r
    exact ⟨_, .str x t⟩
  | .list ds, _, _, h, n, r => by
    cases h with
    | lst hs ha =>
      cases r
      obtain ⟨its, rv, ⟨o, k, ho, hc, _, hd⟩, _⟩ := I.list (SqL.of hs)
      obtain ⟨as, hr⟩ := Rp.readsAll I ds _ its ha n rv
      exact ⟨_, Reads.list ho hc hd hr⟩
  | .tuple ds, _, _, h, n, r => by
    cases h with
    | tup hq ha =>
      cases r
      have z := I.tuple hq
      obtain ⟨its, rv, q, _⟩ := z
      obtain ⟨o, ho, hc, k, hd⟩ := q
      obtain ⟨as, hr⟩ := Rp.readsAll I ds _ its ha n rv
      exact ⟨_, .tuple ho hc hd hr⟩
  | .dict kvs, _, _, h, n, r => by
    cases h with
    | @dic a ks _ e q =>
      cases r
      have n : kvs.isEmpty = true := n
      cases kvs with
      | cons x y => cases n
      | nil =>
      cases q
      have z : ([] : List (Key × V)).length ≤ sizeLine ∧ (a == sysModules) = false ∧ ∃ vs, KV ([] : List (Key × V)) vs ∧ s.heap.DictOf (mixKind X.prog X.w) a vs := I.hok a _ e
      obtain ⟨_, hne, vs, kv, D⟩ := z
      cases kv
      obtain ⟨o, es, ep, e1, e2, e3, _, e4, _⟩ := D
      have hes : es.toList = [] := by
        cases es with
        | mk l =>
          cases l with
          | nil => rfl
          | cons x r => cases e4
      refine ⟨_, .dict (kvs := []) e1 e2.1 e3 (as := []) (bs := []) ?_ ?_⟩
      · rw [hes]
        exact .nil
      · rw [hes]
        exact .nil
theorem Rp.readsAll (I : Inv X pins σ H s) : ∀ (ds : List PyData) (vs : List V) (us : List Value), RpAll X.K H vs ds → empDics ds = true → Vals vs us → ∃ as, ReadsAll s.heap us ds as
  | [], _, _, h, _, r => by
    cases h; cases r
    exact ⟨_, .nil⟩
  | d :: ds, _, _, h, n, r => by
    have n : (empDic d && empDics ds) = true := n
    rw [Bool.and_eq_true] at n
    cases h with
    | cons h1 h2 =>
      cases r with
      | cons r1 r2 =>
        obtain ⟨as, q1⟩ := Rp.reads I d _ _ h1 n.1 r1
        obtain ⟨bs, q2⟩ := Rp.readsAll I ds _ _ h2 n.2 r2
        exact ⟨as ++ bs, .cons q1 q2⟩
end
end

/-! ### the frozen part of the heap, the slots -/
structure Ext (Hf H Hf' H' : Hp) : Prop where
  same : Same H H'
  fs : Same Hf Hf'
  sub : Same Hf' H'
  fz : ∀ b, Hf' b ≠ none → Hf b ≠ none ∨ H b = none
theorem Ext.refl {Hf H : Hp} (s : Same Hf H) : Ext Hf H Hf H := ⟨Same.refl _, Same.refl _, s, fun _ h => .inl h⟩
theorem Ext.trans {Hf H Hf1 H1 Hf2 H2 : Hp} (a : Ext Hf H Hf1 H1) (b : Ext Hf1 H1 Hf2 H2) : Ext Hf H Hf2 H2 :=
  ⟨a.same.trans b.same, a.fs.trans b.fs, b.sub, fun c h => by
    rcases b.fz c h with z | z
    · exact a.fz c z
    · exact .inr (a.same.free z)⟩
/-- one new object, frozen -/
theorem Ext.new {Hf H : Hp} {p : Addr} {o : HO} (s : Same Hf H) (hp : H p = none) : Ext Hf H (upd Hf p o) (upd H p o) :=
  ⟨same_new hp, same_new (s.free hp), fun b u h => by
      by_cases e : b = p
      · subst e
        rw [upd_same] at h ⊢
        exact h
      · rw [upd_ne e] at h ⊢
        exact s b u h, fun b h => by
      by_cases e : b = p
      · subst e
        exact .inr hp
      · rw [upd_ne e] at h
        exact .inl h⟩

inductive Cell where
  | d (x : PyData)
  | own (p : Addr) (xs : List PyData)
  | scr (ns : List Int)
  | dic (p : Addr) (kvs : List (Key × PyData))
  | nst (p : Addr) (ls : List (Addr × List PyData))
abbrev DE0 := List (Option Cell)
/-- the objects that a slot alone holds -/
def Cell.adrs : Cell → List Addr
  | .own p _ => [p]
  | .dic p _ => [p]
  | .nst p ls => p :: ls.map (·.1)
  | _ => []
inductive RpD (K : PySem.W.Frag) (H : Hp) : List (Key × V) → List (Key × PyData) → Prop
  | nil : RpD K H [] []
  | cons {k : Key} {v : V} {kvs : List (Key × V)} {d : PyData} {ds : List (Key × PyData)} : Rp K H v d → RpD K H kvs ds → RpD K H ((k, v) :: kvs) ((k, d) :: ds)
theorem RpD.mono {K : PySem.W.Frag} {H H' : Hp} (e : Same H H') : ∀ {kvs : List (Key × V)} {ds : List (Key × PyData)}, RpD K H kvs ds → RpD K H' kvs ds
  | _, _, .nil => .nil
  | _, _, .cons h q => .cons (Rp.mono e h) (RpD.mono e q)
/-- own lists, one behind the other -/
inductive NsAt (K : PySem.W.Frag) (Hf H : Hp) : List (Addr × List PyData) → Prop
  | nil : NsAt K Hf H []
  | cons {q : Addr} {vs : List V} {ys : List PyData} {ls : List (Addr × List PyData)} : H q = some (.lst vs) → Hf q = none → RpAll K Hf vs ys → NsAt K Hf H ls → NsAt K Hf H ((q, ys) :: ls)
theorem NsAt.mono {K : PySem.W.Frag} {Hf H Hf1 H1 : Hp} : ∀ {ls : List (Addr × List PyData)}, NsAt K Hf H ls → Same Hf Hf1 → (∀ q ∈ ls.map (·.1), ∀ vs, H q = some (.lst vs) → H1 q = some (.lst vs) ∧ Hf1 q = none) → NsAt K Hf1 H1 ls
  | _, .nil, _, _ => .nil
  | _, .cons h1 h2 h3 h4, S, k => .cons (k _ List.mem_cons_self _ h1).1 (k _ List.mem_cons_self _ h1).2 (h3.mono S) (h4.mono S fun q hq => k q (List.mem_cons_of_mem _ hq))
theorem NsAt.get {K : PySem.W.Frag} {Hf H : Hp} : ∀ {ls : List (Addr × List PyData)}, NsAt K Hf H ls → ∀ {q : Addr}, q ∈ ls.map (·.1) → (∃ vs, H q = some (.lst vs)) ∧ Hf q = none
  | _, .nil, _, h => by cases h
  | _, .cons h1 h2 h3 h4, q, h => by
    rcases List.mem_cons.mp h with e | h
    · subst e
      exact ⟨⟨_, h1⟩, h2⟩
    · exact h4.get h
def CAt (K : PySem.W.Frag) (Hf H : Hp) (v : V) : Cell → Prop
  | .d x => Rp K Hf v x
  | .own p xs => ∃ vs, v = .ref p ∧ H p = some (.lst vs) ∧ Hf p = none ∧ RpAll K Hf vs xs
  | .scr ns => ∃ a, v = .ref a ∧ SqL K Hf a (ns.map V.int)
  | .dic p kvs => ∃ ws, v = .ref p ∧ H p = some (.dK ws) ∧ Hf p = none ∧ RpD K Hf ws kvs
  | .nst p ls => v = .ref p ∧ H p = some (.lst (ls.map fun l => V.ref l.1)) ∧ Hf p = none ∧ NsAt K Hf H ls ∧ (p :: ls.map (·.1)).Nodup
/-- what a slot alone holds may change its surroundings -/
theorem CAt.mono {K : PySem.W.Frag} {Hf H Hf1 H1 : Hp} {v : V} {c : Cell} (h : CAt K Hf H v c) (S : Same Hf Hf1) (k : ∀ q ∈ c.adrs, ∀ o, H q = some o → H1 q = some o ∧ (Hf q = none → Hf1 q = none)) : CAt K Hf1 H1 v c := by
  cases c with
  | d x => exact Rp.mono S h
  | scr ns =>
    obtain ⟨a, rfl, h⟩ := h
    exact ⟨a, rfl, S.seq h⟩
  | own p xs =>
    obtain ⟨vs, rfl, h1, h2, h3⟩ := h
    exact ⟨vs, rfl, (k p List.mem_cons_self _ h1).1, (k p List.mem_cons_self _ h1).2 h2, h3.mono S⟩
  | dic p kvs =>
    obtain ⟨ws, rfl, h1, h2, h3⟩ := h
    exact ⟨ws, rfl, (k p List.mem_cons_self _ h1).1, (k p List.mem_cons_self _ h1).2 h2, h3.mono S⟩
  | nst p ls =>
    obtain ⟨rfl, h1, h2, h3, h4⟩ := h
    exact ⟨rfl, (k p List.mem_cons_self _ h1).1, (k p List.mem_cons_self _ h1).2 h2, h3.mono S fun q hq vs e => ⟨(k q (List.mem_cons_of_mem _ hq) _ e).1, (k q (List.mem_cons_of_mem _ hq) _ e).2 (h3.get hq).2⟩, h4⟩
theorem CAt.held {K : PySem.W.Frag} {Hf H : Hp} {v : V} {c : Cell} (h : CAt K Hf H v c) {q : Addr} (hq : q ∈ c.adrs) : Hf q = none ∧ ∃ o, H q = some o ∧ ((∃ vs, o = .lst vs) ∨ ∃ ws, o = .dK ws) := by
  cases c with
  | d x => cases hq
  | scr ns => cases hq
  | own p xs =>
    obtain ⟨vs, rfl, h1, h2, h3⟩ := h
    rcases List.mem_cons.mp hq with e | e
    · subst e
      exact ⟨h2, _, h1, .inl ⟨_, rfl⟩⟩
    · cases e
  | dic p kvs =>
    obtain ⟨vs, rfl, h1, h2, h3⟩ := h
    rcases List.mem_cons.mp hq with e | e
    · subst e
      exact ⟨h2, _, h1, .inr ⟨_, rfl⟩⟩
    · cases e
  | nst p ls =>
    obtain ⟨rfl, h1, h2, h3, h4⟩ := h
    rcases List.mem_cons.mp hq with e | e
    · subst e
      exact ⟨h2, _, h1, .inl ⟨_, rfl⟩⟩
    · obtain ⟨⟨vs, g⟩, g2⟩ := h3.get e
      exact ⟨g2, _, g, .inl ⟨_, rfl⟩⟩
structure Abs (K : PySem.W.Frag) (Γ : DE0) (σ : L2.St) (Hf H : Hp) : Prop where
  sub : Same Hf H
  len : Γ.length = σ.length
  at_ : ∀ (i : Nat) (c : Cell), Γ[i]? = some (some c) → ∃ v, σ[i]? = some (some v) ∧ CAt K Hf H v c
  sep : ∀ (i j : Nat) (c e : Cell) (p : Addr), Γ[i]? = some (some c) → Γ[j]? = some (some e) → p ∈ c.adrs → p ∈ e.adrs → i = j
def Own (Γ : DE0) (σ : L2.St) (b : Addr) : Prop := ∃ (i : Nat) (c : Cell), Γ[i]? = some (some c) ∧ b ∈ c.adrs
/-- from a state to a later one -/
structure Stp (K : PySem.W.Frag) (Γ : DE0) (σ : L2.St) (Hf H : Hp) (Γ' : DE0) (σ' : L2.St) (Hf' H' : Hp) : Prop where
  abs : Abs K Γ' σ' Hf' H'
  same : Same Hf Hf'
  fr : ∀ b o, H b = some o → ¬ Own Γ σ b → H' b = some o
  own : ∀ b, Own Γ' σ' b → Own Γ σ b ∨ H b = none
  fz : ∀ b, Hf' b ≠ none → Hf b ≠ none ∨ Own Γ σ b ∨ H b = none
  there : ∀ b, H' b = none → H b = none
section
variable {K : PySem.W.Frag} {Γ Γ1 Γ2 : DE0} {σ σ1 σ2 : L2.St} {Hf H Hf1 H1 Hf2 H2 : Hp}
theorem Abs.noOwn (A : Abs K Γ σ Hf H) {b : Addr} (h : Own Γ σ b) : Hf b = none ∧ ∃ o, H b = some o := by
  obtain ⟨i, c, h1, h2⟩ := h
  obtain ⟨v, e, q⟩ := A.at_ i _ h1
  obtain ⟨g1, o, g2, _⟩ := q.held h2
  exact ⟨g1, o, g2⟩
theorem Stp.refl (A : Abs K Γ σ Hf H) : Stp K Γ σ Hf H Γ σ Hf H := ⟨A, Same.refl _, fun _ _ h _ => h, fun _ h => .inl h, fun _ h => .inl h, fun _ h => h⟩
theorem Stp.trans (a : Stp K Γ σ Hf H Γ1 σ1 Hf1 H1) (b : Stp K Γ1 σ1 Hf1 H1 Γ2 σ2 Hf2 H2) : Stp K Γ σ Hf H Γ2 σ2 Hf2 H2 := by
  refine ⟨b.abs, a.same.trans b.same, fun c o h n => ?_, fun c h => ?_, fun c h => ?_, fun c h => a.there c (b.there c h)⟩
  · refine b.fr c o (a.fr c o h n) fun z => ?_
    rcases a.own c z with w | w
    · exact n w
    · rw [h] at w
      cases w
  · rcases b.own c h with z | z
    · exact a.own c z
    · exact .inr (a.there c z)
  · rcases b.fz c h with z | z | z
    · exact a.fz c z
    · exact .inr (a.own c z)
    · exact .inr (.inr (a.there c z))
/-- what is only read stays -/
theorem Abs.ext (A : Abs K Γ σ Hf H) (e : Ext Hf H Hf1 H1) : Abs K Γ σ Hf1 H1 := by
  refine ⟨e.sub, A.len, fun i c h => ?_, A.sep⟩
  obtain ⟨v, q1, q2⟩ := A.at_ i c h
  refine ⟨v, q1, q2.mono e.fs fun q hq o h1 => ⟨e.same _ _ h1, fun h2 => ?_⟩⟩
  apply Classical.byContradiction
  intro n
  rcases e.fz q n with z | z
  · exact z h2
  · rw [h1] at z
    cases z
theorem Abs.stp (A : Abs K Γ σ Hf H) (e : Ext Hf H Hf1 H1) : Stp K Γ σ Hf H Γ σ Hf1 H1 :=
  ⟨A.ext e, e.fs, fun b o h _ => e.same b o h, fun _ h => .inl h, fun b h => (e.fz b h).imp id .inr, fun b h => e.same.free h⟩
/-- a slot takes data -/
theorem Abs.put (A : Abs K Γ σ Hf H) {v : V} {d : PyData} (r : Rp K Hf v d) (i : Nat) : Abs K (Γ.set i (some (.d d))) (σ.set i (some v)) Hf H := by
  have own : ∀ (j : Nat) (q : Addr) (c : Cell), (Γ.set i (some (Cell.d d)))[j]? = some (some c) → q ∈ c.adrs → i ≠ j ∧ Γ[j]? = some (some c) := fun j q c h m => by
    by_cases e : i = j
    · subst e
      rw [List.getElem?_set] at h
      simp at h
      rw [← h.2] at m
      cases m
    · rw [List.getElem?_set_ne e] at h
      exact ⟨e, h⟩
  refine ⟨A.sub, by simp [A.len], fun j c h => ?_, fun j k c e p h1 h2 m1 m2 => ?_⟩
  · by_cases e : i = j
    · subst e
      have hi : i < Γ.length := by
        rcases Nat.lt_or_ge i Γ.length with z | z
        · exact z
        · rw [List.getElem?_eq_none (by simp; exact z)] at h
          cases h
      rw [List.getElem?_set_self hi] at h
      cases h
      exact ⟨v, by rw [List.getElem?_set_self (by rw [← A.len]; exact hi)], r⟩
    · rw [List.getElem?_set_ne e] at h ⊢
      exact A.at_ j c h
  · exact A.sep j k c e p (own j p c h1 m1).2 (own k p e h2 m2).2 m1 m2
theorem own_put {v : V} {d : PyData} {i : Nat} {b : Addr} (h : Own (Γ.set i (some (.d d))) (σ.set i (some v)) b) : Own Γ σ b := by
  obtain ⟨j, c, h1, m⟩ := h
  by_cases e : i = j
  · subst e
    rw [List.getElem?_set] at h1
    simp at h1
    rw [← h1.2] at m
    cases m
  · rw [List.getElem?_set_ne e] at h1
    exact ⟨j, c, h1, m⟩
theorem Abs.put_stp (A : Abs K Γ σ Hf H) {v : V} {d : PyData} (r : Rp K Hf v d) (i : Nat) : Stp K Γ σ Hf H (Γ.set i (some (.d d))) (σ.set i (some v)) Hf H :=
  ⟨A.put r i, Same.refl _, fun _ _ h _ => h, fun _ h => .inl (own_put h), fun _ h => .inl h, fun _ h => h⟩
/-- an own list is frozen: from now on it is data -/
theorem Abs.freeze (A : Abs K Γ σ Hf H) {i : Nat} {p : Addr} {xs : List PyData} (h : Γ[i]? = some (some (.own p xs))) : ∃ v Hf', σ[i]? = some (some v) ∧ Rp K Hf' v (.list xs) ∧ Stp K Γ σ Hf H (Γ.set i (some (.d (.list xs)))) σ Hf' H := by
  obtain ⟨v, e, vs, rfl, h1, h2, h3⟩ := A.at_ i _ h
  have S : Same Hf (upd Hf p (.lst vs)) := same_new h2
  have hi : i < Γ.length := (List.getElem?_eq_some_iff.mp h).1
  have r : Rp K (upd Hf p (.lst vs)) (.ref p) (.list xs) := .lst upd_same (h3.mono S)
  have mp : p ∈ (Cell.own p xs).adrs := List.mem_cons_self
  have other : ∀ (j : Nat) (q : Addr) (c : Cell), (Γ.set i (some (Cell.d (.list xs))))[j]? = some (some c) → q ∈ c.adrs → i ≠ j ∧ Γ[j]? = some (some c) := fun j q c z0 m => by
    by_cases z : i = j
    · subst z
      rw [List.getElem?_set_self hi] at z0
      cases z0
      cases m
    · rw [List.getElem?_set_ne z] at z0
      exact ⟨z, z0⟩
  refine ⟨.ref p, upd Hf p (.lst vs), e, r, ⟨fun b o q => ?_, by simp [A.len], fun j c q => ?_, fun j k c e b g1 g2 m1 m2 => ?_⟩, S, fun _ _ q _ => q, fun b q => ?_, fun b q => ?_, fun _ q => q⟩
  · by_cases z : b = p
    · subst z
      rw [upd_same] at q
      rw [h1]
      exact q
    · rw [upd_ne z] at q
      exact A.sub b o q
  · by_cases z : i = j
    · subst z
      rw [List.getElem?_set_self hi] at q
      cases q
      exact ⟨_, e, r⟩
    · rw [List.getElem?_set_ne z] at q
      obtain ⟨v, q1, q2⟩ := A.at_ j c q
      refine ⟨v, q1, q2.mono S fun b m o g => ⟨g, fun g2 => ?_⟩⟩
      have ne : b ≠ p := fun z2 => by
        subst z2
        exact z (A.sep i j _ _ b h q mp m)
      rw [upd_ne ne]
      exact g2
  · exact A.sep j k c e b (other j b c g1 m1).2 (other k b e g2 m2).2 m1 m2
  · obtain ⟨j, c, q1, m⟩ := q
    exact .inl ⟨j, c, (other j b c q1 m).2, m⟩
  · by_cases z : b = p
    · subst z
      exact .inr (.inl ⟨i, _, h, mp⟩)
    · rw [upd_ne z] at q
      exact .inl q
end
end Dl
namespace Dl
open PySem PySem.Spec PyProof.Rows L2 TL Bl
/-! ### the judgements: an expression, a test, arguments, a new list, a statement, by data -/
abbrev DTE := DE0 → (PyData → DE0 → Prop) → Prop
abbrev DTT := DE0 → (Bool → DE0 → Prop) → Prop
abbrev DTA := DE0 → (List PyData → DE0 → Prop) → Prop
structure DEnds where
  nx : DE0 → Prop
  rt : PyData → DE0 → Prop
  bk : DE0 → Prop := fun _ => False
  ct : DE0 → Prop := fun _ => False
abbrev DTS := DEnds → DE0 → Prop
def rdE (K : PySem.W.Frag) (t : DTE) : TE := fun σ H Q => ∃ Γ Hf Q0, Abs K Γ σ Hf H ∧ t Γ Q0 ∧ ∀ d Γ' v Hf' H', Q0 d Γ' → Stp K Γ σ Hf H Γ' σ Hf' H' → Rp K Hf' v d → Q v H'
def rdT (K : PySem.W.Frag) (t : DTT) : TT := fun σ H Q => ∃ Γ Hf Q0, Abs K Γ σ Hf H ∧ t Γ Q0 ∧ ∀ b Γ' Hf' H', Q0 b Γ' → Stp K Γ σ Hf H Γ' σ Hf' H' → Q b H'
def rdA (K : PySem.W.Frag) (t : DTA) : TA := fun σ H Q => ∃ Γ Hf Q0, Abs K Γ σ Hf H ∧ t Γ Q0 ∧ ∀ ds Γ' vs Hf' H', Q0 ds Γ' → Stp K Γ σ Hf H Γ' σ Hf' H' → RpAll K Hf' vs ds → Q vs H'
/-- a list that nothing else holds -/
def rdL (K : PySem.W.Frag) (t : DTA) : TE := fun σ H Q => ∃ Γ Hf Q0, Abs K Γ σ Hf H ∧ t Γ Q0 ∧ ∀ ds Γ' p vs Hf' H', Q0 ds Γ' → Stp K Γ σ Hf H Γ' σ Hf' H' → H p = none → H' p = some (.lst vs) → Hf' p = none → ¬ Own Γ' σ p → RpAll K Hf' vs ds → Q (.ref p) H'
def rdS (K : PySem.W.Frag) (t : DTS) : TS := fun D σ H => ∃ Γ Hf D0, Abs K Γ σ Hf H ∧ t D0 Γ ∧ (∀ Γ' σ' Hf' H', D0.nx Γ' → Stp K Γ σ Hf H Γ' σ' Hf' H' → D.nx σ' H') ∧
  (∀ d Γ' v σ' Hf' H', D0.rt d Γ' → Stp K Γ σ Hf H Γ' σ' Hf' H' → Rp K Hf' v d → D.rt v H') ∧ (∀ Γ' σ' Hf' H', D0.bk Γ' → Stp K Γ σ Hf H Γ' σ' Hf' H' → D.bk σ' H') ∧ (∀ Γ' σ' Hf' H', D0.ct Γ' → Stp K Γ σ Hf H Γ' σ' Hf' H' → D.ct σ' H')
structure DE (X : Cx) (e : Expr) (t : DTE) : Prop where
  run : PE X e (rdE X.K t)
structure DT (X : Cx) (e : Expr) (t : DTT) : Prop where
  run : PT X e (rdT X.K t)
structure DW (X : Cx) (e : Expr) (t : DTT) : Prop where
  run : PW X e (rdT X.K t)
structure DA (X : Cx) (es : List Expr) (t : DTA) : Prop where
  run : PA X es (rdA X.K t)
structure DL (X : Cx) (e : Expr) (t : DTA) : Prop where
  run : PE X e (rdL X.K t)
structure DS (X : Cx) (st : Stmt) (t : DTS) : Prop where
  run : PS X st (rdS X.K t)
structure DSs (X : Cx) (st : List Stmt) (t : DTS) : Prop where
  run : PSs X st (rdS X.K t)
section
variable {X : Cx}
theorem pe_of {e : Expr} {t u : TE} (h : PE X e t) (k : ∀ σ H Q, u σ H Q → t σ H Q) : PE X e u := ⟨fun pins s σ H Q I q => h.run pins s σ H Q I (k σ H Q q)⟩
theorem pt_of {e : Expr} {t u : TT} (h : PT X e t) (k : ∀ σ H Q, u σ H Q → t σ H Q) : PT X e u := ⟨fun pins s σ H Q I q => h.run pins s σ H Q I (k σ H Q q)⟩
theorem pw_of {e : Expr} {t u : TT} (h : PW X e t) (k : ∀ σ H Q, u σ H Q → t σ H Q) : PW X e u := ⟨fun wh pins s σ H Q I q => h.run wh pins s σ H Q I (k σ H Q q)⟩
theorem pa_of {es : List Expr} {t u : TA} (h : PA X es t) (k : ∀ σ H Q, u σ H Q → t σ H Q) : PA X es u := ⟨fun pos pins s σ H Q I q => h.run pos pins s σ H Q I (k σ H Q q)⟩
theorem ps_of {st : Stmt} {t u : TS} (h : PS X st t) (k : ∀ D σ H, u D σ H → t D σ H) : PS X st u := ⟨fun pins s σ H D I q => h.run pins s σ H D I (k D σ H q)⟩
theorem pss_of {st : List Stmt} {t u : TS} (h : PSs X st t) (k : ∀ D σ H, u D σ H → t D σ H) : PSs X st u := ⟨fun pins s σ H D I q => h.run pins s σ H D I (k D σ H q)⟩

/-! ### names, constants -/
def at' : DE0 → Nat → Option Cell
  | [], _ => none
  | c :: _, 0 => c
  | _ :: r, i + 1 => at' r i
theorem at'_eq : ∀ {Γ : DE0} {i : Nat} {c : Cell}, at' Γ i = some c → Γ[i]? = some (some c)
  | [], _, _, h => by cases h
  | x :: _, 0, c, h => by
    have h : x = some c := h
    rw [h]
    rfl
  | _ :: r, i + 1, c, h => by
    rw [List.getElem?_cons_succ]
    exact at'_eq (Γ := r) (i := i) h
def dVarK (c : Option Cell) (i : Nat) (Γ : DE0) (Q : PyData → DE0 → Prop) : Prop := match c with
  | some (.d x) => Q x Γ
  | some (.own _ xs) => Q (.list xs) (Γ.set i (some (.d (.list xs))))
  | _ => False
def dVar (i : Nat) : DTE := fun Γ Q => dVarK (at' Γ i) i Γ Q
theorem de_var (i : Nat) {x : Str} {pos : Pos} (hN : X.N[i]? = some x := by rfl) (hv : Vis X.env.scope x := by first | exact Or.inl rfl | exact Or.inr (Or.inl rfl) | exact Or.inr (Or.inr rfl)) (hd : (x == ("__debug__" : Str)) = false := by decide)
    (hcd : (x == ("__classdict__" : Str)) = false := by decide) : DE X (.Name x pos) (dVar i) := by
  refine ⟨pe_of (pe_var hN hv hd hcd) fun σ H Q q => ?_⟩
  obtain ⟨Γ, Hf, Q0, A, h, k⟩ := q
  have h : dVarK (at' Γ i) i Γ Q0 := h
  cases e : at' Γ i with
  | none =>
    rw [e] at h
    exact h.elim
  | some c =>
    rw [e] at h
    have e := at'_eq e
    cases c with
    | d y =>
      obtain ⟨v, hv, r⟩ := A.at_ i _ e
      exact ⟨v, hv, k y Γ v Hf H h (.refl A) r⟩
    | own _ ys =>
      obtain ⟨v, Hf', hv, r, S⟩ := A.freeze e
      exact ⟨v, hv, k _ _ v Hf' H h S r⟩
    | _ => exact h.elim
def dC (d : PyData) : DTE := fun Γ Q => Q d Γ
theorem de_const {e : Expr} {v : V} {d : PyData} (h : PE X e (tC v)) (r : ∀ H, Rp X.K H v d) : DE X e (dC d) :=
  ⟨pe_of h fun σ H Q ⟨Γ, Hf, Q0, A, q, k⟩ => k d Γ v Hf H q (.refl A) (r _)⟩
theorem de_int {i j pos} : DE X (.Constant (.int i) j pos) (dC (.int i)) := de_const pe_int fun _ => .int i
theorem de_bl {b j pos} : DE X (.Constant (.bool b) j pos) (dC (.bool b)) := de_const pe_bl fun _ => .bl b
theorem de_non {j pos} : DE X (.Constant .none j pos) (dC .none) := de_const pe_non fun _ => .non
theorem de_str {x j pos} : DE X (.Constant (.str x) j pos) (dC (.str x)) := de_const pe_str fun _ => .str x

/-! ### operators by values -/
abbrev G2 := PyData → PyData → (PyData → Prop) → Prop
abbrev B2 := PyData → PyData → (Bool → Prop) → Prop
def rdO (K : PySem.W.Frag) (g : G2) : R2 := fun x y H Q => ∃ Hf dx dy Q0, Same Hf H ∧ Rp K Hf x dx ∧ Rp K Hf y dy ∧ g dx dy Q0 ∧ ∀ d v Hf' H', Q0 d → Ext Hf H Hf' H' → Rp K Hf' v d → Q v H'
def rdB (K : PySem.W.Frag) (g : B2) : R2 := fun x y H Q => ∃ Hf dx dy Q0, Same Hf H ∧ Rp K Hf x dx ∧ Rp K Hf y dy ∧ g dx dy Q0 ∧ ∀ b, Q0 b → Q (.bl b) H
section
variable {a b : Expr} {ta tb : DTE} {pos : Pos} {tA tB2 : DTT} {rest : List Expr}
def dOp (g : G2) (ta tb : DTE) : DTE := fun Γ Q => ta Γ fun x Γ1 => tb Γ1 fun y Γ2 => g x y fun z => Q z Γ2
def dCmp (g : B2) (ta tb : DTE) : DTT := fun Γ Q => ta Γ fun x Γ1 => tb Γ1 fun y Γ2 => g x y fun z => Q z Γ2
theorem rd_op {r : R2} {g : G2} (hr : r = rdO X.K g) : ∀ σ H Q, rdE X.K (dOp g ta tb) σ H Q → tOp r (rdE X.K ta) (rdE X.K tb) σ H Q := by
  subst hr
  rintro σ H Q ⟨Γ, Hf, Q0, A, h, k⟩
  refine ⟨Γ, Hf, fun x Γ1 => tb Γ1 fun y Γ2 => g x y fun z => Q0 z Γ2, A, h, fun dx Γ1 v Hf1 H1 hx S1 r1 => ?_⟩
  refine ⟨Γ1, Hf1, fun y Γ2 => g dx y fun z => Q0 z Γ2, S1.abs, hx, fun dy Γ2 u Hf2 H2 hy S2 r2 => ?_⟩
  exact ⟨Hf2, dx, dy, fun z => Q0 z Γ2, S2.abs.sub, r1.mono S2.same, r2, hy, fun d w Hf3 H3 hd e rw => k d Γ2 w Hf3 H3 hd ((S1.trans S2).trans (S2.abs.stp e)) rw⟩
theorem de_op {op : Operator} {g : G2} (ho : OpR X (binaryOp op) (rdO X.K g)) (ha : DE X a ta) (hb : DE X b tb) : DE X (.BinOp a op b pos) (dOp g ta tb) :=
  ⟨pe_of (pe_op ho ha.run hb.run) (rd_op rfl)⟩
/-- a[b] -/
theorem de_ix {g : G2} (ho : IxR X (rdO X.K g)) (ha : DE X a ta) (hb : DE X b tb) (hs : PlainIx b := by intro _ _; rfl) : DE X (.Subscript a b pos) (dOp g ta tb) :=
  ⟨pe_of (pe_ix ho ha.run hb.run hs) (rd_op rfl)⟩
theorem rd_cmp {r : R2} {g : B2} (hr : r = rdB X.K g) : ∀ σ H Q, rdT X.K (dCmp g ta tb) σ H Q → tTest (tOp r (rdE X.K ta) (rdE X.K tb)) σ H Q := by
  subst hr
  rintro σ H Q ⟨Γ, Hf, Q0, A, h, k⟩
  refine ⟨Γ, Hf, fun x Γ1 => tb Γ1 fun y Γ2 => g x y fun z => Q0 z Γ2, A, h, fun dx Γ1 v Hf1 H1 hx S1 r1 => ?_⟩
  refine ⟨Γ1, Hf1, fun y Γ2 => g dx y fun z => Q0 z Γ2, S1.abs, hx, fun dy Γ2 u Hf2 H2 hy S2 r2 => ?_⟩
  exact ⟨Hf2, dx, dy, fun z => Q0 z Γ2, S2.abs.sub, r1.mono S2.same, r2, hy, fun c hc => ⟨c, rfl, k c Γ2 Hf2 H2 hc (S1.trans S2)⟩⟩
theorem dt_cmp {op : CmpOp} {g : B2} (ho : OpR X (compareOp op) (rdB X.K g)) (ha : DE X a ta) (hb : DE X b tb) (hm : behindInMarks op b = false := by first | exact nomark _ | rfl) : DT X (.Compare a [op] [b] pos) (dCmp g ta tb) :=
  ⟨pt_of (pt_cmpR ho ha.run hb.run hm) (rd_cmp rfl)⟩
/-- a test's value -/
def dVal (t : DTT) : DTE := fun Γ Q => t Γ fun b Γ1 => Q (.bool b) Γ1
theorem de_cmp {op : CmpOp} {g : B2} (ho : OpR X (compareOp op) (rdB X.K g)) (ha : DE X a ta) (hb : DE X b tb) (hm : behindInMarks op b = false := by first | exact nomark _ | rfl) : DE X (.Compare a [op] [b] pos) (dVal (dCmp g ta tb)) := by
  refine ⟨pe_of (pe_cmpR ho ha.run hb.run hm) ?_⟩
  rintro σ H Q ⟨Γ, Hf, Q0, A, h, k⟩
  refine ⟨Γ, Hf, fun x Γ1 => tb Γ1 fun y Γ2 => g x y fun z => Q0 (.bool z) Γ2, A, h, fun dx Γ1 v Hf1 H1 hx S1 r1 => ?_⟩
  refine ⟨Γ1, Hf1, fun y Γ2 => g dx y fun z => Q0 (.bool z) Γ2, S1.abs, hx, fun dy Γ2 u Hf2 H2 hy S2 r2 => ?_⟩
  exact ⟨Hf2, dx, dy, fun z => Q0 (.bool z) Γ2, S2.abs.sub, r1.mono S2.same, r2, hy, fun c hc => k (.bool c) Γ2 (.bl c) Hf2 H2 hc (S1.trans S2) (.bl c)⟩
/-- a value as a test: a bool -/
def dTest (t : DTE) : DTT := fun Γ Q => t Γ fun d Γ1 => match d with
  | .bool b => Q b Γ1
  | _ => False
theorem dt_val (ha : DE X a ta) (he : ∀ whole, isTrue a X.env whole = (do let v ← whole; standAt a.pos; holding [v] (truthy v)) := by intro _; rfl) : DT X a (dTest ta) := by
  refine ⟨pt_of (pt_val ha.run he) ?_⟩
  rintro σ H Q ⟨Γ, Hf, Q0, A, h, k⟩
  refine ⟨Γ, Hf, _, A, h, fun d Γ1 v Hf1 H1 hd S1 r1 => ?_⟩
  cases r1 with
  | bl c => exact ⟨c, rfl, k c Γ1 Hf1 H1 hd S1⟩
  | _ => exact hd.elim
def dNot (t : DTT) : DTT := fun Γ Q => t Γ fun b Γ1 => Q (!b) Γ1
def dAnd (t u : DTT) : DTT := fun Γ Q => t Γ fun b Γ1 => if b = true then u Γ1 Q else Q false Γ1
def dOr (t u : DTT) : DTT := fun Γ Q => t Γ fun b Γ1 => if b = true then Q true Γ1 else u Γ1 Q
theorem dt_not (ha : DT X a tA) : DT X (.UnaryOp .Not a pos) (dNot tA) :=
  ⟨pt_of (pt_not ha.run) fun σ H Q ⟨Γ, Hf, Q0, A, h, k⟩ => ⟨Γ, Hf, _, A, h, fun b Γ1 Hf1 H1 hb S => k (!b) Γ1 Hf1 H1 hb S⟩⟩
theorem dw_and1 (ha : DT X a tA) : DW X (.BoolOp .And [a] pos) tA := ⟨pw_of (pw_and1 ha.run) fun _ _ _ h => h⟩
theorem dw_or1 (ha : DT X a tA) : DW X (.BoolOp .Or [a] pos) tA := ⟨pw_of (pw_or1 ha.run) fun _ _ _ h => h⟩
theorem dw_and (ha : DT X a tA) (hb : DW X (.BoolOp .And (b :: rest) pos) tB2) : DW X (.BoolOp .And (a :: b :: rest) pos) (dAnd tA tB2) := by
  refine ⟨pw_of (pw_and ha.run hb.run) ?_⟩
  rintro σ H Q ⟨Γ, Hf, Q0, A, h, k⟩
  refine ⟨Γ, Hf, _, A, h, fun c Γ1 Hf1 H1 hc S1 => ?_⟩
  cases c with
  | true => exact iteT ⟨Γ1, Hf1, Q0, S1.abs, by simpa using hc, fun c2 Γ2 Hf2 H2 h2 S2 => k c2 Γ2 Hf2 H2 h2 (S1.trans S2)⟩
  | false => exact iteF (k false Γ1 Hf1 H1 (by simpa using hc) S1)
theorem dw_or (ha : DT X a tA) (hb : DW X (.BoolOp .Or (b :: rest) pos) tB2) : DW X (.BoolOp .Or (a :: b :: rest) pos) (dOr tA tB2) := by
  refine ⟨pw_of (pw_or ha.run hb.run) ?_⟩
  rintro σ H Q ⟨Γ, Hf, Q0, A, h, k⟩
  refine ⟨Γ, Hf, _, A, h, fun c Γ1 Hf1 H1 hc S1 => ?_⟩
  cases c with
  | false => exact iteF ⟨Γ1, Hf1, Q0, S1.abs, by simpa using hc, fun c2 Γ2 Hf2 H2 h2 S2 => k c2 Γ2 Hf2 H2 h2 (S1.trans S2)⟩
  | true => exact iteT (k true Γ1 Hf1 H1 (by simpa using hc) S1)
theorem DW.pt {e : Expr} {t : DTT} (h : DW X e t) : DT X e t := ⟨h.run.pt⟩
/-- and, or, not as values of bools -/
def dAndV (ta tb : DTE) : DTE := fun Γ Q => ta Γ fun d Γ1 => match d with
  | .bool b => if b = true then tb Γ1 Q else Q (.bool false) Γ1
  | _ => False
def dOrV (ta tb : DTE) : DTE := fun Γ Q => ta Γ fun d Γ1 => match d with
  | .bool b => if b = true then Q (.bool true) Γ1 else tb Γ1 Q
  | _ => False
def dNotV (ta : DTE) : DTE := fun Γ Q => ta Γ fun d Γ1 => match d with
  | .bool b => Q (.bool (!b)) Γ1
  | _ => False
theorem de_one {op} (h : DE X a ta) : DE X (.BoolOp op [a] pos) ta := ⟨pe_one h.run⟩
theorem de_and (ha : DE X a ta) (hb : DE X (.BoolOp .And (b :: rest) pos) tb) : DE X (.BoolOp .And (a :: b :: rest) pos) (dAndV ta tb) := by
  refine ⟨pe_of (pe_and ha.run hb.run) ?_⟩
  rintro σ H Q ⟨Γ, Hf, Q0, A, h, k⟩
  refine ⟨Γ, Hf, _, A, h, fun d Γ1 v Hf1 H1 hd S1 r1 => ?_⟩
  cases r1 with
  | bl c =>
    refine ⟨c, rfl, ?_⟩
    cases c with
    | true => exact iteT ⟨Γ1, Hf1, Q0, S1.abs, by simpa using hd, fun c2 Γ2 v2 Hf2 H2 h2 S2 r2 => k c2 Γ2 v2 Hf2 H2 h2 (S1.trans S2) r2⟩
    | false => exact iteF (k _ Γ1 _ Hf1 H1 (by simpa using hd) S1 (.bl false))
  | _ => exact hd.elim
theorem de_or (ha : DE X a ta) (hb : DE X (.BoolOp .Or (b :: rest) pos) tb) : DE X (.BoolOp .Or (a :: b :: rest) pos) (dOrV ta tb) := by
  refine ⟨pe_of (pe_or ha.run hb.run) ?_⟩
  rintro σ H Q ⟨Γ, Hf, Q0, A, h, k⟩
  refine ⟨Γ, Hf, _, A, h, fun d Γ1 v Hf1 H1 hd S1 r1 => ?_⟩
  cases r1 with
  | bl c =>
    refine ⟨c, rfl, ?_⟩
    cases c with
    | false => exact iteF ⟨Γ1, Hf1, Q0, S1.abs, by simpa using hd, fun c2 Γ2 v2 Hf2 H2 h2 S2 r2 => k c2 Γ2 v2 Hf2 H2 h2 (S1.trans S2) r2⟩
    | true => exact iteT (k _ Γ1 _ Hf1 H1 (by simpa using hd) S1 (.bl true))
  | _ => exact hd.elim
theorem de_not (ha : DE X a ta) : DE X (.UnaryOp .Not a pos) (dNotV ta) := by
  refine ⟨pe_of (pe_not ha.run) ?_⟩
  rintro σ H Q ⟨Γ, Hf, Q0, A, h, k⟩
  refine ⟨Γ, Hf, _, A, h, fun d Γ1 v Hf1 H1 hd S1 r1 => ?_⟩
  cases r1 with
  | bl c => exact ⟨c, rfl, k _ Γ1 _ Hf1 H1 hd S1 (.bl _)⟩
  | _ => exact hd.elim
def dIf (t : DTT) (ta tb : DTE) : DTE := fun Γ Q => t Γ fun b Γ1 => if b = true then ta Γ1 Q else tb Γ1 Q
theorem de_ifExp {c : Expr} (hc : DT X c tA) (ha : DE X a ta) (hb : DE X b tb) : DE X (.IfExp c a b pos) (dIf tA ta tb) := by
  refine ⟨pe_of (pe_ifExp hc.run ha.run hb.run) ?_⟩
  rintro σ H Q ⟨Γ, Hf, Q0, A, h, k⟩
  refine ⟨Γ, Hf, _, A, h, fun d Γ1 Hf1 H1 hd S1 => ?_⟩
  cases d with
  | true => exact iteT ⟨Γ1, Hf1, Q0, S1.abs, by simpa using hd, fun c2 Γ2 v2 Hf2 H2 h2 S2 r2 => k c2 Γ2 v2 Hf2 H2 h2 (S1.trans S2) r2⟩
  | false => exact iteF ⟨Γ1, Hf1, Q0, S1.abs, by simpa using hd, fun c2 Γ2 v2 Hf2 H2 h2 S2 r2 => k c2 Γ2 v2 Hf2 H2 h2 (S1.trans S2) r2⟩
end

/-! ### arguments, displays -/
section
variable {e : Expr} {es : List Expr} {te : DTE} {t : DTA} {pos : Pos}
def dNil : DTA := fun Γ Q => Q [] Γ
def dCons (ta : DTE) (tr : DTA) : DTA := fun Γ Q => ta Γ fun x Γ1 => tr Γ1 fun xs Γ2 => Q (x :: xs) Γ2
theorem da_nil : DA X [] dNil := ⟨pa_of pa_nil fun σ H Q ⟨Γ, Hf, Q0, A, h, k⟩ => k [] Γ [] Hf H h (.refl A) .nil⟩
theorem da_cons (ha : DE X e te) (hr : DA X es t) (hs : starEach (e :: es) X.env = (false, eval e X.env) :: starEach es X.env := by rfl) : DA X (e :: es) (dCons te t) := by
  refine ⟨pa_of (pa_cons ha.run hr.run hs) ?_⟩
  rintro σ H Q ⟨Γ, Hf, Q0, A, h, k⟩
  refine ⟨Γ, Hf, _, A, h, fun dx Γ1 v Hf1 H1 hx S1 r1 => ?_⟩
  refine ⟨Γ1, Hf1, _, S1.abs, hx, fun ds Γ2 vs Hf2 H2 hs S2 r2 => ?_⟩
  exact k (dx :: ds) Γ2 (v :: vs) Hf2 H2 hs (S1.trans S2) (.cons (r1.mono S2.same) r2)
def dTup (t : DTA) : DTE := fun Γ Q => t Γ fun xs Γ1 => xs.length ≤ sizeLine ∧ Q (.tuple xs) Γ1
theorem de_tup {x1} (h : DA X es t) : DE X (.Tuple es x1 pos) (dTup t) := by
  refine ⟨pe_of (pe_tup h.run) ?_⟩
  rintro σ H Q ⟨Γ, Hf, Q0, A, h, k⟩
  refine ⟨Γ, Hf, _, A, h, fun ds Γ1 vs Hf1 H1 hd S1 r1 => ?_⟩
  exact ⟨by rw [r1.len]; exact hd.1, fun p hp => k _ Γ1 _ _ _ hd.2 (S1.trans (S1.abs.stp (Ext.new S1.abs.sub hp))) (.tup (SqT.of upd_same) (r1.mono (same_new (S1.abs.sub.free hp))))⟩
/-- a display of a list -/
def dLst (t : DTA) : DTA := fun Γ Q => t Γ fun xs Γ1 => xs.length ≤ sizeLine ∧ Q xs Γ1
end
end
end Dl
namespace Dl
open PySem PySem.Spec PyProof.Rows L2 TL Bl
/-! ### cells: data, or a list that nothing else holds -/
abbrev DTK := DE0 → (Cell → DE0 → Prop) → Prop
structure CNew (K : PySem.W.Frag) (σ : L2.St) (H : Hp) (Γ' : DE0) (Hf' H' : Hp) (v : V) (c : Cell) : Prop where
  at_ : CAt K Hf' H' v c
  new : ∀ q ∈ c.adrs, H q = none ∧ ¬ Own Γ' σ q
theorem CNew.d {K : PySem.W.Frag} {σ : L2.St} {H : Hp} {Γ' : DE0} {Hf' H' : Hp} {v : V} {x : PyData} (r : Rp K Hf' v x) : CNew K σ H Γ' Hf' H' v (.d x) := ⟨r, fun q h => by cases h⟩
theorem CNew.own {K : PySem.W.Frag} {σ : L2.St} {H : Hp} {Γ' : DE0} {Hf' H' : Hp} {p : Addr} {vs : List V} {xs : List PyData} (h1 : H p = none) (h2 : H' p = some (.lst vs)) (h3 : Hf' p = none) (h4 : ¬ Own Γ' σ p) (r : RpAll K Hf' vs xs) : CNew K σ H Γ' Hf' H' (.ref p) (.own p xs) :=
  ⟨⟨vs, rfl, h2, h3, r⟩, fun q h => by
    rcases List.mem_cons.mp h with e | e
    · subst e
      exact ⟨h1, h4⟩
    · cases e⟩
def rdK (K : PySem.W.Frag) (t : DTK) : TE := fun σ H Q => ∃ Γ Hf Q0, Abs K Γ σ Hf H ∧ t Γ Q0 ∧ ∀ c Γ' v Hf' H', Q0 c Γ' → Stp K Γ σ Hf H Γ' σ Hf' H' → CNew K σ H Γ' Hf' H' v c → Q v H'
structure DK (X : Cx) (e : Expr) (t : DTK) : Prop where
  run : PE X e (rdK X.K t)
section
variable {X : Cx} {e : Expr} {es : List Expr} {te : DTE} {t : DTA} {pos : Pos}
def dkE (t : DTE) : DTK := fun Γ Q => t Γ fun d Γ1 => Q (.d d) Γ1
def dkL (t : DTA) : DTK := fun Γ Q => t Γ fun xs Γ1 => ∀ p, Q (.own p xs) Γ1
theorem dk_e (h : DE X e te) : DK X e (dkE te) := ⟨pe_of h.run fun σ H Q ⟨Γ, Hf, Q0, A, q, k⟩ => ⟨Γ, Hf, _, A, q, fun d Γ' v Hf' H' hd S r => k (.d d) Γ' v Hf' H' hd S (.d r)⟩⟩
theorem dk_l (h : DL X e t) : DK X e (dkL t) := ⟨pe_of h.run fun σ H Q ⟨Γ, Hf, Q0, A, q, k⟩ => ⟨Γ, Hf, _, A, q, fun ds Γ' p vs Hf' H' hd S h1 h2 h3 h4 r => k (.own p ds) Γ' _ Hf' H' (hd p) S (.own h1 h2 h3 h4 r)⟩⟩
/-- a new list as data -/
def dFrz (t : DTA) : DTE := fun Γ Q => t Γ fun xs Γ1 => Q (.list xs) Γ1
section
variable {K : PySem.W.Frag} {Γ Γ' : DE0} {σ σ' : L2.St} {Hf H Hf' H' : Hp} {p : Addr} {vs : List V} {ds : List PyData}
/-- a new object of the heap is taken into the frozen part -/
theorem Stp.take (S : Stp K Γ σ Hf H Γ' σ' Hf' H') (h1 : H p = none) {o : HO} (h2 : H' p = some o) (h3 : Hf' p = none) (h4 : ¬ Own Γ' σ' p) : Stp K Γ σ Hf H Γ' σ' (upd Hf' p o) H' := by
  have T : Same Hf' (upd Hf' p o) := same_new h3
  refine ⟨⟨fun b o q => ?_, S.abs.len, fun i c h => ?_, S.abs.sep⟩, S.same.trans T, S.fr, S.own, fun b q => ?_, S.there⟩
  · by_cases z : b = p
    · subst z
      rw [upd_same] at q
      rw [h2]
      exact q
    · rw [upd_ne z] at q
      exact S.abs.sub b o q
  · obtain ⟨v, q1, q2⟩ := S.abs.at_ i c h
    refine ⟨v, q1, q2.mono T fun b m o g => ⟨g, fun g2 => ?_⟩⟩
    have ne : b ≠ p := fun z => by
      subst z
      exact h4 ⟨i, c, h, m⟩
    rw [upd_ne ne]
    exact g2
  · by_cases z : b = p
    · subst z
      exact .inr (.inr h1)
    · rw [upd_ne z] at q
      exact S.fz b q
end
theorem CNew.later {K : PySem.W.Frag} {Γ1 Γ2 : DE0} {σ : L2.St} {H Hf1 H1 Hf2 H2 : Hp} {v : V} {c : Cell} (r1 : CNew K σ H Γ1 Hf1 H1 v c) (S2 : Stp K Γ1 σ Hf1 H1 Γ2 σ Hf2 H2) : CNew K σ H Γ2 Hf2 H2 v c := by
  refine ⟨r1.at_.mono S2.same fun q m o g => ⟨S2.fr q o g (r1.new q m).2, fun g2 => Classical.byContradiction fun n => ?_⟩, fun q m => ⟨(r1.new q m).1, fun z => ?_⟩⟩
  · rcases S2.fz q n with z | z | z
    · exact z g2
    · exact (r1.new q m).2 z
    · rw [g] at z
      cases z
  · obtain ⟨_, o, g, _⟩ := r1.at_.held m
    rcases S2.own q z with z | z
    · exact (r1.new q m).2 z
    · rw [g] at z
      cases z
/-- a later cell is new over an earlier one that was put -/
theorem CNew.over {K : PySem.W.Frag} {Γ2 : DE0} {σ : L2.St} {H H1 Hf2 H2 : Hp} {v w : V} {c c2 : Cell} {i : Nat} (r2 : CNew K σ H1 Γ2 Hf2 H2 w c2) (there : ∀ b, H1 b = none → H b = none) (held : ∀ q ∈ c.adrs, H1 q ≠ none) : CNew K (σ.set i (some v)) H (Γ2.set i (some c)) Hf2 H2 w c2 := by
  refine ⟨r2.at_, fun q m => ⟨there q (r2.new q m).1, ?_⟩⟩
  rintro ⟨l, e, g1, g2⟩
  by_cases z : i = l
  · subst z
    rw [List.getElem?_set] at g1
    simp at g1
    rw [← g1.2] at g2
    exact held q g2 (r2.new q m).1
  · rw [List.getElem?_set_ne z] at g1
    exact (r2.new q m).2 ⟨l, e, g1, g2⟩
theorem CNew.held {K : PySem.W.Frag} {Γ1 : DE0} {σ : L2.St} {H Hf1 H1 : Hp} {v : V} {c : Cell} (r1 : CNew K σ H Γ1 Hf1 H1 v c) : ∀ q ∈ c.adrs, H1 q ≠ none := fun q m n => by
  obtain ⟨_, o, g, _⟩ := r1.at_.held m
  rw [g] at n
  cases n
theorem de_frz (h : DL X e t) : DE X e (dFrz t) := by
  refine ⟨pe_of h.run ?_⟩
  rintro σ H Q ⟨Γ, Hf, Q0, A, q, k⟩
  refine ⟨Γ, Hf, _, A, q, fun ds Γ' p vs Hf' H' hd S h1 h2 h3 h4 r => ?_⟩
  exact k (.list ds) Γ' (.ref p) _ H' hd (S.take h1 h2 h3 h4) (.lst upd_same (r.mono (same_new h3)))
theorem dl_lst (h : DA X es t) : DL X (.List es pos) (dLst t) := by
  refine ⟨pe_of (pe_lst h.run) ?_⟩
  rintro σ H Q ⟨Γ, Hf, Q0, A, h, k⟩
  refine ⟨Γ, Hf, _, A, h, fun ds Γ1 vs Hf1 H1 hd S1 r1 => ⟨by rw [r1.len]; exact hd.1, fun p hp => ?_⟩⟩
  have nf : Hf1 p = none := S1.abs.sub.free hp
  have no1 : ¬ Own Γ1 σ p := fun z => by
    obtain ⟨_, ws, w⟩ := S1.abs.noOwn z
    rw [hp] at w
    cases w
  have A2 : Abs X.K Γ1 σ Hf1 (upd H1 p (.lst vs)) := by
    refine ⟨fun b o q => ?_, S1.abs.len, fun i c q => ?_, S1.abs.sep⟩
    · rw [upd_ne (fun z => by subst z; rw [nf] at q; cases q)]
      exact S1.abs.sub b o q
    · obtain ⟨v, q1, q2⟩ := S1.abs.at_ i c q
      refine ⟨v, q1, q2.mono (Same.refl _) fun b m o g => ⟨?_, id⟩⟩
      rw [upd_ne (fun z => by subst z; rw [hp] at g; cases g)]
      exact g
  have hHp : H p = none := S1.there p hp
  refine k ds Γ1 p vs Hf1 _ hd.2 ⟨A2, S1.same, fun b o q n => ?_, S1.own, S1.fz, fun b q => S1.there b ?_⟩ hHp upd_same nf no1 r1
  · rw [upd_ne (fun z => by subst z; rw [hHp] at q; cases q)]
    exact S1.fr b o q n
  · by_cases z : b = p
    · subst z
      exact hp
    · rw [upd_ne z] at q
      exact q
end
end Dl
set_option maxHeartbeats 4000000
/-! t[::c] of a tuple. -/
namespace Dl
open PySem PySem.Spec PyProof.Rows L2 TL Bl HT
/-- every c-th item, from the end where c is negative -/
def stpN (n : Nat) (c : Int) : Int × Nat := (if c < 0 then (n : Int) - 1 else 0, Builtin.Slice.slicePlaces (if c < 0 then (n : Int) - 1 else 0) (if c < 0 then -1 else (n : Int)) c)
def stpL {α : Type} (xs : List α) (c : Int) : List α := (List.range (stpN xs.length c).2).filterMap fun (k : Nat) => xs[((stpN xs.length c).1 + (k : Int) * c).toNat]?
theorem adjust_step (n : Nat) (c : Int) : Builtin.Slice.sliceAdjust none none c (n : Int) = (if c < 0 then (n : Int) - 1 else 0, if c < 0 then -1 else (n : Int)) := by
  unfold Builtin.Slice.sliceAdjust
  by_cases h : c < 0
  · simp [h]
  · simp [h]
theorem vals_pick {xs : List V} {its : List Value} (r : Vals xs its) (f : Nat → Nat) : ∀ (l : List Nat), Vals (l.filterMap fun k => xs[f k]?) (l.filterMap fun k => its[f k]?)
  | [] => .nil
  | k :: l => by
    have ih := vals_pick r f l
    cases h : xs[f k]? with
    | none =>
      have h2 := r.none_of h
      simp only [List.filterMap_cons, h, h2]
      exact ih
    | some x =>
      obtain ⟨u, h2, q⟩ := r.get h
      simp only [List.filterMap_cons, h, h2]
      exact .cons q ih
theorem pick_len {α : Type} (xs : List α) (f : Nat → Nat) (l : List Nat) : (l.filterMap fun k => xs[f k]?).length ≤ l.length := List.length_filterMap_le _ _
section
variable {prog : Program} {w : World} {A : Around} {E : Value → Shared → Prop} {s : Shared}
theorem sliceApplied_step {sl : Addr} {u : Tok} {c : Int} {n : Nat} {Q : Int × Int × Nat → Shared → Prop} (hs : s.heap.IsSliceOf sl .none .none (.int c u)) (h0 : c ≠ 0)
    (h : Q ((stpN n c).1, c, (stpN n c).2) s) : wpAny (model prog w) A (Builtin.Slice.sliceApplied (.ref sl) (pure (n : Int))) Q E s := by
  obtain ⟨os, hos, hcs, hds⟩ := id hs
  unfold Builtin.Slice.sliceApplied Builtin.Slice.sliceFields
  refine wpAny_bind (wpAny_bind (wpAny_field hos hds (x := .none) rfl (wpAny_bind (wpAny_field hos hds (x := .none) rfl (wpAny_bind (wpAny_field hos hds (x := .int c u) rfl (wpAny_pure ?_)))))))
  refine wpAny_bind (slicePart_int ?_)
  show wpAny _ _ (if (c == 0) = true then _ else _) _ _ s
  rw [if_neg (by simpa using h0)]
  refine wpAny_bind (slicePart_none (wpAny_bind (slicePart_none (wpAny_bind (wpAny_pure ?_)))))
  show wpAny _ _ (match Builtin.Slice.sliceAdjust none none c (n : Int) with | (lo, hi) => pure (lo, c, Builtin.Slice.slicePlaces lo hi c)) _ _ s
  rw [adjust_step]
  exact wpAny_pure h
theorem getItem_tuple_step {t sl : Addr} {items : Array Value} {u : Tok} {c : Int} {Q : Value → Shared → Prop} (ht : IsTup s.heap t items) (hs : s.heap.IsSliceOf sl .none .none (.int c u)) (h0 : c ≠ 0)
    (hw : (stpN items.size c).1 = 0 → c = 1 → (stpN items.size c).2 = items.size → Q (.ref t) s)
    (h : Q (.ref s.heap.objs.size) { s with heap := s.heap.push { cls := .type "tuple", data := .seq ((List.range (stpN items.size c).2).filterMap fun (k : Nat) => items[((stpN items.size c).1 + (k : Int) * c).toNat]?).toArray } })
    (hsz : (stpN items.size c).2 ≤ sizeLine) : wpAny (model prog w) A (getItem (.ref t) (.ref sl)) Q E s := by
  have htake : sizeOk (.seq ((List.range (stpN items.size c).2).filterMap fun (k : Nat) => items[((stpN items.size c).1 + (k : Int) * c).toNat]?).toArray) := by
    show (((List.range (stpN items.size c).2).filterMap fun (k : Nat) => items[((stpN items.size c).1 + (k : Int) * c).toNat]?).toArray).size ≤ sizeLine
    rw [List.size_toArray]
    refine Nat.le_trans (List.length_filterMap_le _ _) ?_
    rw [List.length_range]
    exact hsz
  obtain ⟨os, hos, hcs, hds⟩ := id hs
  have hTs : s.TypeIs (.ref sl) "slice" := ⟨os, hos, hcs⟩
  unfold getItem
  try with_reducible refine wpAny_holding ?_
  first | refine wpAny_bind (wpAny_pure ?_) | skip
  refine wpAny_bind (wpAny_sequenceKey ht.typeIs (by decide) ?_)
  refine wpAny_bind (wpAny_callSpecial?_slot (name := Str.ofString "__getitem__") ht.typeIs PyProof.Rows.slot_tuple_getitem
    (wpAny_call_entry PyProof.Rows.slot_tuple_getitem ht.typeIs entry_tuple_getitem ?_ (args_tuple_getitem _ _)))
  show wpAny _ _ (Builtin.Tuple.tupleItemsOf (.ref t) >>= _) _ _ s
  refine wpAny_bind (tupleItemsOf_ ht ?_)
  refine wpAny_bind (wpAny_typeOf hTs ?_)
  rw [if_pos (by decide)]
  refine wpAny_bind (sliceApplied_step hs h0 ?_)
  show wpAny _ _ (if ((stpN items.size c).1 == 0 && c == 1 && (stpN items.size c).2 == items.size) = true then _ else _) _ _ s
  by_cases hc : ((stpN items.size c).1 == 0 && c == 1 && (stpN items.size c).2 == items.size) = true
  · rw [if_pos hc]
    rw [Bool.and_eq_true, Bool.and_eq_true] at hc
    have q := hw (eq_of_beq hc.1.1) (eq_of_beq hc.1.2) (eq_of_beq hc.2)
    refine wpAny_bind ?_
    show wpAny _ _ (typeOf (.ref t) >>= fun T => pure (T == .type "tuple")) _ _ s
    refine wpAny_bind (wpAny_typeOf ht.typeIs (wpAny_pure ?_))
    first
      | rw [if_pos (by decide)]
      | simp only [beq_self_eq_true, if_true]
    first
      | exact wpAny_bind (wpAny_rule (wpAny_pure ⟨_, rfl, wpAny_pure q⟩))
      | exact wpAny_bind (wpAny_rule (wpAny_bind (wpAny_pure (wpAny_pure ⟨_, rfl, wpAny_pure q⟩))))
  · rw [if_neg hc]
    first
      | exact wpAny_bind (m := Builtin.Tuple.tupleExact _) (wpAny_newObj_type (wpAny_pure ⟨_, rfl, wpAny_pure h⟩) htake)
      | exact wpAny_bind (m := Builtin.Tuple.tupleExact _) (wpAny_newObj_type (wpAny_bind (wpAny_pure (wpAny_pure ⟨_, rfl, wpAny_pure h⟩))) htake)
      | exact wpAny_bind (wpAny_bind (m := Builtin.Tuple.tupleExact _) (wpAny_newObj_type (wpAny_pure (wpAny_pure ⟨_, rfl, wpAny_pure h⟩)) htake))
      | exact wpAny_bind (wpAny_bind (m := Builtin.Tuple.tupleExact _) (wpAny_newObj_type (wpAny_pure ⟨_, rfl, wpAny_pure h⟩) htake))
end
theorem stp_whole {α : Type} (xs : List α) (h : (stpN xs.length 1).2 = xs.length) : stpL xs 1 = xs := by
  unfold stpL
  rw [h]
  have e : (fun (k : Nat) => xs[((stpN xs.length 1).1 + (k : Int) * 1).toNat]?) = fun (k : Nat) => xs[k]? := by
    funext k
    have : ((stpN xs.length 1).1 + (k : Int) * 1).toNat = k := by
      show (((if (1 : Int) < 0 then (xs.length : Int) - 1 else 0) + (k : Int) * 1)).toNat = k
      rw [if_neg (by decide)]
      omega
    rw [this]
  rw [e]
  apply List.ext_getElem?
  intro i
  clear h e
  induction xs generalizing i with
  | nil => simp
  | cons x r ih =>
    rw [List.length_cons, List.range_succ_eq_map, List.filterMap_cons_some (b := x) (by rfl), List.filterMap_map]
    cases i with
    | zero => rfl
    | succ j =>
      rw [List.getElem?_cons_succ, List.getElem?_cons_succ]
      exact ih j
theorem stp_le (n : Nat) (c : Int) (h0 : c ≠ 0) : (stpN n c).2 ≤ n := by
  show (if c > 0 then (if (if c < 0 then (n : Int) - 1 else 0) < (if c < 0 then -1 else (n : Int)) then ((if c < 0 then -1 else (n : Int)) - (if c < 0 then (n : Int) - 1 else 0) - 1) / c + 1 else 0) else (if (if c < 0 then (n : Int) - 1 else 0) > (if c < 0 then -1 else (n : Int)) then ((if c < 0 then (n : Int) - 1 else 0) - (if c < 0 then -1 else (n : Int)) - 1) / (-c) + 1 else 0)).toNat ≤ n
  rcases Int.lt_or_gt_of_ne h0 with h | h
  · rw [if_neg (by omega), if_pos h, if_pos h]
    split
    · have : ((n : Int) - 1 - -1 - 1) / (-c) ≤ ((n : Int) - 1 - -1 - 1) := by
        rw [Int.ediv_le_iff_le_mul (by omega)]
        have : ((n : Int) - 1 - -1 - 1) * 1 ≤ ((n : Int) - 1 - -1 - 1) * (-c) := Int.mul_le_mul_of_nonneg_left (by omega) (by omega)
        omega
      omega
    · omega
  · have n1 : ¬ c < 0 := by omega
    rw [if_pos h, if_neg n1, if_neg n1]
    split
    · have : ((n : Int) - 0 - 1) / c ≤ ((n : Int) - 0 - 1) := by
        rw [Int.ediv_le_iff_le_mul (by omega)]
        have : ((n : Int) - 0 - 1) * 1 ≤ ((n : Int) - 0 - 1) * c := Int.mul_le_mul_of_nonneg_left (by omega) (by omega)
        omega
      omega
    · omega
section
variable {X : Cx}
/-- t[::c], wherever the new tuple comes to lie -/
def tStep (K : PySem.W.Frag) (te tc : TE) : TE := fun σ H Q => te σ H fun x H1 => ∃ (a : Addr) (xs : List V), x = .ref a ∧ SqT K H1 a xs ∧ tc σ H1 fun y H2 => ∃ c : Int, y = .int c ∧ c ≠ 0 ∧ SqT K H2 a xs ∧ (stpL xs c = xs → Q (.ref a) H2) ∧ ∀ q, H2 q = none → Q (.ref q) (upd H2 q (.tup (stpL xs c)))
theorem pe_step {e f : Expr} {te tc : TE} {p3 pos : Pos} (he : PE X e te) (hf : PE X f tc) : PE X (.Subscript e (.Slice none none (some f) p3) pos) (tStep X.K te tc) := by
  refine ⟨fun pins s σ H Q I h => ?_⟩
  refine Subscript_ (thn (he.run pins s σ H _ I h) fun v s1 ⟨x, H1, I1, r1, q1⟩ => ?_)
  obtain ⟨a, xs, ex, hx, q⟩ := q1
  subst ex
  cases r1
  refine wpAny_Slice (thn (po_none.run pins s1 σ H1 (fun o H2 => o = none ∧ H2 = H1) I1 ⟨rfl, rfl⟩) fun vl s2 ⟨l, H2, I2, pl, el, e2⟩ => ?_)
  subst el e2
  refine thn (po_none.run pins s2 σ H2 (fun o H3 => o = none ∧ H3 = H2) I2 ⟨rfl, rfl⟩) fun vu s3 ⟨u, H3, I3, pu, eu, e3⟩ => ?_
  subst eu e3
  cases pl
  cases pu
  show wpAny _ _ (evalPart (some f) X.env) _ _ _
  rw [evalPart_some]
  refine thn (hf.run pins s3 σ H3 _ I3 q) fun v4 s4 ⟨y, H4, I4, r4, q4⟩ => ?_
  obtain ⟨c, rfl, h0, hx4, qw, q⟩ := q4
  obtain ⟨t, rfl⟩ := r4
  have I5 : Inv X pins σ H4 { s4 with heap := s4.heap.push { cls := .type "slice", data := .fields #[.none, .none, .int c t] } } := I4.kept (t' := s4.toks) fun b ob q => Heap.get?_push_of_some _ q
  obtain ⟨its, r, ht, hz⟩ := I5.tuple hx4
  have hlen : its.toArray.size = xs.length := by rw [List.size_toArray]; exact r.length.symm
  show wpAny (model X.prog X.w) X.A (subscriptTail e (.Slice none none (some f) p3) (.ref a) (.ref s4.heap.objs.size)) (EP X pins σ Q) X.xe { s4 with heap := s4.heap.push { cls := .type "slice", data := .fields #[.none, .none, .int c t] } }
  refine tail_any (ops := [.ref a, .ref s4.heap.objs.size]) ht.typeIs (PyProof.Rows.slot_tuple_getitem.lookup) ?_ (by with_unfolding_all rfl)
  have hle := stp_le xs.length c h0
  refine getItem_tuple_step ht (Heap.IsSliceOf.new _ _ _ _) h0 (fun _ e1 e2 => ?_) ?_ (by rw [hlen]; omega)
  · subst e1
    rw [hlen] at e2
    exact ⟨.ref a, H4, I5, rfl, qw (stp_whole xs e2)⟩
  · have rp : Vals (stpL xs c) ((List.range (stpN its.toArray.size c).2).filterMap fun (k : Nat) => its.toArray[((stpN its.toArray.size c).1 + (k : Int) * c).toNat]?) := by
      rw [hlen]
      have e : (fun (k : Nat) => its.toArray[((stpN xs.length c).1 + (k : Int) * c).toNat]?) = fun (k : Nat) => its[((stpN xs.length c).1 + (k : Int) * c).toNat]? := by
        funext k
        simp
      rw [e]
      exact vals_pick r (fun k => ((stpN xs.length c).1 + (k : Int) * c).toNat) _
    refine ⟨.ref _, _, I5.laid (t' := s4.toks) (o := .tup (stpL xs c)) (fun b ob q => Heap.get?_push_of_some _ q) (Nat.le_refl _) ?_, rfl, q _ (I5.hok.fresh (Nat.le_refl _))⟩
    refine ⟨?_, _, rp, IsTup.new _ _⟩
    refine Nat.le_trans (List.length_filterMap_le _ _) ?_
    rw [List.length_range]
    omega
end
end Dl
namespace Dl
open PySem PySem.Spec PyProof.Rows L2 TL Bl
section
variable {X : Cx} {e o : Expr} {es : List Expr} {te : DTE} {t : DTA} {pos p : Pos} {x : Str}
/-! ### calls by values -/
abbrev GN := List PyData → (PyData → Prop) → Prop
def rdC (K : PySem.W.Frag) (g : GN) : List V → Hp → VK → Prop := fun vs H Q => ∃ Hf ds Q0, Same Hf H ∧ RpAll K Hf vs ds ∧ g ds Q0 ∧ ∀ d v Hf' H', Q0 d → Ext Hf H Hf' H' → Rp K Hf' v d → Q v H'
def dCall (g : GN) (t : DTA) : DTE := fun Γ Q => t Γ fun ds Γ1 => g ds fun d => Q d Γ1
theorem rd_call {r : List V → Hp → VK → Prop} {g : GN} (hr : r = rdC X.K g) : ∀ σ H Q, rdE X.K (dCall g t) σ H Q → tCB r (rdA X.K t) σ H Q := by
  subst hr
  rintro σ H Q ⟨Γ, Hf, Q0, A, h, k⟩
  exact ⟨Γ, Hf, _, A, h, fun ds Γ1 vs Hf1 H1 hd S r => ⟨Hf1, ds, _, S.abs.sub, r, hd, fun d v Hf2 H2 q e rv => k d Γ1 v Hf2 H2 q (S.trans (S.abs.stp e)) rv⟩⟩
theorem de_callB {id : String} {g : GN} (hc : CallR X (.builtin id) (rdC X.K g)) (hg : Gl X x) (hm : X.mg x = none) (hv : bootBuiltins x = some (.builtin id)) (ha : DA X (e :: es) t) (hn : x ≠ "__name__" := by decide) (hdb : (x == ("__debug__" : Str)) = false := by decide)
    (he : starEach (e :: es) X.env = (false, eval e X.env) :: starEach es X.env := by rfl) (hpl : (backTo pos (starEach es X.env)).any (·.1) = false := by rfl) : DE X (.Call (.Name x p) (e :: es) [] pos) (dCall g t) :=
  ⟨pe_of (pe_callB hc hg hm hv ha.run hn hdb he hpl) (rd_call rfl)⟩
theorem de_callTy {T : String} {g : GN} (hc : CallR X (.type T) (rdC X.K g)) (hg : Gl X x) (hm : X.mg x = none) (hv : bootBuiltins x = some (.type T)) (ha : DA X (e :: es) t) (hn : x ≠ "__name__" := by decide) (hdb : (x == ("__debug__" : Str)) = false := by decide)
    (he : starEach (e :: es) X.env = (false, eval e X.env) :: starEach es X.env := by rfl) (hpl : (backTo pos (starEach es X.env)).any (·.1) = false := by rfl) : DE X (.Call (.Name x p) (e :: es) [] pos) (dCall g t) :=
  ⟨pe_of (pe_callTy hc hg hm hv ha.run hn hdb he hpl) (rd_call rfl)⟩
/-! ### methods of texts by values -/
abbrev GM := PyData → List PyData → (PyData → Prop) → Prop
def rdM (K : PySem.W.Frag) (g : GM) : V → List V → Hp → VK → Prop := fun x vs H Q => ∃ Hf dx ds Q0, Same Hf H ∧ Rp K Hf x dx ∧ RpAll K Hf vs ds ∧ g dx ds Q0 ∧ ∀ d v Hf' H', Q0 d → Ext Hf H Hf' H' → Rp K Hf' v d → Q v H'
def isStr : PyData → Bool
  | .str _ => true
  | _ => false
def dMth (g : GM) (te : DTE) (t : DTA) : DTE := fun Γ Q => te Γ fun d Γ1 => isStr d = true ∧ t Γ1 fun ds Γ2 => g d ds fun z => Q z Γ2
theorem de_mth {name : Str} {id : String} {g : GM} {apos cpos : Pos} (slot : Slot "str" name id) (hty : typeOf (.builtin id) = pure (.type "method_descriptor")) (hm : MtR X id (rdM X.K g)) (ho : DE X o te) (ha : DA X (e :: es) t)
    (hbase : attributeBase o name X.env (eval o X.env) = eval o X.env := by rfl)
    (hfew : ((backTo cpos (starEach (e :: es) X.env)).all (fun x => !x.1) && (backToKw cpos (keywordEach [] X.env)).all (fun x => x.1.isSome)
      && decide ((e :: es).length + ([] : List Keyword).length + (if ([] : List Keyword).isEmpty then 0 else 1) < 30)) = true := by rfl)
    (hline : (apos.endLine == cpos.line) = true := by rfl) (hs : starEach (e :: es) X.env = (false, eval e X.env) :: starEach es X.env := by rfl) (hplain : (backTo cpos (starEach es X.env)).any (·.1) = false := by rfl) :
    DE X (.Call (.Attribute o name apos) (e :: es) [] cpos) (dMth g te t) := by
  refine ⟨pe_of (pe_bm PySem.F.plainAttrs_str slot hty hm ho.run ha.run hbase hfew hline hs hplain) ?_⟩
  rintro σ H Q ⟨Γ, Hf, Q0, A, h, k⟩
  refine ⟨Γ, Hf, _, A, h, fun d Γ1 v Hf1 H1 hd S1 r1 => ⟨?_, Γ1, Hf1, _, S1.abs, hd.2, fun ds Γ2 vs Hf2 H2 hd2 S2 r2 => ⟨Hf2, d, ds, _, S2.abs.sub, r1.mono S2.same, r2, hd2, fun z w Hf3 H3 q e rv => k z Γ2 w Hf3 H3 q ((S1.trans S2).trans (S2.abs.stp e)) rv⟩⟩⟩
  cases r1 with
  | str x => rfl
  | _ => exact absurd hd.1 (by simp [isStr])
theorem de_mth0 {name : Str} {id : String} {g : GM} {apos cpos : Pos} (slot : Slot "str" name id) (hty : typeOf (.builtin id) = pure (.type "method_descriptor")) (hm : MtR X id (rdM X.K g)) (ho : DE X o te)
    (hbase : attributeBase o name X.env (eval o X.env) = eval o X.env := by rfl) (hline : (apos.endLine == cpos.line) = true := by rfl) :
    DE X (.Call (.Attribute o name apos) [] [] cpos) (dMth g te dNil) := by
  refine ⟨pe_of (pe_bm0 PySem.F.plainAttrs_str slot hty hm ho.run hbase hline) ?_⟩
  rintro σ H Q ⟨Γ, Hf, Q0, A, h, k⟩
  refine ⟨Γ, Hf, _, A, h, fun d Γ1 v Hf1 H1 hd S1 r1 => ⟨?_, Hf1, d, [], _, S1.abs.sub, r1, .nil, hd.2, fun z w Hf3 H3 q e rv => k z Γ1 w Hf3 H3 q (S1.trans (S1.abs.stp e)) rv⟩⟩
  cases r1 with
  | str x => rfl
  | _ => exact absurd hd.1 (by simp [isStr])
/-! ### slices -/
abbrev DTO := DE0 → (Option Int → DE0 → Prop) → Prop
def rdP (K : PySem.W.Frag) (t : DTO) : TO := fun σ H Q => ∃ Γ Hf Q0, Abs K Γ σ Hf H ∧ t Γ Q0 ∧ ∀ d Γ' Hf' H', Q0 d Γ' → Stp K Γ σ Hf H Γ' σ Hf' H' → Q d H'
structure DO (X : Cx) (e : Option Expr) (t : DTO) : Prop where
  run : PO X e (rdP X.K t)
theorem po_of {e : Option Expr} {t u : TO} (h : PO X e t) (k : ∀ σ H Q, u σ H Q → t σ H Q) : PO X e u := ⟨fun pins s σ H Q I q => h.run pins s σ H Q I (k σ H Q q)⟩
def dPart0 : DTO := fun Γ Q => Q none Γ
def dPart (t : DTE) : DTO := fun Γ Q => t Γ fun d Γ1 => match d with
  | .int i => Q (some i) Γ1
  | _ => False
theorem do_none : DO X none dPart0 := ⟨po_of po_none fun σ H Q ⟨Γ, Hf, Q0, A, h, k⟩ => k none Γ Hf H h (.refl A)⟩
theorem do_some (h : DE X e te) : DO X (some e) (dPart te) := by
  refine ⟨po_of (po_some h.run) ?_⟩
  rintro σ H Q ⟨Γ, Hf, Q0, A, h, k⟩
  refine ⟨Γ, Hf, _, A, h, fun d Γ1 v Hf1 H1 hd S r => ?_⟩
  cases r with
  | int i => exact ⟨i, rfl, k (some i) Γ1 Hf1 H1 hd S⟩
  | _ => exact hd.elim
abbrev GS := PyData → Option Int → Option Int → (PyData → Prop) → Prop
def rdSl (K : PySem.W.Frag) (g : GS) : V → Option Int → Option Int → Hp → VK → Prop := fun x lo hi H Q => ∃ Hf dx Q0, Same Hf H ∧ Rp K Hf x dx ∧ g dx lo hi Q0 ∧ ∀ d v Hf' H', Q0 d → Ext Hf H Hf' H' → Rp K Hf' v d → Q v H'
def cutD {α : Type} (xs : List α) (lo hi : Option Int) : List α := (xs.drop (HT.sIx xs.length 0 lo)).take (HT.sIx xs.length xs.length hi - HT.sIx xs.length 0 lo)
def gSlice : GS := fun d lo hi Q => match d with
  | .tuple xs => Q (.tuple (cutD xs lo hi))
  | .list xs => Q (.list (cutD xs lo hi))
  | .str x => x.length ≤ sizeLine ∧ Q (.str (cutS x lo hi))
  | _ => False
def dSl (te : DTE) (tl th : DTO) : DTE := fun Γ Q => te Γ fun d Γ1 => tl Γ1 fun lo Γ2 => th Γ2 fun hi Γ3 => gSlice d lo hi fun z => Q z Γ3
theorem RpAll.cut {K : PySem.W.Frag} {H : Hp} {vs : List V} {ds : List PyData} (r : RpAll K H vs ds) (lo hi : Option Int) : RpAll K H (cutV vs lo hi) (cutD ds lo hi) := by
  unfold cutV cutD
  rw [r.len]
  exact (r.drop _).take _
theorem sl_d : SlR X (rdSl X.K gSlice) := by
  intro pins s σ H x v vl vu lo hi sl Q I rx hs pl pu h
  obtain ⟨Hf, dx, Q0, sub, r, h, k⟩ := h
  cases r with
  | @lst a vs ds h1 h2 =>
    refine sl_list pins s σ H _ v vl vu lo hi sl Q I rx hs pl pu ⟨a, vs, rfl, SqL.of (sub _ _ h1), fun p hp => ?_⟩
    exact k _ _ _ _ h (Ext.new sub hp) (.lst upd_same ((h2.mono (same_new (sub.free hp))).cut lo hi))
  | @tup a vs ds h1 h2 =>
    refine sl_tupA pins s σ H _ v vl vu lo hi sl Q I rx hs pl pu ⟨a, vs, rfl, same_t sub h1, fun e => ?_, fun _ p hp => ?_⟩
    · have e2 : cutD ds lo hi = ds := by
        rw [h2.len] at e
        unfold cutD
        rw [e.1, e.2, List.drop_zero, Nat.sub_zero, List.take_length]
      refine k _ _ Hf H h (.refl sub) ?_
      rw [e2]
      exact .tup h1 h2
    · exact k _ _ _ _ h (Ext.new sub hp) (.tup (SqT.of upd_same) ((h2.mono (same_new (sub.free hp))).cut lo hi))
  | str z =>
    exact sl_str pins s σ H _ v vl vu lo hi sl Q I rx hs pl pu ⟨z, rfl, h.1, k _ _ Hf H h.2 (.refl sub) (.str _)⟩
  | _ => exact h.elim
theorem de_slice {lo hi : Option Expr} {tl th : DTO} {p2 : Pos} (he : DE X e te) (hl : DO X lo tl) (hu : DO X hi th) : DE X (.Subscript e (.Slice lo hi none p2) pos) (dSl te tl th) := by
  refine ⟨pe_of (pe_slice sl_d he.run hl.run hu.run) ?_⟩
  rintro σ H Q ⟨Γ, Hf, Q0, A, h, k⟩
  refine ⟨Γ, Hf, _, A, h, fun d Γ1 v Hf1 H1 hd S1 r1 => ?_⟩
  refine ⟨Γ1, Hf1, _, S1.abs, hd, fun l Γ2 Hf2 H2 hd2 S2 => ?_⟩
  refine ⟨Γ2, Hf2, _, S2.abs, hd2, fun u Γ3 Hf3 H3 hd3 S3 => ?_⟩
  exact ⟨Hf3, d, _, S3.abs.sub, r1.mono (S2.same.trans S3.same), hd3, fun z w Hf4 H4 q e rv => k z Γ3 w Hf4 H4 q (((S1.trans S2).trans S3).trans (S3.abs.stp e)) rv⟩
/-- t[::c] of a tuple -/
def dStep (te tc : DTE) : DTE := fun Γ Q => te Γ fun d Γ1 => match d with
  | .tuple xs => tc Γ1 fun c Γ2 => match c with
    | .int c => c ≠ 0 ∧ Q (.tuple (stpL xs c)) Γ2
    | _ => False
  | _ => False
theorem RpAll.pick {K : PySem.W.Frag} {H : Hp} {vs : List V} {ds : List PyData} (r : RpAll K H vs ds) (f : Nat → Nat) : ∀ (l : List Nat), RpAll K H (l.filterMap fun k => vs[f k]?) (l.filterMap fun k => ds[f k]?)
  | [] => .nil
  | k :: l => by
    have ih := RpAll.pick r f l
    cases h : vs[f k]? with
    | none =>
      have h2 : ds[f k]? = none := by
        rw [List.getElem?_eq_none_iff] at h ⊢
        rw [← r.len]
        exact h
      simp only [List.filterMap_cons, h, h2]
      exact ih
    | some x =>
      obtain ⟨u, h2, q⟩ := r.at h
      simp only [List.filterMap_cons, h, h2]
      exact .cons q ih
theorem RpAll.stp {K : PySem.W.Frag} {H : Hp} {vs : List V} {ds : List PyData} (r : RpAll K H vs ds) (c : Int) : RpAll K H (stpL vs c) (stpL ds c) := by
  unfold stpL
  rw [r.len]
  exact r.pick (fun k => ((stpN ds.length c).1 + (k : Int) * c).toNat) _
theorem de_step {f : Expr} {tc : DTE} {p3 : Pos} (he : DE X e te) (hf : DE X f tc) : DE X (.Subscript e (.Slice none none (some f) p3) pos) (dStep te tc) := by
  refine ⟨pe_of (pe_step he.run hf.run) ?_⟩
  rintro σ H Q ⟨Γ, Hf, Q0, A, h, k⟩
  refine ⟨Γ, Hf, _, A, h, fun d Γ1 v Hf1 H1 hd S1 r1 => ?_⟩
  cases r1 with
  | @tup a vs ds h1 h2 =>
    refine ⟨a, vs, rfl, same_t S1.abs.sub h1, Γ1, Hf1, _, S1.abs, hd, fun c Γ2 w Hf2 H2 hd2 S2 r2 => ?_⟩
    cases r2 with
    | int c =>
      have sq := same_t S2.same h1
      have r3 := (h2.mono S2.same).stp c
      refine ⟨c, rfl, hd2.1, same_t S2.abs.sub sq, fun e => ?_, fun q nq => ?_⟩
      · rw [e] at r3
        exact k _ Γ2 _ Hf2 _ hd2.2 (S1.trans S2) (.tup sq r3)
      · exact k _ Γ2 _ _ _ hd2.2 ((S1.trans S2).trans (S2.abs.stp (Ext.new S2.abs.sub nq))) (.tup (SqT.of upd_same) (r3.mono (same_new (S2.abs.sub.free nq))))
    | _ => exact hd2.elim
  | _ => exact hd.elim
end
end Dl
namespace Dl
open PySem PySem.Spec PyProof.Rows L2 TL Bl
section
variable {X : Cx} {e o : Expr} {es : List Expr} {te : DTE} {t : DTA} {tk : DTK} {pos p : Pos} {x : Str} {st : Stmt} {rest : List Stmt} {t1 t2 : DTS}
/-! ### statements -/
def dNext : DTS := fun D Γ => D.nx Γ
def dSeq (t u : DTS) : DTS := fun D Γ => t { D with nx := fun Γ1 => u D Γ1 } Γ
theorem dss_nil : DSs X [] dNext := ⟨pss_of pss_nil fun D σ H ⟨Γ, Hf, D0, A, h, k, _⟩ => k Γ σ Hf H h (.refl A)⟩
theorem dss_one (h : DS X st t1) : DSs X [st] t1 := ⟨pss_one h.run⟩
theorem dss_cons (h1 : DS X st t1) (h2 : DSs X rest t2) : DSs X (st :: rest) (dSeq t1 t2) := by
  refine ⟨pss_of (pss_cons h1.run h2.run) ?_⟩
  rintro D σ H ⟨Γ, Hf, D0, A, h, kn, kr, kb, kc⟩
  refine ⟨Γ, Hf, { D0 with nx := fun Γ1 => t2 D0 Γ1 }, A, h, fun Γ1 σ1 Hf1 H1 hq S1 => ?_, kr, kb, kc⟩
  exact ⟨Γ1, Hf1, D0, S1.abs, hq, fun Γ2 σ2 Hf2 H2 h2 S2 => kn Γ2 σ2 Hf2 H2 h2 (S1.trans S2), fun d Γ2 v σ2 Hf2 H2 h2 S2 r => kr d Γ2 v σ2 Hf2 H2 h2 (S1.trans S2) r, fun Γ2 σ2 Hf2 H2 h2 S2 => kb Γ2 σ2 Hf2 H2 h2 (S1.trans S2), fun Γ2 σ2 Hf2 H2 h2 S2 => kc Γ2 σ2 Hf2 H2 h2 (S1.trans S2)⟩
/-- a cut: what stands behind the first statement is named -/
def dCut (t u : DTS) : DTS := fun D Γ => ∃ M : DE0 → Prop, t { D with nx := M } Γ ∧ ∀ Γ1, M Γ1 → u D Γ1
theorem dss_cut (h1 : DS X st t1) (h2 : DSs X rest t2) : DSs X (st :: rest) (dCut t1 t2) := by
  refine ⟨pss_of (pss_cons h1.run h2.run) ?_⟩
  rintro D σ H ⟨Γ, Hf, D0, A, ⟨M, h, hM⟩, kn, kr, kb, kc⟩
  refine ⟨Γ, Hf, { D0 with nx := M }, A, h, fun Γ1 σ1 Hf1 H1 hq S1 => ?_, kr, kb, kc⟩
  exact ⟨Γ1, Hf1, D0, S1.abs, hM Γ1 hq, fun Γ2 σ2 Hf2 H2 h2 S2 => kn Γ2 σ2 Hf2 H2 h2 (S1.trans S2), fun d Γ2 v σ2 Hf2 H2 h2 S2 r => kr d Γ2 v σ2 Hf2 H2 h2 (S1.trans S2) r, fun Γ2 σ2 Hf2 H2 h2 S2 => kb Γ2 σ2 Hf2 H2 h2 (S1.trans S2), fun Γ2 σ2 Hf2 H2 h2 S2 => kc Γ2 σ2 Hf2 H2 h2 (S1.trans S2)⟩
def dNever : DTS := fun _ _ => False
theorem dss_never {sts : List Stmt} : DSs X sts dNever := ⟨pss_of pss_never fun D σ H ⟨Γ, Hf, D0, A, h, _⟩ => h.elim⟩
def dRet (t : DTE) : DTS := fun D Γ => t Γ D.rt
theorem ds_ret (he : DE X e te) : DS X (.Return (some e) pos) (dRet te) := by
  refine ⟨ps_of (ps_ret he.run) ?_⟩
  rintro D σ H ⟨Γ, Hf, D0, A, h, kn, kr, kb, kc⟩
  exact ⟨Γ, Hf, D0.rt, A, h, fun d Γ1 v Hf1 H1 hq S r => kr d Γ1 v σ Hf1 H1 hq S r⟩
def dDrop (t : DTE) : DTS := fun D Γ => t Γ fun _ Γ1 => D.nx Γ1
theorem ds_expr (he : DE X e te) (hs : swapsWith e none pos.line X.env = pure false := by rfl) : DS X (.Expr e pos) (dDrop te) := by
  refine ⟨ps_of (ps_expr he.run hs) ?_⟩
  rintro D σ H ⟨Γ, Hf, D0, A, h, kn, kr, kb, kc⟩
  exact ⟨Γ, Hf, _, A, h, fun d Γ1 v Hf1 H1 hq S r => kn Γ1 σ Hf1 H1 hq S⟩
def dIfS (c : DTT) (t u : DTS) : DTS := fun D Γ => c Γ fun b Γ1 => if b = true then t D Γ1 else u D Γ1
theorem ds_if {c : Expr} {a b : List Stmt} {tc : DTT} (hc : DT X c tc) (ha : DSs X a t1) (hb : DSs X b t2) : DS X (.If c a b pos) (dIfS tc t1 t2) := by
  refine ⟨ps_of (ps_if hc.run ha.run hb.run) ?_⟩
  rintro D σ H ⟨Γ, Hf, D0, A, h, kn, kr, kb, kc⟩
  refine ⟨Γ, Hf, _, A, h, fun d Γ1 Hf1 H1 hq S1 => ?_⟩
  have go : ∀ {t : DTS}, t D0 Γ1 → rdS X.K t D σ H1 := fun {t} hq => ⟨Γ1, Hf1, D0, S1.abs, hq, fun Γ2 σ2 Hf2 H2 h2 S2 => kn Γ2 σ2 Hf2 H2 h2 (S1.trans S2), fun d Γ2 v σ2 Hf2 H2 h2 S2 r => kr d Γ2 v σ2 Hf2 H2 h2 (S1.trans S2) r, fun Γ2 σ2 Hf2 H2 h2 S2 => kb Γ2 σ2 Hf2 H2 h2 (S1.trans S2), fun Γ2 σ2 Hf2 H2 h2 S2 => kc Γ2 σ2 Hf2 H2 h2 (S1.trans S2)⟩
  cases d with
  | true => exact iteT (go (by simpa using hq))
  | false => exact iteF (go (by simpa using hq))
/-! ### a slot takes a cell -/
section
variable {K : PySem.W.Frag} {Γ Γ' : DE0} {σ0 σ : L2.St} {Hf H Hf' H' : Hp} {v : V} {c : Cell}
theorem Stp.put (S : Stp K Γ σ0 Hf H Γ' σ Hf' H') (r : CNew K σ H Γ' Hf' H' v c) (i : Nat) : Stp K Γ σ0 Hf H (Γ'.set i (some c)) (σ.set i (some v)) Hf' H' := by
  have A := S.abs
  have old : ∀ (j : Nat) (q : Addr) (e : Cell), (Γ'.set i (some c))[j]? = some (some e) → (i = j ∧ c = e) ∨ (i ≠ j ∧ Γ'[j]? = some (some e)) := fun j q e h => by
    by_cases z : i = j
    · subst z
      rw [List.getElem?_set] at h
      simp at h
      exact .inl ⟨rfl, h.2⟩
    · rw [List.getElem?_set_ne z] at h
      exact .inr ⟨z, h⟩
  refine ⟨⟨A.sub, by simp [A.len], fun j e h => ?_, fun j k e1 e2 q g1 g2 m1 m2 => ?_⟩, S.same, S.fr, fun b h => ?_, S.fz, S.there⟩
  · by_cases z : i = j
    · subst z
      have hi : i < Γ'.length := by
        rcases Nat.lt_or_ge i Γ'.length with z | z
        · exact z
        · rw [List.getElem?_eq_none (by simp; exact z)] at h
          cases h
      rw [List.getElem?_set_self hi] at h
      cases h
      exact ⟨v, by rw [List.getElem?_set_self (by rw [← A.len]; exact hi)], r.at_⟩
    · rw [List.getElem?_set_ne z] at h ⊢
      exact A.at_ j e h
  · rcases old j q e1 g1 with ⟨z1, z2⟩ | ⟨z1, z2⟩
    · rcases old k q e2 g2 with ⟨f1, f2⟩ | ⟨f1, f2⟩
      · exact z1.symm.trans f1
      · subst z2
        exact absurd ⟨k, e2, f2, m2⟩ (r.new q m1).2
    · rcases old k q e2 g2 with ⟨f1, f2⟩ | ⟨f1, f2⟩
      · subst f2
        exact absurd ⟨j, e1, z2, m1⟩ (r.new q m2).2
      · exact A.sep j k e1 e2 q z2 f2 m1 m2
  · obtain ⟨j, e, g1, m⟩ := h
    rcases old j b e g1 with ⟨e1, e2⟩ | ⟨e1, e2⟩
    · subst e2
      exact .inr (r.new b m).1
    · exact S.own b ⟨j, e, e2, m⟩
end
def dSet (i : Nat) (t : DTK) : DTS := fun D Γ => t Γ fun c Γ1 => D.nx (Γ1.set i (some c))
theorem rd_set {i : Nat} {te : TE} (k : ∀ σ H Q, rdK X.K tk σ H Q → te σ H Q) : ∀ D σ H, rdS X.K (dSet i tk) D σ H → tAsg te (gName i) D σ H := by
  rintro D σ H ⟨Γ, Hf, D0, A, h, kn, kr, kb, kc⟩
  exact k _ _ _ ⟨Γ, Hf, _, A, h, fun c Γ1 v Hf1 H1 hq S r => kn _ _ Hf1 H1 hq (S.put r i)⟩
theorem ds_set {i : Nat} {pos' : Pos} (hN : X.N.Nodup) (hi : X.N[i]? = some x) (hx : Loc X.env.scope x) (he : DK X e tk) (hs : swapsWith e (some (.Name x pos')) pos.line X.env = pure false := by rfl) (hf : X.fn x = true ∨ X.env.scope.names.lookup x = some .local := by first | exact .inl rfl | exact .inr rfl | assumption) :
    DS X (.Assign [.Name x pos'] e pos) (dSet i tk) := ⟨ps_of (ps_set hN hi hx he.run hs hf) (rd_set fun _ _ _ q => q)⟩
/-- a, b = e, f -/
def dPar (i j : Nat) (t u : DTK) : DTS := fun D Γ => t Γ fun c Γ1 => u Γ1 fun c2 Γ2 => D.nx ((Γ2.set i (some c)).set j (some c2))
theorem ds_par {i j : Nat} {y : Str} {a b : Expr} {ta tb : DTK} {px py pt : Pos} {kt k2 pt2} (hc : X.calm = true) (hN : X.N.Nodup) (hi : X.N[i]? = some x) (hj : X.N[j]? = some y) (hij : i ≠ j)
    (hx : X.env.scope.names.lookup x = some .local) (hy : X.env.scope.names.lookup y = some .local) (ha : DK X a ta) (hb : DK X b tb)
    (hw : swappedStores [.Tuple [.Name x px, .Name y py] kt pt] (.Tuple [a, b] k2 pt2) X.env = pure (some [x, y]))
    (hs : swapsWithSole [.Tuple [.Name x px, .Name y py] kt pt] (.Tuple [a, b] k2 pt2) pos.line X.env = pure false := by rfl)
    (hsa : starEach [a, b] X.env = (false, eval a X.env) :: starEach [b] X.env := by rfl) (hsb : starEach [b] X.env = (false, eval b X.env) :: starEach [] X.env := by rfl) :
    DS X (.Assign [.Tuple [.Name x px, .Name y py] kt pt] (.Tuple [a, b] k2 pt2) pos) (dPar i j ta tb) := by
  constructor
  refine ps_of (ps_par hc hN hi hj hij hx hy (pa_cons ha.run (pa_cons hb.run pa_nil hsb) hsa) hw hs) ?_
  rintro D σ H ⟨Γ, Hf, D0, A, h, kn, kr, kb, kc⟩
  refine ⟨Γ, Hf, _, A, h, fun c Γ1 v Hf1 H1 hq S1 r1 => ?_⟩
  refine ⟨Γ1, Hf1, _, S1.abs, hq, fun c2 Γ2 w Hf2 H2 hq2 S2 r2 => ?_⟩
  refine ⟨v, w, rfl, kn _ _ Hf2 H2 hq2 ?_⟩
  -- the first cell stands behind the second's evaluation
  have r1' : CNew X.K σ H Γ2 Hf2 H2 v c := r1.later S2
  have T := (S1.trans S2).put r1' i
  -- the second is new over all that
  have r2' : CNew X.K (σ.set i (some v)) H (Γ2.set i (some c)) Hf2 H2 w c2 := r2.over S1.there r1.held
  exact T.put r2' j
end
end Dl
namespace Dl
open PySem PySem.Spec PyProof.Rows L2 TL Bl
/-! ### moves of the state -/
def dWipe (Γ : DE0) : List Nat → DE0
  | [] => Γ
  | v :: vs => (dWipe Γ vs).set v none
section
variable {K : PySem.W.Frag} {Γ0 Γ Γ' : DE0} {σ0 σ σ' : L2.St} {Hf0 H0 Hf H Hf' H' : Hp} {p : Addr} {o u : HO}
theorem dWipe_len : ∀ (vs : List Nat), (dWipe Γ vs).length = Γ.length
  | [] => rfl
  | v :: vs => by
    show ((dWipe Γ vs).set v none).length = _
    rw [List.length_set, dWipe_len vs]
theorem dWipe_some {i : Nat} {c : Cell} : ∀ {vs : List Nat}, (dWipe Γ vs)[i]? = some (some c) → Γ[i]? = some (some c) ∧ i ∉ vs
  | [], h => ⟨h, by simp⟩
  | v :: vs, h => by
    have h : ((dWipe Γ vs).set v none)[i]? = some (some c) := h
    by_cases e : v = i
    · subst e
      rw [List.getElem?_set] at h
      simp at h
    · rw [List.getElem?_set_ne e] at h
      obtain ⟨h1, h2⟩ := dWipe_some h
      exact ⟨h1, fun z => by rcases List.mem_cons.mp z with z | z; exact e z.symm; exact h2 z⟩
theorem Stp.wipe (S : Stp K Γ0 σ0 Hf0 H0 Γ σ Hf H) (vs : List Nat) : Stp K Γ0 σ0 Hf0 H0 (dWipe Γ vs) (wipe σ vs) Hf H := by
  have A := S.abs
  refine ⟨⟨A.sub, by rw [dWipe_len, wipe_length]; exact A.len, fun i c h => ?_, fun i j xs ys q h1 h2 m1 m2 => ?_⟩, S.same, S.fr, fun b h => ?_, S.fz, S.there⟩
  · obtain ⟨h1, h2⟩ := dWipe_some h
    obtain ⟨v, e, r⟩ := A.at_ i c h1
    exact ⟨v, by rw [wipe_out h2]; exact e, r⟩
  · exact A.sep i j xs ys q (dWipe_some h1).1 (dWipe_some h2).1 m1 m2
  · obtain ⟨i, xs, h1, m⟩ := h
    exact S.own b ⟨i, xs, (dWipe_some h1).1, m⟩
theorem Stp.unwipe {vs : List Nat} (S : Stp K Γ0 σ0 Hf0 H0 Γ (L2.wipe σ vs) Hf H) : Stp K Γ0 σ0 Hf0 H0 Γ σ Hf H := by
  have A := S.abs
  refine ⟨⟨A.sub, by rw [A.len, wipe_length], fun i c h => ?_, A.sep⟩, S.same, S.fr, fun b ⟨i, xs, h⟩ => S.own b ⟨i, xs, h⟩, S.fz, S.there⟩
  obtain ⟨v, e, r⟩ := A.at_ i c h
  exact ⟨v, (wipe_some e).1, r⟩
/-- an object that is neither frozen nor a slot's own stands, and stays apart -/
theorem Stp.apart (S : Stp K Γ σ Hf H Γ' σ' Hf' H') (h1 : H p = some o) (h2 : Hf p = none) (h3 : ¬ Own Γ σ p) : H' p = some o ∧ Hf' p = none ∧ ¬ Own Γ' σ' p := by
  refine ⟨S.fr p o h1 h3, Classical.byContradiction fun n => ?_, fun z => ?_⟩
  · rcases S.fz p n with z | z | z
    · exact z h2
    · exact h3 z
    · rw [h1] at z; cases z
  · rcases S.own p z with z | z
    · exact h3 z
    · rw [h1] at z; cases z
/-- such an object is written: nothing that is known is touched -/
theorem Stp.poke (S : Stp K Γ0 σ0 Hf0 H0 Γ σ Hf H) (h0 : H0 p = none) (h2 : Hf p = none) (h3 : ¬ Own Γ σ p) : Stp K Γ0 σ0 Hf0 H0 Γ σ Hf (upd H p u) := by
  have A := S.abs
  refine ⟨⟨fun b o q => ?_, A.len, fun i c h => ?_, A.sep⟩, S.same, fun b o q n => ?_, S.own, S.fz, fun b q => ?_⟩
  · rw [upd_ne (fun z => by subst z; rw [h2] at q; cases q)]
    exact A.sub b o q
  · obtain ⟨v, q1, q2⟩ := A.at_ i c h
    refine ⟨v, q1, q2.mono (Same.refl _) fun b m o g => ⟨?_, id⟩⟩
    rw [upd_ne (fun z => by subst z; exact h3 ⟨i, c, h, m⟩)]
    exact g
  · rw [upd_ne (fun z => by subst z; rw [h0] at q; cases q)]
    exact S.fr b o q n
  · by_cases z : b = p
    · subst z; exact h0
    · rw [upd_ne z] at q
      exact S.there b q
end
/-! ### walks, targets -/
structure ItD (K : PySem.W.Frag) (J : It) (Hf : Hp) (ds : List PyData) : Prop where
  go : ∀ (i : Nat) (Hc H : Hp), Same Hf Hc → Same Hc H → i < ds.length → J.go i H
  yld : ∀ (i : Nat) (Hc H : Hp) (x : V) (H' : Hp), Same Hf Hc → Same Hc H → i < ds.length → J.yld i H x H' → ∃ d Hc', ds[i]? = some d ∧ Ext Hc H Hc' H' ∧ Rp K Hc' x d
  stop : ∀ (i : Nat) (Hc H : Hp), Same Hf Hc → Same Hc H → ds.length ≤ i → J.stop i H
def rdI (K : PySem.W.Frag) (t : DTA) : TI := fun σ H R => ∃ Γ Hf Q0, Abs K Γ σ Hf H ∧ t Γ Q0 ∧ ∀ ds Γ' J Hf' H', Q0 ds Γ' → Stp K Γ σ Hf H Γ' σ Hf' H' → ItD K J Hf' ds → R J H'
structure DI (X : Cx) (tg iter : Expr) (t : DTA) : Prop where
  run : PI X tg iter (rdI X.K t)
abbrev DTG := PyData → DE0 → (DE0 → Prop) → Prop
def rdG (K : PySem.W.Frag) (ws : List Nat) (g : DTG) : TG := fun v σ H Q => ∃ Γ Hf d Q0, Abs K Γ σ Hf H ∧ Rp K Hf v d ∧ g d Γ Q0 ∧ ∀ Γ' σ' Hf' H', Q0 Γ' → Stp K Γ σ Hf H Γ' σ' Hf' H' → (∀ vs : List Nat, (∀ i ∈ ws, i ∈ vs) → wipe σ' vs = wipe σ vs) → Q σ' H'
structure DG (X : Cx) (tg : Expr) (ws : List Nat) (g : DTG) : Prop where
  run : PG X tg (rdG X.K ws g)
structure DQ (X : Cx) (ifs : List Expr) (t : DTT) : Prop where
  run : PTs X ifs (rdT X.K t)
theorem wipe_set {σ : L2.St} {v : Option V} {i : Nat} : ∀ {vs : List Nat}, i ∈ vs → wipe (σ.set i v) vs = wipe σ vs
  | w :: vs, h => by
    show (wipe (σ.set i v) vs).set w none = (wipe σ vs).set w none
    by_cases hi : i ∈ vs
    · rw [wipe_set hi]
    · have e : i = w := by
        rcases List.mem_cons.mp h with e | e
        · exact e
        · exact absurd e hi
      subst e
      have : ∀ (vs : List Nat), i ∉ vs → wipe (σ.set i v) vs = (wipe σ vs).set i v := by
        intro vs
        induction vs with
        | nil => intro _; rfl
        | cons w vs ih =>
          intro n
          show (wipe (σ.set i v) vs).set w none = ((wipe σ vs).set w none).set i v
          rw [ih (fun z => n (List.mem_cons_of_mem _ z))]
          exact List.set_comm _ _ (fun z => n (by rw [z]; exact List.mem_cons_self))
      rw [this vs hi, List.set_set]
section
variable {X : Cx} {e : Expr} {te : DTE} {t : DTA} {pos p : Pos} {x : Str} {tg : Expr}
def gN (i : Nat) : DTG := fun d Γ Q => Q (Γ.set i (some (.d d)))
theorem dg_name {i : Nat} (hN : X.N.Nodup) (hi : X.N[i]? = some x) (hx : Loc X.env.scope x) (hf : X.fn x = true ∨ X.env.scope.names.lookup x = some .local := by first | exact .inl rfl | exact .inr rfl | assumption) : DG X (.Name x pos) [i] (gN i) := by
  refine ⟨⟨fun pins s σ H v u Q I r h => (pg_name hN hi hx hf).run pins s σ H v u Q I r ?_⟩⟩
  obtain ⟨Γ, Hf, d, Q0, A, rv, h, k⟩ := h
  exact k _ _ Hf H h (A.put_stp rv i) fun vs hv => wipe_set (hv i List.mem_cons_self)
abbrev DTGs := List PyData → DE0 → (DE0 → Prop) → Prop
def rdGs (K : PySem.W.Frag) (ws : List Nat) (g : DTGs) : TGs := fun vs σ H Q => ∃ Γ Hf ds Q0, Abs K Γ σ Hf H ∧ RpAll K Hf vs ds ∧ g ds Γ Q0 ∧ ∀ Γ' σ' Hf' H', Q0 Γ' → Stp K Γ σ Hf H Γ' σ' Hf' H' → (∀ vs : List Nat, (∀ i ∈ ws, i ∈ vs) → wipe σ' vs = wipe σ vs) → Q σ' H'
structure DGs (X : Cx) (tgs : List Expr) (ws : List Nat) (g : DTGs) : Prop where
  run : PGs X tgs (rdGs X.K ws g)
def gN0 : DTGs := fun ds Γ Q => match ds with
  | [] => Q Γ
  | _ => False
def gNc (g : DTG) (gs : DTGs) : DTGs := fun ds Γ Q => match ds with
  | d :: r => g d Γ fun Γ1 => gs r Γ1 Q
  | [] => False
theorem dgs_nil : DGs X [] [] gN0 := by
  refine ⟨⟨fun pins s σ H vs us Q I r h => pgs_nil.run pins s σ H vs us Q I r ?_⟩⟩
  obtain ⟨Γ, Hf, ds, Q0, A, rv, h, k⟩ := h
  cases rv with
  | nil => exact ⟨rfl, k Γ σ Hf H h (.refl A) fun _ _ => rfl⟩
  | cons _ _ => exact h.elim
theorem dgs_cons {es : List Expr} {w1 w2 : List Nat} {g : DTG} {gs : DTGs} (h1 : DG X e w1 g) (h2 : DGs X es w2 gs)
    (hs : (assignEach (e :: es) X.env).map (·.2) = assign e X.env :: (assignEach es X.env).map (·.2) := by rfl) : DGs X (e :: es) (w1 ++ w2) (gNc g gs) := by
  refine ⟨⟨fun pins s σ H vs us Q I r h => (pgs_cons h1.run h2.run hs).run pins s σ H vs us Q I r ?_⟩⟩
  obtain ⟨Γ, Hf, ds, Q0, A, rv, h, k⟩ := h
  cases rv with
  | nil => exact h.elim
  | cons r1 r2 =>
    refine ⟨_, _, rfl, Γ, Hf, _, _, A, r1, h, fun Γ1 σ1 Hf1 H1 q1 S1 w1' => ?_⟩
    exact ⟨Γ1, Hf1, _, Q0, S1.abs, r2.mono S1.same, q1, fun Γ2 σ2 Hf2 H2 q2 S2 w2' => k Γ2 σ2 Hf2 H2 q2 (S1.trans S2) fun vs hv => (w2' vs fun i hi => hv i (List.mem_append_right _ hi)).trans (w1' vs fun i hi => hv i (List.mem_append_left _ hi))⟩
def gTupD (n : Nat) (gs : DTGs) : DTG := fun d Γ Q => match d with
  | .tuple ds => ds.length = n ∧ gs ds Γ Q
  | _ => False
theorem dg_tup {es : List Expr} {k : Nat} {gs : DTGs} {ws : List Nat} {n : Nat} (hc : X.calm = true) (h : DGs X es ws gs)
    (hn : (assignEach es X.env).length = n := by rfl) (hst : (assignEach es X.env).findIdx? (·.1) = none := by rfl) : DG X (.Tuple es k pos) ws (gTupD n gs) := by
  refine ⟨⟨fun pins s σ H v u Q I r h' => (pg_tup hc h.run hn hst).run pins s σ H v u Q I r ?_⟩⟩
  obtain ⟨Γ, Hf, d, Q0, A, rv, h', kk⟩ := h'
  cases rv with
  | tup h1 h2 => exact ⟨_, _, rfl, same_t A.sub h1, by rw [h2.len]; exact h'.1, Γ, Hf, _, Q0, A, h2, h'.2, kk⟩
  | _ => exact h'.elim
/-- target = data -/
def dAsg (t : DTE) (g : DTG) : DTS := fun D Γ => t Γ fun d Γ1 => g d Γ1 D.nx
theorem ds_asg {ws : List Nat} {g : DTG} (he : DE X e te) (hg : DG X tg ws g) (hs : swapsWithSole [tg] e pos.line X.env = pure false := by rfl) (hw : swappedStores [tg] e X.env = pure none := by rfl)
    (h1 : (assignEach [tg] X.env).map (·.2) = [assign tg X.env] := by rfl) : DS X (.Assign [tg] e pos) (dAsg te g) := by
  refine ⟨ps_of (ps_asg he.run hg.run hs hw h1) ?_⟩
  rintro D σ H ⟨Γ, Hf, D0, A, h, kn, kr, kb, kc⟩
  refine ⟨Γ, Hf, _, A, h, fun d Γ1 v Hf1 H1 hq S r => ?_⟩
  exact ⟨Γ1, Hf1, d, D0.nx, S.abs, r, hq, fun Γ2 σ2 Hf2 H2 q2 S2 _ => kn Γ2 σ2 Hf2 H2 q2 (S.trans S2)⟩
/-! ### for -/
def dLoop (g : DTG) (tb : DTS) (D : DEnds) : List PyData → DE0 → Prop
  | [], Γ => D.nx Γ
  | d :: ds, Γ => g d Γ fun Γ1 => tb { D with nx := dLoop g tb D ds, ct := dLoop g tb D ds, bk := D.nx } Γ1
def dFor (t : DTA) (g : DTG) (tb : DTS) : DTS := fun D Γ => t Γ fun ds Γ1 => dLoop g tb D ds Γ1
theorem ds_for {iter : Expr} {body : List Stmt} {ws : List Nat} {g : DTG} {tb : DTS} (hp : PassesOwn (model X.prog X.w) X.A X.env X.xe) (hc : X.calm = true) (hi : DI X tg iter t) (hg : DG X tg ws g) (hb : DSs X body tb)
    (hs : ∀ x, foldedSetIterable iter X.env x = pure x := by intro _; rfl) : DS X (.For tg iter body [] pos) (dFor t g tb) := by
  refine ⟨ps_of (ps_for hp hc hi.run hg.run hb.run hs) ?_⟩
  rintro D σ H ⟨Γ, Hf, D0, A, h, kn, kr, kb, kc⟩
  refine ⟨Γ, Hf, _, A, h, fun ds Γ1 J Hf1 H1 hq S1 It => ?_⟩
  refine ⟨fun i m σ' H' => m = ds.length - i ∧ i ≤ ds.length ∧ ∃ Γ' Hf', Stp X.K Γ1 σ Hf1 H1 Γ' σ' Hf' H' ∧ dLoop g tb D0 (ds.drop i) Γ', ⟨ds.length, rfl, Nat.zero_le _, Γ1, Hf1, .refl S1.abs, hq⟩, ?_⟩
  rintro i m σ2 H2 ⟨rfl, hi, Γ2, Hf2, S2, q2⟩
  have S12 := S1.trans S2
  rcases Nat.lt_or_ge i ds.length with hlt | hge
  · refine .inr ⟨It.go i Hf2 H2 S2.same S2.abs.sub hlt, fun σ' H' => ∃ Γ' Hf', Stp X.K Γ1 σ Hf1 H1 Γ' σ' Hf' H' ∧ dLoop g tb D0 (ds.drop (i + 1)) Γ', fun σ' H' z => ⟨ds.length - (i + 1), by omega, rfl, hlt, z⟩, ?_⟩
    intro y H3 hy
    obtain ⟨d, Hf3, ed, E3, r3⟩ := It.yld i Hf2 H2 y H3 S2.same S2.abs.sub hlt hy
    have S3 := S2.abs.stp E3
    have el : ds.drop i = d :: ds.drop (i + 1) := by
      rw [List.drop_eq_getElem_cons hlt]
      rw [List.getElem?_eq_getElem hlt] at ed
      rw [Option.some.inj ed]
    rw [el] at q2
    refine ⟨Γ2, Hf3, d, _, S3.abs, r3, q2, fun Γ4 σ4 Hf4 H4 q4 S4 _ => ?_⟩
    have T := (S2.trans S3).trans S4
    refine ⟨Γ4, Hf4, _, S4.abs, q4, fun Γ5 σ5 Hf5 H5 q5 S5 => ⟨Γ5, Hf5, T.trans S5, q5⟩, fun d Γ5 v σ5 Hf5 H5 q5 S5 r => kr d Γ5 v σ5 Hf5 H5 q5 (S1.trans (T.trans S5)) r, fun Γ5 σ5 Hf5 H5 q5 S5 => kn Γ5 σ5 Hf5 H5 q5 (S1.trans (T.trans S5)), fun Γ5 σ5 Hf5 H5 q5 S5 => ⟨Γ5, Hf5, T.trans S5, q5⟩⟩
  · have e : i = ds.length := by omega
    subst e
    rw [List.drop_length] at q2
    exact .inl ⟨It.stop _ Hf2 H2 S2.same S2.abs.sub (Nat.le_refl _), kn Γ2 σ2 Hf2 H2 q2 S12⟩
/-- while, by an invariant with a measure -/
def dWhile (c : DTT) (tb : DTS) : DTS := fun D Γ => ∃ W : Nat → DE0 → Prop, (∃ m, W m Γ) ∧ ∀ m Γ, W m Γ → c Γ fun b Γ1 => if b = true then tb { D with nx := fun Γ2 => ∃ m', m' < m ∧ W m' Γ2, ct := fun Γ2 => ∃ m', m' < m ∧ W m' Γ2, bk := D.nx } Γ1 else D.nx Γ1
theorem ds_while {c : Expr} {body : List Stmt} {tc : DTT} {tb : DTS} (hp : PassesOwn (model X.prog X.w) X.A X.env X.xe) (hc : DT X c tc) (hb : DSs X body tb) : DS X (.While c body [] pos) (dWhile tc tb) := by
  refine ⟨ps_of (ps_while hp hc.run hb.run) ?_⟩
  rintro D σ H ⟨Γ, Hf, D0, A, ⟨W, ⟨m0, w0⟩, turn⟩, kn, kr, kb, kc⟩
  refine ⟨fun m σ' H' => ∃ Γ' Hf', Stp X.K Γ σ Hf H Γ' σ' Hf' H' ∧ W m Γ', ⟨m0, Γ, Hf, .refl A, w0⟩, ?_⟩
  rintro m σ1 H1 ⟨Γ1, Hf1, S1, w1⟩
  refine ⟨Γ1, Hf1, _, S1.abs, turn m Γ1 w1, fun b Γ2 Hf2 H2 q2 S2 => ?_⟩
  have T := S1.trans S2
  cases b with
  | false => exact iteF (kn Γ2 σ1 Hf2 H2 (by simpa using q2) T)
  | true =>
    rw [if_pos rfl] at q2
    refine iteT ⟨fun σ' H' => ∃ m', m' < m ∧ ∃ Γ' Hf', Stp X.K Γ σ Hf H Γ' σ' Hf' H' ∧ W m' Γ', fun σ' H' ⟨m', h1, h2⟩ => ⟨m', h1, h2⟩, Γ2, Hf2, _, T.abs, q2, fun Γ5 σ5 Hf5 H5 ⟨m', h1, h2⟩ S5 => ⟨m', h1, Γ5, Hf5, T.trans S5, h2⟩, fun d Γ5 v σ5 Hf5 H5 q5 S5 r => kr d Γ5 v σ5 Hf5 H5 q5 (T.trans S5) r, fun Γ5 σ5 Hf5 H5 q5 S5 => kn Γ5 σ5 Hf5 H5 q5 (T.trans S5), fun Γ5 σ5 Hf5 H5 ⟨m', h1, h2⟩ S5 => ⟨m', h1, Γ5, Hf5, T.trans S5, h2⟩⟩
/-! ### comprehensions -/
def dYes : DTT := fun Γ Q => Q true Γ
theorem dq_nil : DQ X [] dYes := ⟨⟨fun pins s σ H Q I h => pts_nil.run pins s σ H Q I (let ⟨Γ, Hf, Q0, A, q, k⟩ := h; k true Γ Hf H q (.refl A))⟩⟩
theorem dq_one {c : Expr} {t : DTT} (h : DT X c t) : DQ X [c] t := ⟨pts_one h.run⟩
def dLc1 (g : DTG) (tt : DTT) (te : DTE) (vs : List Nat) (Q : List PyData → DE0 → Prop) : List PyData → List PyData → DE0 → Prop
  | [], acc, Γ => Q acc Γ
  | d :: ds, acc, Γ => g d Γ fun Γ1 => tt Γ1 fun b Γ2 => if b = true then te Γ2 fun y Γ3 => acc.length < sizeLine ∧ dLc1 g tt te vs Q ds (acc ++ [y]) (dWipe Γ3 vs) else dLc1 g tt te vs Q ds acc (dWipe Γ2 vs)
def dLc (t : DTA) (g : DTG) (tt : DTT) (te : DTE) (vs : List Nat) : DTA := fun Γ Q => t Γ fun ds Γ1 => dLc1 g tt te vs Q ds [] (dWipe Γ1 vs)
theorem rd_lc {K : PySem.W.Frag} {ws : List Nat} {g : DTG} {tt : DTT} {vs : List Nat} (hw : ∀ i ∈ ws, i ∈ vs) : ∀ σ H Q, rdL K (dLc t g tt te vs) σ H Q → tLc (rdI K t) (rdG K ws g) (rdT K tt) (rdE K te) vs σ H Q := by
  rintro σ H Q ⟨Γ, Hf, Q0, A, h, k⟩
  refine ⟨Γ, Hf, _, A, h, fun ds Γ1 J Hf1 H1 hq S1 It D hD => ?_⟩
  have nf : Hf1 D = none := S1.abs.sub.free hD
  have no1 : ¬ Own Γ1 σ D := fun z => by
    obtain ⟨_, ws, w⟩ := S1.abs.noOwn z
    rw [hD] at w
    cases w
  have W1 := (Stp.refl S1.abs).wipe vs
  have now1 : ¬ Own (dWipe Γ1 vs) (wipe σ vs) D := fun ⟨i, xs, z1, m1⟩ => no1 ⟨i, xs, (dWipe_some z1).1, m1⟩
  refine ⟨fun i m H' => m = ds.length - i ∧ i ≤ ds.length ∧ ∃ acc va Γ' Hf', Stp K Γ1 σ Hf1 H1 Γ' (wipe σ vs) Hf' H' ∧ H' D = some (.lst va) ∧ Hf' D = none ∧ ¬ Own Γ' (wipe σ vs) D ∧ RpAll K Hf' va acc ∧ dLc1 g tt te vs Q0 (ds.drop i) acc Γ',
    ⟨ds.length, rfl, Nat.zero_le _, [], [], dWipe Γ1 vs, Hf1, W1.poke hD nf now1, upd_same, nf, now1, .nil, hq⟩, ?_⟩
  rintro i m H2 ⟨rfl, hi, acc, va, Γ2, Hf2, S2, hD2, nf2, no2, ra, q2⟩
  rcases Nat.lt_or_ge i ds.length with hlt | hge
  · refine .inr ⟨It.go i Hf2 H2 S2.same S2.abs.sub hlt, fun H' => ∃ acc va Γ' Hf', Stp K Γ1 σ Hf1 H1 Γ' (wipe σ vs) Hf' H' ∧ H' D = some (.lst va) ∧ Hf' D = none ∧ ¬ Own Γ' (wipe σ vs) D ∧ RpAll K Hf' va acc ∧ dLc1 g tt te vs Q0 (ds.drop (i + 1)) acc Γ', fun H' z => ⟨ds.length - (i + 1), by omega, rfl, hlt, z⟩, ?_⟩
    intro y H3 hy
    obtain ⟨d, Hf3, ed, E3, r3⟩ := It.yld i Hf2 H2 y H3 S2.same S2.abs.sub hlt hy
    have S3 := S2.abs.stp E3
    have el : ds.drop i = d :: ds.drop (i + 1) := by
      rw [List.drop_eq_getElem_cons hlt]
      rw [List.getElem?_eq_getElem hlt] at ed
      rw [Option.some.inj ed]
    rw [el] at q2
    obtain ⟨hD3, nf3, no3⟩ := S3.apart hD2 nf2 no2
    refine ⟨Γ2, Hf3, d, _, S3.abs, r3, q2, fun Γ4 σ4 Hf4 H4 q4 S4 w4 => ?_⟩
    have ew : wipe σ4 vs = wipe σ vs := by
      rw [w4 vs hw]
      have : ∀ (us : List Nat), (∀ i ∈ us, i ∈ vs) → wipe (wipe σ vs) us = wipe σ vs := by
        intro us
        induction us with
        | nil => intro _; rfl
        | cons u us ih =>
          intro hu
          show (wipe (wipe σ vs) us).set u none = wipe σ vs
          rw [ih fun i hi => hu i (List.mem_cons_of_mem _ hi)]
          apply List.ext_getElem?
          intro j
          rw [List.getElem?_set]
          split
          · rename_i e
            subst e
            split
            · rename_i hl
              have : ∀ (ws : List Nat), u ∈ ws → (wipe σ ws)[u]? = some none ∨ (wipe σ ws).length ≤ u := by
                intro ws
                induction ws with
                | nil => intro z; cases z
                | cons w ws ih2 =>
                  intro z
                  show ((wipe σ ws).set w none)[u]? = some none ∨ ((wipe σ ws).set w none).length ≤ u
                  rw [List.length_set]
                  by_cases e : w = u
                  · subst e
                    rcases Nat.lt_or_ge w (wipe σ ws).length with q | q
                    · left
                      rw [List.getElem?_set_self q]
                    · exact .inr q
                  · rw [List.getElem?_set_ne e]
                    exact ih2 (by rcases List.mem_cons.mp z with z | z; exact absurd z.symm e; exact z)
              rcases this vs (hu u List.mem_cons_self) with q | q
              · exact q.symm
              · omega
            · rename_i hl
              exact (List.getElem?_eq_none (by omega)).symm
          · rfl
      exact this vs fun i hi => hi
    obtain ⟨hD4, nf4, no4⟩ := S4.apart hD3 nf3 no3
    refine ⟨ew, Γ4, Hf4, _, S4.abs, q4, fun b Γ5 Hf5 H5 q5 S5 => ?_⟩
    obtain ⟨hD5, nf5, no5⟩ := S5.apart hD4 nf4 no4
    have T5 := ((S2.trans S3).trans S4).trans S5
    have ra5 := ra.mono ((S3.same.trans S4.same).trans S5.same)
    cases b with
    | false =>
      refine iteF ?_
      rw [if_neg Bool.false_ne_true] at q5
      have T6 := T5.wipe vs
      rw [ew] at T6
      exact ⟨acc, va, _, Hf5, T6, hD5, nf5, fun ⟨i, xs, z1, m1⟩ => no5 ⟨i, xs, (dWipe_some z1).1, m1⟩, ra5, q5⟩
    | true =>
      refine iteT ?_
      rw [if_pos rfl] at q5
      refine ⟨Γ5, Hf5, _, S5.abs, q5, fun z Γ6 v Hf6 H6 q6 S6 r6 => ?_⟩
      obtain ⟨hD6, nf6, no6⟩ := S6.apart hD5 nf5 no5
      have ra6 := ra5.mono S6.same
      have T6 := (T5.trans S6).wipe vs
      rw [ew] at T6
      have no6' : ¬ Own (dWipe Γ6 vs) (wipe σ vs) D := fun ⟨i, xs, z1, m1⟩ => no6 ⟨i, xs, (dWipe_some z1).1, m1⟩
      exact ⟨va, hD6, by rw [ra6.len]; exact q6.1, acc ++ [z], va ++ [v], _, Hf6, T6.poke hD nf6 no6', upd_same, nf6, no6', ra6.app (.cons r6 .nil), q6.2⟩
  · have e : i = ds.length := by omega
    subst e
    rw [List.drop_length] at q2
    have T := S1.trans S2.unwipe
    have no : ¬ Own Γ2 σ D := fun ⟨i, xs, z1⟩ => no2 ⟨i, xs, z1⟩
    exact .inl ⟨It.stop _ Hf2 H2 S2.same S2.abs.sub (Nat.le_refl _), k acc Γ2 D va Hf2 H2 q2 T (S1.there D hD) hD2 nf2 no ra⟩
end
end Dl
namespace Dl
open PySem PySem.Spec PyProof.Rows L2 TL Bl
section
variable {X : Cx} {e elt iter : Expr} {te : DTE} {t : DTA} {pos p : Pos} {x : Str} {tg : Expr} {g : DTG} {tt : DTT} {ws : List Nat} {scope : Scope} {own : List (Str × Nat)} {ifs : List Expr}
theorem dl_lc (hc : X.calm = true) (hN : X.N.Nodup) (hi : DI X tg iter t) (ok : BlkOk X.N X.env.scope scope own)
    (hg : ∀ (s : Shared) (H : Hp) (C : Addr) (cl : List (Str × Addr)) (fp : List Addr), DG (X.blk s H scope (compEnvC scope cl C X.env) fp) tg ws g) (ht : ∀ (s : Shared) (H : Hp) (C : Addr) (cl : List (Str × Addr)) (fp : List Addr), DQ (X.blk s H scope (compEnvC scope cl C X.env) fp) ifs tt)
    (he : ∀ (s : Shared) (H : Hp) (C : Addr) (cl : List (Str × Addr)) (fp : List Addr), DE (X.blk s H scope (compEnvC scope cl C X.env) fp) elt te) (hw : ∀ i ∈ ws, i ∈ own.map (·.2) := by decide) (hs : ∀ x, foldedSetIterable iter X.env x = pure x := by intro _; rfl) :
    DL X (.ListComp elt [⟨tg, iter, ifs, 0⟩] scope pos) (dLc t g tt te (own.map (·.2))) :=
  ⟨pe_of (pe_lc (own := own) hc hN hi.run ok (fun s H C cl fp => (hg s H C cl fp).run) (fun s H C cl fp => (ht s H C cl fp).run) (fun s H C cl fp => (he s H C cl fp).run) hs) (rd_lc hw)⟩
/-- name = [..] -/
theorem ds_setLc {i : Nat} {py spos : Pos} {y : Str} {tk : DTK} (hc : X.calm = true) (hN : X.N.Nodup) (hy : X.N[i]? = some y) (hyl : X.env.scope.names.lookup y = some .local)
    (hsw : swapsWith (.ListComp elt [⟨tg, iter, ifs, 0⟩] scope pos) (some (.Name y py)) spos.line X.env = pure true) (hi : DI X tg iter t) (ok : BlkOk X.N X.env.scope scope own)
    (hg : ∀ (s : Shared) (H : Hp) (C : Addr) (cl : List (Str × Addr)) (fp : List Addr), DG (X.blk s H scope (compEnvC scope cl C X.env) fp) tg ws g) (ht : ∀ (s : Shared) (H : Hp) (C : Addr) (cl : List (Str × Addr)) (fp : List Addr), DQ (X.blk s H scope (compEnvC scope cl C X.env) fp) ifs tt)
    (he : ∀ (s : Shared) (H : Hp) (C : Addr) (cl : List (Str × Addr)) (fp : List Addr), DE (X.blk s H scope (compEnvC scope cl C X.env) fp) elt te) (hk : ∀ σ H Q, rdK X.K tk σ H Q → rdL X.K (dLc t g tt te (own.map (·.2))) σ H Q) (hw : ∀ i ∈ ws, i ∈ own.map (·.2) := by decide) (hs : ∀ x, foldedSetIterable iter X.env x = pure x := by intro _; rfl) :
    DS X (.Assign [.Name y py] (.ListComp elt [⟨tg, iter, ifs, 0⟩] scope pos) spos) (dSet i tk) :=
  ⟨ps_of (ps_setLc (own := own) hc hN hy hyl hsw hi.run ok (fun s H C cl fp => (hg s H C cl fp).run) (fun s H C cl fp => (ht s H C cl fp).run) (fun s H C cl fp => (he s H C cl fp).run) hs) (rd_set fun σ H Q q => rd_lc hw σ H Q (hk σ H Q q))⟩
theorem rk_own {K : PySem.W.Frag} : ∀ σ H Q, rdK K (dkL t) σ H Q → rdL K t σ H Q := fun σ H Q ⟨Γ, Hf, Q0, A, q, k⟩ => ⟨Γ, Hf, _, A, q, fun ds Γ' p vs Hf' H' hd S h1 h2 h3 h4 r => k (.own p ds) Γ' _ Hf' H' (hd p) S (.own h1 h2 h3 h4 r)⟩
theorem rk_frz {K : PySem.W.Frag} : ∀ σ H Q, rdK K (dkE (dFrz t)) σ H Q → rdL K t σ H Q := fun σ H Q ⟨Γ, Hf, Q0, A, q, k⟩ => ⟨Γ, Hf, _, A, q, fun ds Γ' p vs Hf' H' hd S h1 h2 h3 h4 r => k (.d (.list ds)) Γ' _ _ H' hd (S.take h1 h2 h3 h4) (.d (.lst upd_same (r.mono (same_new h3))))⟩
/-! ### two clauses -/
section
variable {tg1 iter1 : Expr} {ifs1 : List Expr} {ws1 vs1 : List Nat} {t1 : DTA} {g1 : DTG} {tt1 : DTT}
def dLc2o (g : DTG) (tt : DTT) (t1 : DTA) (g1 : DTG) (tt1 : DTT) (te : DTE) (vs vs1 : List Nat) (Q : List PyData → DE0 → Prop) : List PyData → List PyData → DE0 → Prop
  | [], acc, Γ => Q acc Γ
  | d :: ds, acc, Γ => g d Γ fun Γ1 => tt Γ1 fun b Γ2 => if b = true then t1 Γ2 fun es Γ3 => dLc1 g1 tt1 te vs1 (fun acc' Γ4 => dLc2o g tt t1 g1 tt1 te vs vs1 Q ds acc' (dWipe Γ4 vs)) es acc (dWipe Γ3 vs1) else dLc2o g tt t1 g1 tt1 te vs vs1 Q ds acc (dWipe Γ2 vs)
def dLc2 (t : DTA) (g : DTG) (tt : DTT) (t1 : DTA) (g1 : DTG) (tt1 : DTT) (te : DTE) (vs vs1 : List Nat) : DTA := fun Γ Q => t Γ fun ds Γ1 => dLc2o g tt t1 g1 tt1 te vs vs1 Q ds [] (dWipe Γ1 vs)
theorem wipe_none {σ : L2.St} {u : Nat} : ∀ (ws : List Nat), u ∈ ws → (wipe σ ws)[u]? = some none ∨ (wipe σ ws).length ≤ u := by
  intro ws
  induction ws with
  | nil => intro z; cases z
  | cons w ws ih2 =>
    intro z
    show ((wipe σ ws).set w none)[u]? = some none ∨ ((wipe σ ws).set w none).length ≤ u
    rw [List.length_set]
    by_cases e : w = u
    · subst e
      rcases Nat.lt_or_ge w (wipe σ ws).length with q | q
      · left
        rw [List.getElem?_set_self q]
      · exact .inr q
    · rw [List.getElem?_set_ne e]
      exact ih2 (by rcases List.mem_cons.mp z with z | z; exact absurd z.symm e; exact z)
theorem wipe_in {σ : L2.St} {vs : List Nat} : ∀ (us : List Nat), (∀ i ∈ us, i ∈ vs) → wipe (wipe σ vs) us = wipe σ vs := by
  intro us
  induction us with
  | nil => intro _; rfl
  | cons u us ih =>
    intro hu
    show (wipe (wipe σ vs) us).set u none = wipe σ vs
    rw [ih fun i hi => hu i (List.mem_cons_of_mem _ hi)]
    apply List.ext_getElem?
    intro j
    rw [List.getElem?_set]
    split
    · rename_i e
      subst e
      split
      · rename_i hl
        rcases wipe_none vs (hu u List.mem_cons_self) with q | q
        · exact q.symm
        · omega
      · rename_i hl
        exact (List.getElem?_eq_none (by omega)).symm
    · rfl
/-- one clause's loop, over an accumulator that stands apart -/
theorem lc1_loop {K : PySem.W.Frag} {Γb Γ1 : DE0} {σb σ : L2.St} {Hfb Hb Hf1 H1 : Hp} {D : Addr} {Q0 : List PyData → DE0 → Prop} {Nx : Hp → Prop} {J : It} {ds acc0 : List PyData} {va0 : List V} (hw : ∀ i ∈ ws, i ∈ vs1)
    (S1 : Stp K Γb σb Hfb Hb Γ1 σ Hf1 H1) (hB : Hb D = none) (hD : H1 D = some (.lst va0)) (nf : Hf1 D = none) (no1 : ¬ Own Γ1 σ D) (ra0 : RpAll K Hf1 va0 acc0) (It : ItD K J Hf1 ds) (hq : dLc1 g tt te vs1 Q0 ds acc0 (dWipe Γ1 vs1))
    (k : ∀ acc va Γ' Hf' H', Stp K Γb σb Hfb Hb Γ' σ Hf' H' → H' D = some (.lst va) → Hf' D = none → ¬ Own Γ' σ D → RpAll K Hf' va acc → Q0 acc Γ' → Nx H') :
    ∃ W1 : Nat → Nat → Hp → Prop, (∃ m, W1 0 m H1) ∧ ∀ j k H, W1 j k H → (J.stop j H ∧ Nx H) ∨ (J.go j H ∧ ∃ Nx1 : Hp → Prop, (∀ H', Nx1 H' → ∃ k', k' < k ∧ W1 (j + 1) k' H') ∧ ∀ x H', J.yld j H x H' → rdG K ws g x (wipe σ vs1) H' fun σ3 H5 => wipe σ3 vs1 = wipe σ vs1 ∧ rdT K tt σ3 H5 fun b H6 =>
        if b = true then rdE K te σ3 H6 fun y H7 => ∃ acc, H7 D = some (.lst acc) ∧ acc.length < sizeLine ∧ Nx1 (upd H7 D (.lst (acc ++ [y]))) else Nx1 H6) := by
  have W1 := S1.wipe vs1
  have now1 : ¬ Own (dWipe Γ1 vs1) (wipe σ vs1) D := fun ⟨i, xs, z1, m1⟩ => no1 ⟨i, xs, (dWipe_some z1).1, m1⟩
  refine ⟨fun i m H' => m = ds.length - i ∧ i ≤ ds.length ∧ ∃ acc va Γ' Hf', Same Hf1 Hf' ∧ Stp K Γb σb Hfb Hb Γ' (wipe σ vs1) Hf' H' ∧ H' D = some (.lst va) ∧ Hf' D = none ∧ ¬ Own Γ' (wipe σ vs1) D ∧ RpAll K Hf' va acc ∧ dLc1 g tt te vs1 Q0 (ds.drop i) acc Γ',
    ⟨ds.length, rfl, Nat.zero_le _, acc0, va0, dWipe Γ1 vs1, Hf1, Same.refl _, W1, hD, nf, now1, ra0, hq⟩, ?_⟩
  rintro i m H2 ⟨rfl, hi, acc, va, Γ2, Hf2, sm2, S2, hD2, nf2, no2, ra, q2⟩
  rcases Nat.lt_or_ge i ds.length with hlt | hge
  · refine .inr ⟨It.go i Hf2 H2 sm2 S2.abs.sub hlt, fun H' => ∃ acc va Γ' Hf', Same Hf1 Hf' ∧ Stp K Γb σb Hfb Hb Γ' (wipe σ vs1) Hf' H' ∧ H' D = some (.lst va) ∧ Hf' D = none ∧ ¬ Own Γ' (wipe σ vs1) D ∧ RpAll K Hf' va acc ∧ dLc1 g tt te vs1 Q0 (ds.drop (i + 1)) acc Γ', fun H' z => ⟨ds.length - (i + 1), by omega, rfl, hlt, z⟩, ?_⟩
    intro y H3 hy
    obtain ⟨d, Hf3, ed, E3, r3⟩ := It.yld i Hf2 H2 y H3 sm2 S2.abs.sub hlt hy
    have S3 := S2.abs.stp E3
    have el : ds.drop i = d :: ds.drop (i + 1) := by
      rw [List.drop_eq_getElem_cons hlt]
      rw [List.getElem?_eq_getElem hlt] at ed
      rw [Option.some.inj ed]
    rw [el] at q2
    obtain ⟨hD3, nf3, no3⟩ := S3.apart hD2 nf2 no2
    refine ⟨Γ2, Hf3, d, _, S3.abs, r3, q2, fun Γ4 σ4 Hf4 H4 q4 S4 w4 => ?_⟩
    have ew : wipe σ4 vs1 = wipe σ vs1 := by
      rw [w4 vs1 hw]
      exact wipe_in vs1 fun i hi => hi
    obtain ⟨hD4, nf4, no4⟩ := S4.apart hD3 nf3 no3
    refine ⟨ew, Γ4, Hf4, _, S4.abs, q4, fun b Γ5 Hf5 H5 q5 S5 => ?_⟩
    obtain ⟨hD5, nf5, no5⟩ := S5.apart hD4 nf4 no4
    have T5 := ((S2.trans S3).trans S4).trans S5
    have sm5 := sm2.trans ((S3.same.trans S4.same).trans S5.same)
    have ra5 := ra.mono ((S3.same.trans S4.same).trans S5.same)
    cases b with
    | false =>
      refine iteF ?_
      rw [if_neg Bool.false_ne_true] at q5
      have T6 := T5.wipe vs1
      rw [ew] at T6
      exact ⟨acc, va, _, Hf5, sm5, T6, hD5, nf5, fun ⟨i, xs, z1, m1⟩ => no5 ⟨i, xs, (dWipe_some z1).1, m1⟩, ra5, q5⟩
    | true =>
      refine iteT ?_
      rw [if_pos rfl] at q5
      refine ⟨Γ5, Hf5, _, S5.abs, q5, fun z Γ6 v Hf6 H6 q6 S6 r6 => ?_⟩
      obtain ⟨hD6, nf6, no6⟩ := S6.apart hD5 nf5 no5
      have ra6 := ra5.mono S6.same
      have T6 := (T5.trans S6).wipe vs1
      rw [ew] at T6
      have no6' : ¬ Own (dWipe Γ6 vs1) (wipe σ vs1) D := fun ⟨i, xs, z1, m1⟩ => no6 ⟨i, xs, (dWipe_some z1).1, m1⟩
      exact ⟨va, hD6, by rw [ra6.len]; exact q6.1, acc ++ [z], va ++ [v], _, Hf6, sm5.trans S6.same, T6.poke hB nf6 no6', upd_same, nf6, no6', ra6.app (.cons r6 .nil), q6.2⟩
  · have e : i = ds.length := by omega
    subst e
    rw [List.drop_length] at q2
    have no : ¬ Own Γ2 σ D := fun ⟨i, xs, z1⟩ => no2 ⟨i, xs, z1⟩
    exact .inl ⟨It.stop _ Hf2 H2 sm2 S2.abs.sub (Nat.le_refl _), k acc va Γ2 Hf2 H2 S2.unwipe hD2 nf2 no ra q2⟩
theorem rd_lc2 {K : PySem.W.Frag} {vs : List Nat} (hw : ∀ i ∈ ws, i ∈ vs) (hw1 : ∀ i ∈ ws1, i ∈ vs1) : ∀ σ H Q, rdL K (dLc2 t g tt t1 g1 tt1 te vs vs1) σ H Q → tLc2 (rdI K t) (rdG K ws g) (rdT K tt) (rdI K t1) (rdG K ws1 g1) (rdT K tt1) (rdE K te) vs vs1 σ H Q := by
  rintro σ H Q ⟨Γ, Hf, Q0, A, h, k⟩
  refine ⟨Γ, Hf, _, A, h, fun ds Γ1 J Hf1 H1 hq S1 It D hD => ?_⟩
  have nf : Hf1 D = none := S1.abs.sub.free hD
  have no1 : ¬ Own Γ1 σ D := fun z => by
    obtain ⟨_, ws, w⟩ := S1.abs.noOwn z
    rw [hD] at w
    cases w
  have W1 := (Stp.refl S1.abs).wipe vs
  have now1 : ¬ Own (dWipe Γ1 vs) (wipe σ vs) D := fun ⟨i, xs, z1, m1⟩ => no1 ⟨i, xs, (dWipe_some z1).1, m1⟩
  refine ⟨fun i m H' => m = ds.length - i ∧ i ≤ ds.length ∧ ∃ acc va Γ' Hf', Stp K Γ1 σ Hf1 H1 Γ' (wipe σ vs) Hf' H' ∧ H' D = some (.lst va) ∧ Hf' D = none ∧ ¬ Own Γ' (wipe σ vs) D ∧ RpAll K Hf' va acc ∧ dLc2o g tt t1 g1 tt1 te vs vs1 Q0 (ds.drop i) acc Γ',
    ⟨ds.length, rfl, Nat.zero_le _, [], [], dWipe Γ1 vs, Hf1, W1.poke hD nf now1, upd_same, nf, now1, .nil, hq⟩, ?_⟩
  rintro i m H2 ⟨rfl, hi, acc, va, Γ2, Hf2, S2, hD2, nf2, no2, ra, q2⟩
  rcases Nat.lt_or_ge i ds.length with hlt | hge
  · refine .inr ⟨It.go i Hf2 H2 S2.same S2.abs.sub hlt, fun H' => ∃ acc va Γ' Hf', Stp K Γ1 σ Hf1 H1 Γ' (wipe σ vs) Hf' H' ∧ H' D = some (.lst va) ∧ Hf' D = none ∧ ¬ Own Γ' (wipe σ vs) D ∧ RpAll K Hf' va acc ∧ dLc2o g tt t1 g1 tt1 te vs vs1 Q0 (ds.drop (i + 1)) acc Γ', fun H' z => ⟨ds.length - (i + 1), by omega, rfl, hlt, z⟩, ?_⟩
    intro y H3 hy
    obtain ⟨d, Hf3, ed, E3, r3⟩ := It.yld i Hf2 H2 y H3 S2.same S2.abs.sub hlt hy
    have S3 := S2.abs.stp E3
    have el : ds.drop i = d :: ds.drop (i + 1) := by
      rw [List.drop_eq_getElem_cons hlt]
      rw [List.getElem?_eq_getElem hlt] at ed
      rw [Option.some.inj ed]
    rw [el] at q2
    obtain ⟨hD3, nf3, no3⟩ := S3.apart hD2 nf2 no2
    refine ⟨Γ2, Hf3, d, _, S3.abs, r3, q2, fun Γ4 σ4 Hf4 H4 q4 S4 w4 => ?_⟩
    have ew : wipe σ4 vs = wipe σ vs := by
      rw [w4 vs hw]
      exact wipe_in vs fun i hi => hi
    obtain ⟨hD4, nf4, no4⟩ := S4.apart hD3 nf3 no3
    refine ⟨ew, Γ4, Hf4, _, S4.abs, q4, fun b Γ5 Hf5 H5 q5 S5 => ?_⟩
    obtain ⟨hD5, nf5, no5⟩ := S5.apart hD4 nf4 no4
    have T5 := ((S2.trans S3).trans S4).trans S5
    have ra5 := ra.mono ((S3.same.trans S4.same).trans S5.same)
    cases b with
    | false =>
      refine iteF ?_
      rw [if_neg Bool.false_ne_true] at q5
      have T6 := T5.wipe vs
      rw [ew] at T6
      exact ⟨acc, va, _, Hf5, T6, hD5, nf5, fun ⟨i, xs, z1, m1⟩ => no5 ⟨i, xs, (dWipe_some z1).1, m1⟩, ra5, q5⟩
    | true =>
      refine iteT ?_
      rw [if_pos rfl] at q5
      refine ⟨Γ5, Hf5, _, S5.abs, q5, fun es Γ6 J1 Hf6 H6 q6 S6 It1 => ?_⟩
      obtain ⟨hD6, nf6, no6⟩ := S6.apart hD5 nf5 no5
      have ra6 := ra5.mono S6.same
      refine lc1_loop (Γb := Γ1) (σb := σ) (Hfb := Hf1) (Hb := H1) hw1 (T5.trans S6) hD hD6 nf6 no6 ra6 It1 q6 fun acc' va' Γ7 Hf7 H7 S7 h7 n7 o7 r7 q7 => ?_
      have T7 := S7.wipe vs
      rw [ew] at T7
      exact ⟨acc', va', _, Hf7, T7, h7, n7, fun ⟨i, xs, z1, m1⟩ => o7 ⟨i, xs, (dWipe_some z1).1, m1⟩, r7, q7⟩
  · have e : i = ds.length := by omega
    subst e
    rw [List.drop_length] at q2
    have T := S1.trans S2.unwipe
    have no : ¬ Own Γ2 σ D := fun ⟨i, xs, z1⟩ => no2 ⟨i, xs, z1⟩
    exact .inl ⟨It.stop _ Hf2 H2 S2.same S2.abs.sub (Nat.le_refl _), k acc Γ2 D va Hf2 H2 q2 T (S1.there D hD) hD2 nf2 no ra⟩
theorem dl_lc2 (hc : X.calm = true) (hN : X.N.Nodup) (hi : DI X tg iter t) (ok : BlkOk X.N X.env.scope scope own) (hv : ∀ i ∈ vs1, i ∈ own.map (·.2))
    (hg : ∀ (s : Shared) (H : Hp) (C : Addr) (cl : List (Str × Addr)) (fp : List Addr), DG (X.blk s H scope (compEnvC scope cl C X.env) fp) tg ws g) (ht : ∀ (s : Shared) (H : Hp) (C : Addr) (cl : List (Str × Addr)) (fp : List Addr), DQ (X.blk s H scope (compEnvC scope cl C X.env) fp) ifs tt)
    (hi1 : ∀ (s : Shared) (H : Hp) (C : Addr) (cl : List (Str × Addr)) (fp : List Addr), DI (X.blk s H scope (compEnvC scope cl C X.env) fp) tg1 iter1 t1)
    (hg1 : ∀ (s : Shared) (H : Hp) (C : Addr) (cl : List (Str × Addr)) (fp : List Addr), DG (X.blk s H scope (compEnvC scope cl C X.env) fp) tg1 ws1 g1) (ht1 : ∀ (s : Shared) (H : Hp) (C : Addr) (cl : List (Str × Addr)) (fp : List Addr), DQ (X.blk s H scope (compEnvC scope cl C X.env) fp) ifs1 tt1)
    (he : ∀ (s : Shared) (H : Hp) (C : Addr) (cl : List (Str × Addr)) (fp : List Addr), DE (X.blk s H scope (compEnvC scope cl C X.env) fp) elt te) (hw : ∀ i ∈ ws, i ∈ own.map (·.2) := by decide) (hw1 : ∀ i ∈ ws1, i ∈ vs1 := by decide) (hs : ∀ x, foldedSetIterable iter X.env x = pure x := by intro _; rfl) (hs1 : ∀ env x, foldedSetIterable iter1 env x = pure x := by intro _ _; rfl) :
    DL X (.ListComp elt [⟨tg, iter, ifs, 0⟩, ⟨tg1, iter1, ifs1, 0⟩] scope pos) (dLc2 t g tt t1 g1 tt1 te (own.map (·.2)) vs1) :=
  ⟨pe_of (pe_lc2 (own := own) (vs1 := vs1) hc hN hi.run ok hv (fun s H C cl fp => (hg s H C cl fp).run) (fun s H C cl fp => (ht s H C cl fp).run) (fun s H C cl fp => (hi1 s H C cl fp).run) (fun s H C cl fp => (hg1 s H C cl fp).run) (fun s H C cl fp => (ht1 s H C cl fp).run) (fun s H C cl fp => (he s H C cl fp).run) hs hs1) (rd_lc2 hw hw1)⟩
theorem ds_setLc2 {i : Nat} {py spos : Pos} {y : Str} {tk : DTK} (hc : X.calm = true) (hN : X.N.Nodup) (hy : X.N[i]? = some y) (hyl : X.env.scope.names.lookup y = some .local)
    (hsw : swapsWith (.ListComp elt [⟨tg, iter, ifs, 0⟩, ⟨tg1, iter1, ifs1, 0⟩] scope pos) (some (.Name y py)) spos.line X.env = pure true) (hi : DI X tg iter t) (ok : BlkOk X.N X.env.scope scope own) (hv : ∀ i ∈ vs1, i ∈ own.map (·.2))
    (hg : ∀ (s : Shared) (H : Hp) (C : Addr) (cl : List (Str × Addr)) (fp : List Addr), DG (X.blk s H scope (compEnvC scope cl C X.env) fp) tg ws g) (ht : ∀ (s : Shared) (H : Hp) (C : Addr) (cl : List (Str × Addr)) (fp : List Addr), DQ (X.blk s H scope (compEnvC scope cl C X.env) fp) ifs tt)
    (hi1 : ∀ (s : Shared) (H : Hp) (C : Addr) (cl : List (Str × Addr)) (fp : List Addr), DI (X.blk s H scope (compEnvC scope cl C X.env) fp) tg1 iter1 t1)
    (hg1 : ∀ (s : Shared) (H : Hp) (C : Addr) (cl : List (Str × Addr)) (fp : List Addr), DG (X.blk s H scope (compEnvC scope cl C X.env) fp) tg1 ws1 g1) (ht1 : ∀ (s : Shared) (H : Hp) (C : Addr) (cl : List (Str × Addr)) (fp : List Addr), DQ (X.blk s H scope (compEnvC scope cl C X.env) fp) ifs1 tt1)
    (he : ∀ (s : Shared) (H : Hp) (C : Addr) (cl : List (Str × Addr)) (fp : List Addr), DE (X.blk s H scope (compEnvC scope cl C X.env) fp) elt te) (hk : ∀ σ H Q, rdK X.K tk σ H Q → rdL X.K (dLc2 t g tt t1 g1 tt1 te (own.map (·.2)) vs1) σ H Q) (hw : ∀ i ∈ ws, i ∈ own.map (·.2) := by decide) (hw1 : ∀ i ∈ ws1, i ∈ vs1 := by decide) (hs : ∀ x, foldedSetIterable iter X.env x = pure x := by intro _; rfl) (hs1 : ∀ env x, foldedSetIterable iter1 env x = pure x := by intro _ _; rfl) :
    DS X (.Assign [.Name y py] (.ListComp elt [⟨tg, iter, ifs, 0⟩, ⟨tg1, iter1, ifs1, 0⟩] scope pos) spos) (dSet i tk) :=
  ⟨ps_of (ps_setLc2 (own := own) (vs1 := vs1) hc hN hy hyl hsw hi.run ok hv (fun s H C cl fp => (hg s H C cl fp).run) (fun s H C cl fp => (ht s H C cl fp).run) (fun s H C cl fp => (hi1 s H C cl fp).run) (fun s H C cl fp => (hg1 s H C cl fp).run) (fun s H C cl fp => (ht1 s H C cl fp).run) (fun s H C cl fp => (he s H C cl fp).run) hs hs1) (rd_set fun σ H Q q => rd_lc2 hw hw1 σ H Q (hk σ H Q q))⟩
end
end
end Dl
namespace Dl
open PySem PySem.Spec PyProof.Rows L2 TL Bl
section
variable {X : Cx} {e o : Expr} {es : List Expr} {te ti : DTE} {t : DTA} {pos p apos cpos : Pos} {x : Str} {tg : Expr} {K : PySem.W.Frag}
/-! ### what is walked -/
def dSeqL (te : DTE) : DTA := fun Γ Q => te Γ fun d Γ1 => match d with
  | .list ds => Q ds Γ1
  | _ => False
def dSeqT (te : DTE) : DTA := fun Γ Q => te Γ fun d Γ1 => match d with
  | .tuple ds => Q ds Γ1
  | _ => False
theorem itd_list {Hf : Hp} {a : Addr} {vs : List V} {ds : List PyData} (h : Hf a = some (.lst vs)) (r : RpAll K Hf vs ds) : ItD K (Itl K a) Hf ds := by
  refine ⟨fun i Hc H s1 s2 hi => ?_, fun i Hc H x H' s1 s2 hi ⟨e, q⟩ => ?_, fun i Hc H s1 s2 hi => ?_⟩
  · have hv : i < vs.length := by rw [r.len]; exact hi
    exact ⟨vs, vs[i], SqL.of (s2 _ _ (s1 _ _ h)), List.getElem?_eq_getElem hv⟩
  · subst e
    obtain ⟨d, h1, h2⟩ := r.at (q vs (SqL.of (s2 _ _ (s1 _ _ h))))
    exact ⟨d, Hc, h1, .refl s2, h2.mono s1⟩
  · exact ⟨vs, SqL.of (s2 _ _ (s1 _ _ h)), by rw [r.len]; exact hi⟩
theorem itd_tup {Hf : Hp} {a : Addr} {vs : List V} {ds : List PyData} (h : SqT K Hf a vs) (r : RpAll K Hf vs ds) : ItD K (Itt K a) Hf ds := by
  refine ⟨fun i Hc H s1 s2 hi => ?_, fun i Hc H x H' s1 s2 hi ⟨e, q⟩ => ?_, fun i Hc H s1 s2 hi => ?_⟩
  · have hv : i < vs.length := by rw [r.len]; exact hi
    exact ⟨vs, vs[i], same_t s2 (same_t s1 h), List.getElem?_eq_getElem hv⟩
  · subst e
    obtain ⟨d, h1, h2⟩ := r.at (q vs (same_t s2 (same_t s1 h)))
    exact ⟨d, Hc, h1, .refl s2, h2.mono s1⟩
  · exact ⟨vs, same_t s2 (same_t s1 h), by rw [r.len]; exact hi⟩
theorem pi_of {iter : Expr} {t u : TI} (h : PI X tg iter t) (k : ∀ σ H R, u σ H R → t σ H R) : PI X tg iter u := ⟨fun pins s σ H R I q => h.run pins s σ H R I (k σ H R q)⟩
theorem di_list (he : DE X e te) : DI X tg e (dSeqL te) := by
  refine ⟨pi_of (pi_list he.run) ?_⟩
  rintro σ H R ⟨Γ, Hf, Q0, A, h, k⟩
  refine ⟨Γ, Hf, _, A, h, fun d Γ1 v Hf1 H1 hq S r => ?_⟩
  cases r with
  | @lst a vs ds h1 h2 => exact ⟨a, rfl, ⟨vs, SqL.of (S.abs.sub _ _ h1)⟩, k ds Γ1 _ Hf1 H1 hq S (itd_list h1 h2)⟩
  | _ => exact hq.elim
theorem di_tup (he : DE X e te) : DI X tg e (dSeqT te) := by
  refine ⟨pi_of (pi_tup he.run) ?_⟩
  rintro σ H R ⟨Γ, Hf, Q0, A, h, k⟩
  refine ⟨Γ, Hf, _, A, h, fun d Γ1 v Hf1 H1 hq S r => ?_⟩
  cases r with
  | @tup a vs ds h1 h2 => exact ⟨a, rfl, ⟨vs, same_t S.abs.sub h1⟩, k ds Γ1 _ Hf1 H1 hq S (itd_tup h1 h2)⟩
  | _ => exact hq.elim
/-- a str's signs -/
def chD (c : Nat) : PyData := .str ⟨#[c]⟩
def dSeqS (te : DTE) : DTA := fun Γ Q => te Γ fun d Γ1 => match d with
  | .str z => Q (z.cps.toList.map chD) Γ1
  | _ => False
theorem di_str (he : DE X e te) : DI X tg e (dSeqS te) := by
  refine ⟨pi_of (pi_str he.run) ?_⟩
  rintro σ H R ⟨Γ, Hf, Q0, A, h, k⟩
  refine ⟨Γ, Hf, _, A, h, fun d Γ1 v Hf1 H1 hq S r => ?_⟩
  cases r with
  | str z =>
    refine ⟨z, rfl, k _ Γ1 _ Hf1 H1 hq S ⟨fun i Hc H s1 s2 hi => ?_, fun i Hc H x H' s1 s2 hi ⟨e, c, q1, q2⟩ => ?_, fun i Hc H s1 s2 hi => ?_⟩⟩
    · rw [List.length_map, Array.length_toList] at hi
      exact hi
    · subst e q2
      refine ⟨chD c, Hc, ?_, .refl s2, .str _⟩
      rw [List.getElem?_map, Array.getElem?_toList, q1]
      rfl
    · rw [List.length_map, Array.length_toList] at hi
      exact hi
  | _ => exact hq.elim
def rngD (lo : Int) (n : Nat) : List PyData := (List.range n).map fun (i : Nat) => PyData.int (lo + (i : Int))
theorem rngD_at {lo : Int} {n i : Nat} (h : i < n) : (rngD lo n)[i]? = some (.int (lo + (i : Int))) := by
  unfold rngD
  rw [List.getElem?_map, List.getElem?_range h]
  rfl
theorem itd_rng {Hf : Hp} {lo : Int} {n : Nat} : ItD K (Itr lo n) Hf (rngD lo n) := by
  have len : (rngD lo n).length = n := by unfold rngD; rw [List.length_map, List.length_range]
  refine ⟨fun i Hc H s1 s2 hi => by rw [len] at hi; exact hi, fun i Hc H x H' s1 s2 hi ⟨e, q⟩ => ?_, fun i Hc H s1 s2 hi => by rw [len] at hi; exact hi⟩
  subst e q
  rw [len] at hi
  exact ⟨_, Hc, rngD_at hi, .refl s2, .int _⟩
def dRng1 (t : DTA) : DTA := fun Γ Q => t Γ fun ds Γ1 => match ds with
  | [.int j] => (-(2 ^ 62) ≤ j ∧ j < 2 ^ 62) ∧ Q (rngD 0 j.toNat) Γ1
  | _ => False
theorem di_range1 {a : Expr} (hg : Gl X "range") (hm : X.mg "range" = none) (ha : DA X [a] t) (hs : starEach [a] X.env = [(false, eval a X.env)] := by rfl) : DI X tg (.Call (.Name "range" p) [a] [] pos) (dRng1 t) := by
  refine ⟨pi_of (pi_range1 hg hm ha.run hs) ?_⟩
  rintro σ H R ⟨Γ, Hf, Q0, A, h, k⟩
  refine ⟨Γ, Hf, _, A, h, fun ds Γ1 vs Hf1 H1 hq S r => ?_⟩
  match ds, r, hq with
  | [.int j], .cons (.int _) .nil, hq => exact ⟨j, rfl, hq.1.1, hq.1.2, k _ Γ1 _ Hf1 H1 hq.2 S itd_rng⟩
def dRng2 (t : DTA) : DTA := fun Γ Q => t Γ fun ds Γ1 => match ds with
  | [.int i, .int j] => (-(2 ^ 62) ≤ i ∧ i < 2 ^ 62 ∧ -(2 ^ 62) ≤ j ∧ j < 2 ^ 62) ∧ Q (rngD i (j - i).toNat) Γ1
  | _ => False
theorem di_range2 {a b : Expr} (hg : Gl X "range") (hm : X.mg "range" = none) (ha : DA X [a, b] t) (hs : starEach [a, b] X.env = [(false, eval a X.env), (false, eval b X.env)] := by rfl) (hs2 : starEach [b] X.env = [(false, eval b X.env)] := by rfl) : DI X tg (.Call (.Name "range" p) [a, b] [] pos) (dRng2 t) := by
  refine ⟨pi_of (pi_range2 hg hm ha.run hs hs2) ?_⟩
  rintro σ H R ⟨Γ, Hf, Q0, A, h, k⟩
  refine ⟨Γ, Hf, _, A, h, fun ds Γ1 vs Hf1 H1 hq S r => ?_⟩
  match ds, r, hq with
  | [.int i, .int j], .cons (.int _) (.cons (.int _) .nil), hq => exact ⟨i, j, rfl, hq.1, k _ Γ1 _ Hf1 H1 hq.2 S itd_rng⟩
def rngC (lo c : Int) (n : Nat) : List PyData := (List.range n).map fun (i : Nat) => PyData.int (lo + (i : Int) * c)
def dRng3 (t : DTA) : DTA := fun Γ Q => t Γ fun ds Γ1 => match ds with
  | [.int i, .int j, .int c] => ∃ n, RgC i j c n ∧ Q (rngC i c n) Γ1
  | _ => False
theorem di_range3 {a b c : Expr} (hg : Gl X "range") (hm : X.mg "range" = none) (ha : DA X [a, b, c] t)
    (hs : starEach [a, b, c] X.env = (false, eval a X.env) :: starEach [b, c] X.env := by rfl) (hpl : (backTo pos (starEach [b, c] X.env)).any (·.1) = false := by rfl) : DI X tg (.Call (.Name "range" p) [a, b, c] [] pos) (dRng3 t) := by
  refine ⟨pi_of (pi_range3 hg hm ha.run hs hpl) ?_⟩
  rintro σ H R ⟨Γ, Hf, Q0, A, h, k⟩
  refine ⟨Γ, Hf, _, A, h, fun ds Γ1 vs Hf1 H1 hq S r => ?_⟩
  match ds, r, hq with
  | [.int i, .int j, .int c], .cons (.int _) (.cons (.int _) (.cons (.int _) .nil)), ⟨n, hc, hq⟩ =>
    refine ⟨i, j, c, n, rfl, hc, k _ Γ1 _ Hf1 H1 hq S ?_⟩
    have len : (rngC i c n).length = n := by unfold rngC; rw [List.length_map, List.length_range]
    refine ⟨fun i Hc H s1 s2 hi => by rw [len] at hi; exact hi, fun l Hc H x H' s1 s2 hi ⟨e, q⟩ => ?_, fun i Hc H s1 s2 hi => by rw [len] at hi; exact hi⟩
    subst e q
    rw [len] at hi
    refine ⟨_, Hc, ?_, .refl s2, .int _⟩
    unfold rngC
    rw [List.getElem?_map, List.getElem?_range hi]
    rfl
/-- enumerate of a list, zip of two lists, of two tuples -/
def enumD (ds : List PyData) : List PyData := ds.zipIdx.map fun q => .tuple [.int (q.2 : Int), q.1]
theorem enumD_at {ds : List PyData} {i : Nat} {d : PyData} (h : ds[i]? = some d) : (enumD ds)[i]? = some (.tuple [.int (i : Int), d]) := by
  unfold enumD
  rw [List.getElem?_map, List.getElem?_zipIdx, h]
  simp
theorem enumD_len (ds : List PyData) : (enumD ds).length = ds.length := by unfold enumD; rw [List.length_map, List.length_zipIdx]
def zipD (ds es : List PyData) : List PyData := (ds.zip es).map fun q => .tuple [q.1, q.2]
theorem zipD_at {ds es : List PyData} {i : Nat} {d e : PyData} (h : ds[i]? = some d) (h2 : es[i]? = some e) : (zipD ds es)[i]? = some (.tuple [d, e]) := by
  unfold zipD
  rw [List.getElem?_map, (List.getElem?_zip_eq_some (z := (d, e))).mpr ⟨h, h2⟩]
  rfl
theorem zipD_len (ds es : List PyData) : (zipD ds es).length = min ds.length es.length := by unfold zipD; rw [List.length_map, List.length_zip]
theorem ext_tup {Hc H : Hp} {T : Addr} {vs : List V} {ds : List PyData} (s : Same Hc H) (hT : H T = none) (r : RpAll K Hc vs ds) : Ext Hc H (upd Hc T (.tup vs)) (upd H T (.tup vs)) ∧ Rp K (upd Hc T (.tup vs)) (.ref T) (.tuple ds) :=
  ⟨Ext.new s hT, .tup (SqT.of upd_same) (r.mono (same_new (s.free hT)))⟩
def dEnum (t : DTA) : DTA := fun Γ Q => t Γ fun ds Γ1 => match ds with
  | [.list xs] => Q (enumD xs) Γ1
  | _ => False
theorem di_enum {tpos : Pos} {elts : List Expr} {kk : Nat} (hg : Gl X "enumerate") (hm : X.mg "enumerate" = none) (ha : DA X [e] t) (hs : starEach [e] X.env = [(false, eval e X.env)] := by rfl) : DI X (.Tuple elts kk tpos) (.Call (.Name "enumerate" p) [e] [] pos) (dEnum t) := by
  refine ⟨pi_of (pi_enum hg hm ha.run hs) ?_⟩
  rintro σ H R ⟨Γ, Hf, Q0, A, h, k⟩
  refine ⟨Γ, Hf, _, A, h, fun ds Γ1 vs Hf1 H1 hq S r => ?_⟩
  match ds, r, hq with
  | [.list xs], .cons (.lst (a := a) (xs := us) h1 h2) .nil, hq =>
    refine ⟨a, us, rfl, SqL.of (S.abs.sub _ _ h1), k _ Γ1 _ Hf1 H1 hq S ?_⟩
    refine ⟨fun i Hc H s1 s2 hi => ?_, fun i Hc H x H' s1 s2 hi ⟨T, y, e1, hT, e2, q⟩ => ?_, fun i Hc H s1 s2 hi => ?_⟩
    · rw [enumD_len, ← h2.len] at hi
      exact ⟨us, us[i], SqL.of (s2 _ _ (s1 _ _ h1)), List.getElem?_eq_getElem hi⟩
    · subst e1 e2
      obtain ⟨d, g1, g2⟩ := h2.at (q us (SqL.of (s2 _ _ (s1 _ _ h1))))
      have z := ext_tup (K := X.K) s2 hT (.cons (.int (i : Int)) (.cons (g2.mono s1) .nil))
      exact ⟨_, _, enumD_at g1, z.1, z.2⟩
    · rw [enumD_len, ← h2.len] at hi
      exact ⟨us, SqL.of (s2 _ _ (s1 _ _ h1)), hi⟩
def dZip (t : DTA) : DTA := fun Γ Q => t Γ fun ds Γ1 => match ds with
  | [.list xs, .list ys] => Q (zipD xs ys) Γ1
  | [.tuple xs, .tuple ys] => Q (zipD xs ys) Γ1
  | _ => False
theorem di_zip {e2 : Expr} {tpos : Pos} {elts : List Expr} {kk : Nat} (hg : Gl X "zip") (hm : X.mg "zip" = none) (ha : DA X [e, e2] t)
    (hs : starEach [e, e2] X.env = (false, eval e X.env) :: starEach [e2] X.env := by rfl) (hpl : (backTo pos (starEach [e2] X.env)).any (·.1) = false := by rfl) : DI X (.Tuple elts kk tpos) (.Call (.Name "zip" p) [e, e2] [] pos) (dZip t) := by
  refine ⟨pi_of (RZ.pi_zipA hg hm ha.run hs hpl) ?_⟩
  rintro σ H R ⟨Γ, Hf, Q0, A, h, k⟩
  refine ⟨Γ, Hf, _, A, h, fun ds Γ1 vs Hf1 H1 hq S r => ?_⟩
  match ds, r, hq with
  | [.list xs, .list ys], .cons (.lst (a := a) (xs := us) h1 h2) (.cons (.lst (a := b) (xs := ws) g1 g2) .nil), hq =>
    refine ⟨a, b, us, ws, rfl, .inl ⟨SqL.of (S.abs.sub _ _ h1), SqL.of (S.abs.sub _ _ g1), k _ Γ1 _ Hf1 H1 hq S ?_⟩⟩
    refine ⟨fun i Hc H s1 s2 hi => ?_, fun i Hc H x H' s1 s2 hi ⟨T, y, z, e1, hT, e2, q1, q2⟩ => ?_, fun i Hc H s1 s2 hi => ?_⟩
    · rw [zipD_len, ← h2.len, ← g2.len] at hi
      exact ⟨us, ws, us[i]'(by omega), ws[i]'(by omega), SqL.of (s2 _ _ (s1 _ _ h1)), SqL.of (s2 _ _ (s1 _ _ g1)), List.getElem?_eq_getElem _, List.getElem?_eq_getElem _⟩
    · subst e1 e2
      obtain ⟨d, d1, d2⟩ := h2.at (q1 us (SqL.of (s2 _ _ (s1 _ _ h1))))
      obtain ⟨f, f1, f2⟩ := g2.at (q2 ws (SqL.of (s2 _ _ (s1 _ _ g1))))
      have z := ext_tup (K := X.K) s2 hT (.cons (d2.mono s1) (.cons (f2.mono s1) .nil))
      exact ⟨_, _, zipD_at d1 f1, z.1, z.2⟩
    · rw [zipD_len, ← h2.len, ← g2.len] at hi
      exact ⟨us, ws, SqL.of (s2 _ _ (s1 _ _ h1)), SqL.of (s2 _ _ (s1 _ _ g1)), by omega⟩
  | [.tuple xs, .tuple ys], .cons (.tup (a := a) (xs := us) h1 h2) (.cons (.tup (a := b) (xs := ws) g1 g2) .nil), hq =>
    refine ⟨a, b, us, ws, rfl, .inr ⟨same_t S.abs.sub h1, same_t S.abs.sub g1, k _ Γ1 _ Hf1 H1 hq S ?_⟩⟩
    refine ⟨fun i Hc H s1 s2 hi => ?_, fun i Hc H x H' s1 s2 hi ⟨T, y, z, e1, hT, e2, q1, q2⟩ => ?_, fun i Hc H s1 s2 hi => ?_⟩
    · rw [zipD_len, ← h2.len, ← g2.len] at hi
      exact ⟨us, ws, us[i]'(by omega), ws[i]'(by omega), same_t s2 (same_t s1 h1), same_t s2 (same_t s1 g1), List.getElem?_eq_getElem _, List.getElem?_eq_getElem _⟩
    · subst e1 e2
      obtain ⟨d, d1, d2⟩ := h2.at (q1 us (same_t s2 (same_t s1 h1)))
      obtain ⟨f, f1, f2⟩ := g2.at (q2 ws (same_t s2 (same_t s1 g1)))
      have z := ext_tup (K := X.K) s2 hT (.cons (d2.mono s1) (.cons (f2.mono s1) .nil))
      exact ⟨_, _, zipD_at d1 f1, z.1, z.2⟩
    · rw [zipD_len, ← h2.len, ← g2.len] at hi
      exact ⟨us, ws, same_t s2 (same_t s1 h1), same_t s2 (same_t s1 g1), by omega⟩
/-! ### a slot's own list -/
theorem Abs.ownAt {Γ : DE0} {σ : L2.St} {Hf H : Hp} (A : Abs K Γ σ Hf H) {i : Nat} {q : Addr} {ys : List PyData} (h : at' Γ i = some (.own q ys)) : ∃ vs, σ[i]? = some (some (V.ref q)) ∧ H q = some (.lst vs) ∧ Hf q = none ∧ RpAll K Hf vs ys := by
  obtain ⟨v, e, vs, rfl, h1, h2, h3⟩ := A.at_ i _ (at'_eq h)
  exact ⟨vs, e, h1, h2, h3⟩
/-- what a slot alone holds is changed -/
theorem Abs.storeC {Γ : DE0} {σ : L2.St} {Hf H Hf' H' : Hp} (A : Abs K Γ σ Hf H) {i : Nat} {c e : Cell} (h : at' Γ i = some c) (ea : e.adrs = c.adrs) (fr : ∀ b o, b ∉ c.adrs → H b = some o → H' b = some o) (fs : Same Hf Hf') (sub : Same Hf' H')
    (hc : ∀ v, CAt K Hf H v c → CAt K Hf' H' v e) (fz : ∀ b, Hf' b ≠ none → Hf b ≠ none ∨ H b = none) (th : ∀ b ∈ c.adrs, H' b ≠ none) : Stp K Γ σ Hf H (Γ.set i (some e)) σ Hf' H' := by
  have hi : i < Γ.length := (List.getElem?_eq_some_iff.mp (at'_eq h)).1
  have other : ∀ (j : Nat) (b : Addr) (u : Cell), (Γ.set i (some e))[j]? = some (some u) → b ∈ u.adrs → ∃ u' : Cell, Γ[j]? = some (some u') ∧ b ∈ u'.adrs := fun j b u z m => by
    by_cases cc : i = j
    · subst cc
      rw [List.getElem?_set_self hi] at z
      cases z
      exact ⟨c, at'_eq h, by rw [← ea]; exact m⟩
    · rw [List.getElem?_set_ne cc] at z
      exact ⟨u, z, m⟩
  refine ⟨⟨sub, by simp [A.len], fun j u z => ?_, fun j l us us2 b z1 z2 m1 m2 => ?_⟩, fs, fun b o z n => fr b o (fun m => n ⟨i, c, at'_eq h, m⟩) z, fun b ⟨j, us, z1, m⟩ => ?_, fun b z => ?_, fun b z => ?_⟩
  · by_cases cc : i = j
    · subst cc
      rw [List.getElem?_set_self hi] at z
      cases z
      obtain ⟨v, q1, q2⟩ := A.at_ i c (at'_eq h)
      exact ⟨v, q1, hc v q2⟩
    · rw [List.getElem?_set_ne cc] at z
      obtain ⟨v, q1, q2⟩ := A.at_ j u z
      refine ⟨v, q1, q2.mono fs fun b m o g => ⟨fr b o (fun m2 => cc (A.sep i j c u b (at'_eq h) z m2 m)) g, fun g2 => ?_⟩⟩
      refine Classical.byContradiction fun n => ?_
      rcases fz b n with y | y
      · exact y g2
      · rw [g] at y; cases y
  · obtain ⟨u1, y1, n1⟩ := other j b us z1 m1
    obtain ⟨u2, y2, n2⟩ := other l b us2 z2 m2
    exact A.sep j l _ _ b y1 y2 n1 n2
  · obtain ⟨us', y, n⟩ := other j b us z1 m
    exact .inl ⟨j, us', y, n⟩
  · exact (fz b z).imp id .inr
  · cases w : H b with
    | none => rfl
    | some o =>
      by_cases m : b ∈ c.adrs
      · exact absurd z (th b m)
      · rw [fr b o m w] at z
        cases z
theorem Abs.store {Γ : DE0} {σ : L2.St} {Hf H Hf' H' : Hp} (A : Abs K Γ σ Hf H) {i : Nat} {ys zs : List PyData} {q : Addr} {ws : List V} (h : at' Γ i = some (.own q ys)) (fr : ∀ b o, b ≠ q → H b = some o → H' b = some o) (fs : Same Hf Hf') (sub : Same Hf' H')
    (hq : H' q = some (.lst ws)) (nq : Hf' q = none) (r : RpAll K Hf' ws zs) (fz : ∀ b, Hf' b ≠ none → Hf b ≠ none ∨ H b = none) : Stp K Γ σ Hf H (Γ.set i (some (.own q zs))) σ Hf' H' := by
  refine A.storeC h rfl (fun b o n => fr b o fun z => n (by rw [z]; exact List.mem_cons_self)) fs sub (fun v ⟨_, e, _⟩ => ⟨ws, e, hq, nq, r⟩) fz fun b m => ?_
  rcases List.mem_cons.mp m with e | e
  · subst e
    rw [hq]
    simp
  · cases e
def own' (Γ : DE0) (i : Nat) (k : Addr → List PyData → Prop) : Prop := match at' Γ i with
  | some (.own q ys) => k q ys
  | _ => False
theorem own'_eq {Γ : DE0} {i : Nat} {k : Addr → List PyData → Prop} (h : own' Γ i k) : ∃ q ys, at' Γ i = some (.own q ys) ∧ k q ys := by
  unfold own' at h
  split at h
  · rename_i q ys e
    exact ⟨q, ys, e, h⟩
  · exact h.elim
def isOwn (Γ : DE0) (i : Nat) : Bool := match at' Γ i with
  | some (.own _ _) => true
  | _ => false
theorem isOwn_eq {Γ : DE0} {i : Nat} (h : isOwn Γ i = true) : ∃ q ys, at' Γ i = some (.own q ys) := by
  unfold isOwn at h
  split at h
  · rename_i q ys e
    exact ⟨q, ys, e⟩
  · cases h
/-- xs.append(e), xs.extend(e), xs.insert(e, f): the list is the slot's own -/
abbrev GO := List PyData → List PyData → (List PyData → Prop) → Prop
def dMut (i : Nat) (f : GO) (t : DTA) : DTS := fun D Γ => isOwn Γ i = true ∧ t Γ fun ds Γ1 => own' Γ1 i fun q ys => f ys ds fun zs => D.nx (Γ1.set i (some (.own q zs)))
def rdMut (K : PySem.W.Frag) (f : GO) : V → List V → Hp → VK → Prop := fun x vs H Q => ∃ q us ys ds Hf Q0, x = .ref q ∧ H q = some (.lst us) ∧ Hf q = none ∧ Same Hf H ∧ RpAll K Hf us ys ∧ RpAll K Hf vs ds ∧ f ys ds Q0 ∧ ∀ zs ws v, Q0 zs → RpAll K Hf ws zs → Q v (upd H q (.lst ws))
theorem ds_mut {f : GO} {es : List Expr} {name : Str} {id : String} (i : Nat) (slot : Slot "list" name id) (hty : typeOf (.builtin id) = pure (.type "method_descriptor")) (hm : MtR X id (rdMut X.K f)) {y : Str} {np : Pos} (he : DA X (e :: es) t) (hN : X.N[i]? = some y := by rfl) (hv : Vis X.env.scope y := by first | exact Or.inl rfl | exact Or.inr (Or.inl rfl) | exact Or.inr (Or.inr rfl)) (hd : (y == ("__debug__" : Str)) = false := by decide) (hcd : (y == ("__classdict__" : Str)) = false := by decide)
    (hbase : attributeBase (.Name y np) name X.env (eval (.Name y np) X.env) = eval (.Name y np) X.env := by rfl)
    (hfew : ((backTo cpos (starEach (e :: es) X.env)).all (fun x => !x.1) && (backToKw cpos (keywordEach [] X.env)).all (fun x => x.1.isSome)
      && decide ((e :: es).length + ([] : List Keyword).length + (if ([] : List Keyword).isEmpty then 0 else 1) < 30)) = true := by rfl)
    (hline : (apos.endLine == cpos.line) = true := by rfl) (hs : starEach (e :: es) X.env = (false, eval e X.env) :: starEach es X.env := by rfl) (hplain : (backTo cpos (starEach es X.env)).any (·.1) = false := by rfl)
    (hsw : swapsWith (.Call (.Attribute (.Name y np) name apos) (e :: es) [] cpos) none pos.line X.env = pure false := by rfl) :
    DS X (.Expr (.Call (.Attribute (.Name y np) name apos) (e :: es) [] cpos) pos) (dMut i f t) := by
  refine ⟨ps_of (ps_expr (pe_bm PySem.F.plainAttrs_list slot hty hm (pe_var hN hv hd hcd) he.run hbase hfew hline hs hplain) hsw) ?_⟩
  rintro D σ H ⟨Γ, Hf, D0, A, ⟨h0, h⟩, kn, kr, kb, kc⟩
  obtain ⟨q, ys0, e0⟩ := isOwn_eq h0
  obtain ⟨vs0, eq, hq, nq, r0⟩ := A.ownAt e0
  refine ⟨.ref q, eq, .inl ⟨rfl, vs0, SqL.of hq⟩, Γ, Hf, _, A, h, fun ds Γ1 vs Hf1 H1 hk S r => ?_⟩
  obtain ⟨q1, ys, e1, hk⟩ := own'_eq hk
  obtain ⟨us, eq1, hq1, nq1, r1⟩ := S.abs.ownAt e1
  rw [eq] at eq1
  cases eq1
  refine ⟨q, us, ys, ds, Hf1, _, rfl, hq1, nq1, S.abs.sub, r1, r, hk, fun zs ws v hz rz => ?_⟩
  refine kn _ σ Hf1 _ hz (S.trans (S.abs.store e1 (fun b o nb hb => by rw [upd_ne nb]; exact hb) (Same.refl _) (fun b o hb => ?_) upd_same nq1 rz fun b hb => .inl hb))
  rw [upd_ne (fun z => by subst z; rw [nq1] at hb; cases hb)]
  exact S.abs.sub b o hb
def gApp : GO := fun ys ds Q => match ds with
  | [d] => ys.length < sizeLine ∧ Q (ys ++ [d])
  | _ => False
theorem mt_appD : MtR X "list.append" (rdMut X.K gApp) := by
  intro pins s σ H x xs v us Q I rx rs h
  obtain ⟨q, us0, ys, ds, Hf, Q0, rfl, hq, nq, sub, r1, r, hk, k⟩ := h
  match ds, r, hk with
  | [d], .cons (v := y) ry .nil, hk => exact mt_append pins s σ H _ _ v us Q I rx rs ⟨q, us0, y, rfl, rfl, hq, by rw [r1.len]; exact hk.1, k _ _ _ hk.2 (r1.app (.cons ry .nil))⟩
def gExt : GO := fun ys ds Q => match ds with
  | [.list zs] => ys.length + zs.length ≤ sizeLine ∧ Q (ys ++ zs)
  | _ => False
theorem mt_extD : MtR X "list.extend" (rdMut X.K gExt) := by
  intro pins s σ H x xs v us Q I rx rs h
  obtain ⟨q, us0, ys, ds, Hf, Q0, rfl, hq, nq, sub, r1, r, hk, k⟩ := h
  match ds, r, hk with
  | [.list zs], .cons (.lst (a := b) (xs := ws) h1 h2) .nil, hk => exact mt_extend pins s σ H _ _ v us Q I rx rs ⟨q, b, us0, ws, rfl, rfl, hq, sub _ _ h1, by rw [r1.len, h2.len]; exact hk.1, k _ _ _ hk.2 (r1.app h2)⟩
/-- xs[k] = e -/
def dSto (i : Nat) (te ti : DTE) : DTS := fun D Γ => te Γ fun d Γ1 => isOwn Γ1 i = true ∧ ti Γ1 fun y Γ2 => own' Γ2 i fun q ys => match y with
  | .int k => ∃ j, ixN ys.length k = some j ∧ D.nx (Γ2.set i (some (.own q (ys.set j d))))
  | _ => False
theorem ds_sto (i : Nat) {y : Str} {np spos : Pos} {b : Expr} (he : DE X e te) (hb : DE X b ti) (hN : X.N[i]? = some y := by rfl) (hv : Vis X.env.scope y := by first | exact Or.inl rfl | exact Or.inr (Or.inl rfl) | exact Or.inr (Or.inr rfl)) (hd : (y == ("__debug__" : Str)) = false := by decide) (hcd : (y == ("__classdict__" : Str)) = false := by decide)
    (ha : ∀ v, assign (.Subscript (.Name y np) b spos) X.env v = (do
      let ov ← holding [v] (eval (.Name y np) X.env)
      let iv ← holding [v, ov] (eval b X.env)
      standAt spos
      holding [v, ov, iv] (setItem ov iv v)
      release [v, ov, iv] []) := by intro _; rfl)
    (hs : swapsWithSole [.Subscript (.Name y np) b spos] e pos.line X.env = pure false := by rfl) (hw : swappedStores [.Subscript (.Name y np) b spos] e X.env = pure none := by rfl)
    (h1 : (assignEach [.Subscript (.Name y np) b spos] X.env).map (·.2) = [assign (.Subscript (.Name y np) b spos) X.env] := by rfl) :
    DS X (.Assign [.Subscript (.Name y np) b spos] e pos) (dSto i te ti) := by
  refine ⟨ps_of (ps_asg he.run (pg_sub (pe_var hN hv hd hcd) hb.run set_list ha) hs hw h1) ?_⟩
  rintro D σ H ⟨Γ, Hf, D0, A, h, kn, kr, kb, kc⟩
  refine ⟨Γ, Hf, _, A, h, fun d Γ1 v Hf1 H1 ⟨ho, hk⟩ S r => ?_⟩
  obtain ⟨q, ys0, e0⟩ := isOwn_eq ho
  obtain ⟨vs0, eq, hq, nq, r0⟩ := S.abs.ownAt e0
  refine ⟨.ref q, eq, Γ1, Hf1, _, S.abs, hk, fun z Γ2 w Hf2 H2 hk S2 r2 => ?_⟩
  obtain ⟨q1, ys, e1, hk⟩ := own'_eq hk
  obtain ⟨us, eq1, hq1, nq1, r1⟩ := S2.abs.ownAt e1
  rw [eq] at eq1
  cases eq1
  cases r2 with
  | int kk =>
    obtain ⟨j, hj, hk⟩ := hk
    refine ⟨q, us, kk, j, rfl, rfl, hq1, by rw [r1.len]; exact hj, ?_⟩
    refine kn _ σ Hf2 _ hk ((S.trans S2).trans (S2.abs.store e1 (fun b o nb hb => by rw [upd_ne nb]; exact hb) (Same.refl _) (fun b o hb => ?_) upd_same nq1 (r1.set j (r.mono S2.same)) fun b hb => .inl hb))
    rw [upd_ne (fun z => by subst z; rw [nq1] at hb; cases hb)]
    exact S2.abs.sub b o hb
  | _ => exact hk.elim
/-- xs[k], len(xs) where the list stays the slot's own -/
def dIxO (i : Nat) (ti : DTE) : DTE := fun Γ Q => isOwn Γ i = true ∧ ti Γ fun y Γ1 => own' Γ1 i fun q ys => match y with
  | .int k => ∃ d, atI ys k = some d ∧ Q d Γ1
  | _ => False
theorem atI_rp {H : Hp} {vs : List V} {ds : List PyData} (r : RpAll K H vs ds) {k : Int} {d : PyData} (h : atI ds k = some d) : ∃ v, atI vs k = some v ∧ Rp K H v d := by
  unfold atI at h ⊢
  rw [r.len]
  cases e : ixN ds.length k with
  | none => rw [e] at h; cases h
  | some j =>
    rw [e] at h
    exact r.to h
theorem de_ixO (i : Nat) {y : Str} {np : Pos} {b : Expr} (hb : DE X b ti) (hN : X.N[i]? = some y := by rfl) (hv : Vis X.env.scope y := by first | exact Or.inl rfl | exact Or.inr (Or.inl rfl) | exact Or.inr (Or.inr rfl)) (hd : (y == ("__debug__" : Str)) = false := by decide) (hcd : (y == ("__classdict__" : Str)) = false := by decide) (hs : PlainIx b := by intro _ _; rfl) :
    DE X (.Subscript (.Name y np) b pos) (dIxO i ti) := by
  refine ⟨pe_of (pe_ix ix_list (pe_var hN hv hd hcd) hb.run hs) ?_⟩
  rintro σ H Q ⟨Γ, Hf, Q0, A, ⟨ho, h⟩, k⟩
  obtain ⟨q, ys0, e0⟩ := isOwn_eq ho
  obtain ⟨vs0, eq, hq, nq, r0⟩ := A.ownAt e0
  refine ⟨.ref q, eq, Γ, Hf, _, A, h, fun z Γ1 w Hf1 H1 hk S r => ?_⟩
  obtain ⟨q1, ys, e1, hk⟩ := own'_eq hk
  obtain ⟨us, eq1, hq1, nq1, r1⟩ := S.abs.ownAt e1
  rw [eq] at eq1
  cases eq1
  cases r with
  | int kk =>
    obtain ⟨d, hd, hk⟩ := hk
    obtain ⟨v, hv, rv⟩ := atI_rp r1 hd
    exact ⟨q, us, kk, v, rfl, rfl, SqL.of hq1, hv, k d Γ1 v Hf1 H1 hk S rv⟩
  | _ => exact hk.elim
def dLenO (i : Nat) : DTE := fun Γ Q => own' Γ i fun _ ys => Q (.int (ys.length : Nat)) Γ
theorem de_lenO (i : Nat) {y : Str} {np : Pos} (hg : Gl X "len") (hm : X.mg "len" = none) (hN : X.N[i]? = some y := by rfl) (hv : Vis X.env.scope y := by first | exact Or.inl rfl | exact Or.inr (Or.inl rfl) | exact Or.inr (Or.inr rfl)) (hd : (y == ("__debug__" : Str)) = false := by decide) (hcd : (y == ("__classdict__" : Str)) = false := by decide)
    (he : starEach [.Name y np] X.env = (false, eval (.Name y np) X.env) :: starEach [] X.env := by rfl) (hpl : (backTo pos (starEach [] X.env)).any (·.1) = false := by rfl) :
    DE X (.Call (.Name "len" p) [.Name y np] [] pos) (dLenO i) := by
  refine ⟨pe_of (pe_callB call_len_seq hg hm PySem.boot_len (pa_cons (pe_var hN hv hd hcd) pa_nil he) (by decide) (by decide) he hpl) ?_⟩
  rintro σ H Q ⟨Γ, Hf, Q0, A, h, k⟩
  obtain ⟨q, ys, e1, hk⟩ := own'_eq h
  obtain ⟨us, eq, hq, nq, r⟩ := A.ownAt e1
  exact ⟨.ref q, eq, q, us, rfl, .inl (SqL.of hq), k _ Γ _ Hf H hk (.refl A) (by rw [r.len]; exact .int _)⟩
end
end Dl
namespace Dl
open PySem PySem.Spec PyProof.Rows L2 TL Bl
/-! ### what a def promises, by data -/
def spD (n : Nat) (t : GN) (K : PySem.W.Frag) : Sp := fun vs H Q _ => vs.length = n ∧ ∃ Hf ds Q0, Same Hf H ∧ RpAll K Hf vs ds ∧ t ds Q0 ∧ ∀ d v Hf' H', Q0 d → Ext Hf H Hf' H' → Rp K Hf' v d → Q v H'
/-- .. whose first argument is a list that it may change -/
structure PM (K : PySem.W.Frag) (p : Addr) (Hf H Hf' H' : Hp) (us' : List V) (ys' : List PyData) : Prop where
  fr : ∀ b o, b ≠ p → H b = some o → H' b = some o
  fs : Same Hf Hf'
  sub : Same Hf' H'
  at_ : H' p = some (.lst us')
  nf : Hf' p = none
  rp : RpAll K Hf' us' ys'
  fz : ∀ b, Hf' b ≠ none → Hf b ≠ none ∨ H b = none
abbrev GNM := List PyData → List PyData → (PyData → List PyData → Prop) → Prop
def spM (n : Nat) (t : GNM) (K : PySem.W.Frag) : Sp := fun vs H Q _ => vs.length = n ∧ ∃ p ws Hf us ys ds Q0, vs = .ref p :: ws ∧ Same Hf H ∧ H p = some (.lst us) ∧ Hf p = none ∧ RpAll K Hf us ys ∧ RpAll K Hf ws ds ∧ t ys ds Q0 ∧
  ∀ d ys' v Hf' H' us', Q0 d ys' → PM K p Hf H Hf' H' us' ys' → Rp K Hf' v d → Q v H'
def startD (n : Nat) (cs : List Cell) : DE0 := cs.map some ++ List.replicate (n - cs.length) none
section
variable {K : PySem.W.Frag}
theorem start_at {N : List Str} {vs : List V} {i : Nat} (h : i < vs.length) : (L2.start N vs)[i]? = some vs[i]? := by
  unfold L2.start
  rw [List.getElem?_append_left (by rw [List.length_map]; exact h), List.getElem?_map, List.getElem?_eq_getElem h]
  rfl
theorem no_adr {n : Nat} {ds : List PyData} (i : Nat) (q : Addr) (c : Cell) (h : (startD n (ds.map Cell.d))[i]? = some (some c)) (m : q ∈ c.adrs) : False := by
  unfold startD at h
  rcases Nat.lt_or_ge i ds.length with z | z
  · rw [List.getElem?_append_left (by simp; exact z)] at h
    simp at h
    obtain ⟨d, _, e⟩ := h
    subst e
    cases m
  · rw [List.getElem?_append_right (by simp; exact z)] at h
    simp [List.getElem?_replicate] at h
theorem no_adr1 {n : Nat} {c0 : Cell} {ds : List PyData} (i : Nat) (q : Addr) (c : Cell) (h : (startD n (c0 :: ds.map Cell.d))[i]? = some (some c)) (m : q ∈ c.adrs) : i = 0 ∧ c = c0 := by
  cases i with
  | zero =>
    have h : some (some c0) = some (some c) := h
    cases h
    exact ⟨rfl, rfl⟩
  | succ i =>
    unfold startD at h
    rw [List.map_cons, List.cons_append, List.getElem?_cons_succ] at h
    rcases Nat.lt_or_ge i ds.length with z | z
    · rw [List.getElem?_append_left (by simp; exact z)] at h
      simp at h
      obtain ⟨d, _, e⟩ := h
      subst e
      cases m
    · rw [List.getElem?_append_right (by simp; exact z)] at h
      simp [List.getElem?_replicate] at h
theorem abs_start {N : List Str} {vs : List V} {ds : List PyData} {Hf H : Hp} (s : Same Hf H) (r : RpAll K Hf vs ds) (hl : vs.length ≤ N.length) : Abs K (startD N.length (ds.map Cell.d)) (L2.start N vs) Hf H := by
  refine ⟨s, ?_, fun i c h => ?_, fun i j c e p h _ m _ => (no_adr i p c h m).elim⟩
  · unfold startD L2.start
    simp [r.len]
  · unfold startD at h
    rcases Nat.lt_or_ge i ds.length with z | z
    · rw [List.getElem?_append_left (by simp; exact z)] at h
      simp only [List.map_map, List.getElem?_map, Function.comp] at h
      obtain ⟨d, hd, e⟩ := Option.map_eq_some_iff.mp h
      cases e
      obtain ⟨v, hv, rv⟩ := r.to hd
      refine ⟨v, ?_, rv⟩
      rw [start_at (by rw [r.len]; exact z), hv]
    · rw [List.getElem?_append_right (by simp; exact z)] at h
      simp [List.getElem?_replicate] at h
theorem abs_startM {N : List Str} {p : Addr} {us ws : List V} {ys ds : List PyData} {Hf H : Hp} (s : Same Hf H) (hp : H p = some (.lst us)) (np : Hf p = none) (ry : RpAll K Hf us ys) (r : RpAll K Hf ws ds) (hl : ws.length + 1 ≤ N.length) :
    Abs K (startD N.length (.own p ys :: ds.map Cell.d)) (L2.start N (.ref p :: ws)) Hf H := by
  refine ⟨s, ?_, fun i c h => ?_, fun i j c e p h1 h2 m1 m2 => (no_adr1 i p c h1 m1).1.trans (no_adr1 j p e h2 m2).1.symm⟩
  · unfold startD L2.start
    simp [r.len]
  · cases i with
    | zero =>
      have h : some (some (Cell.own p ys)) = some (some c) := h
      cases h
      exact ⟨.ref p, rfl, us, rfl, hp, np, ry⟩
    | succ i =>
      unfold startD at h
      rw [List.map_cons, List.cons_append, List.getElem?_cons_succ] at h
      rcases Nat.lt_or_ge i ds.length with z | z
      · rw [List.getElem?_append_left (by simp; exact z)] at h
        simp only [List.map_map, List.getElem?_map, Function.comp] at h
        obtain ⟨d, hd, e⟩ := Option.map_eq_some_iff.mp h
        cases e
        obtain ⟨v, hv, rv⟩ := r.to hd
        refine ⟨v, ?_, rv⟩
        have hi : i < ws.length := by rw [r.len]; exact z
        rw [start_at (by rw [List.length_cons]; omega), List.getElem?_cons_succ, hv]
      · rw [List.getElem?_append_right (by simp; exact z)] at h
        simp [List.getElem?_replicate] at h
end
section
variable {P : Program} {w : World} {K : PySem.W.Frag} {mg : Str → Option Value} {base : Heap} {x qual : Str} {st : Stmt} {f : Addr} {fd : FuncData} {N ps : List Str} {k : Nat} {t : GN} {tm : GNM} {tb : DTS}
theorem no_own {N : List Str} {vs : List V} {ds : List PyData} {b : Addr} : ¬ Own (startD N.length (ds.map Cell.d)) (L2.start N vs) b := fun ⟨i, c, h, m⟩ => no_adr i b c h m
/-- from the body's reading to the promise -/
theorem sem_D {N : List Str} {n : Nat} (hn : n ≤ N.length) (sem : ∀ ds Q0, ds.length = n → t ds Q0 → tb { nx := fun _ => Q0 .none, rt := fun d _ => Q0 d } (startD N.length (ds.map Cell.d))) {vs : List V} {H : Hp} {Q : VK} {E : XK} (h : spD n t K vs H Q E) :
    rdS K tb { nx := fun _ H' => Q .non H', rt := Q } (L2.start N vs) H := by
  obtain ⟨hl, Hf, ds, Q0, s, r, ht, k⟩ := h
  have A := abs_start (N := N) s r (by omega)
  have ext : ∀ {Γ' σ' Hf' H'}, Stp K (startD N.length (ds.map Cell.d)) (L2.start N vs) Hf H Γ' σ' Hf' H' → Ext Hf H Hf' H' := fun {Γ' σ' Hf' H'} S => ⟨fun b o q => S.fr b o q no_own, S.same, S.abs.sub, fun b q => by
    rcases S.fz b q with z | z | z
    · exact .inl z
    · exact absurd z no_own
    · exact .inr z⟩
  exact ⟨_, Hf, _, A, sem ds Q0 (by rw [← r.len]; exact hl) ht, fun Γ' σ' Hf' H' q S => k .none .non Hf' H' q (ext S) .non, fun d Γ' v σ' Hf' H' q S rv => k d v Hf' H' q (ext S) rv, fun _ _ _ _ q _ => False.elim q, fun _ _ _ _ q _ => False.elim q⟩
theorem own_M {N : List Str} {vs : List V} {p b : Addr} {ys ds : List PyData} {σ : L2.St} (h : Own (startD N.length (.own p ys :: ds.map Cell.d)) σ b) : b = p := by
  obtain ⟨i, c, h, m⟩ := h
  obtain ⟨_, e⟩ := no_adr1 i b c h m
  subst e
  rcases List.mem_cons.mp m with e | e
  · exact e
  · cases e
theorem sem_M {N : List Str} {n : Nat} (hn : n ≤ N.length) (sem : ∀ p ys ds Q0, ds.length + 1 = n → tm ys ds Q0 → tb { nx := fun Γ => own' Γ 0 fun q zs => q = p ∧ Q0 .none zs, rt := fun d Γ => own' Γ 0 fun q zs => q = p ∧ Q0 d zs } (startD N.length (.own p ys :: ds.map Cell.d)))
    {vs : List V} {H : Hp} {Q : VK} {E : XK} (h : spM n tm K vs H Q E) : rdS K tb { nx := fun _ H' => Q .non H', rt := Q } (L2.start N vs) H := by
  obtain ⟨hl, p, ws, Hf, us, ys, ds, Q0, rfl, s, hp, np, ry, r, ht, k⟩ := h
  rw [List.length_cons] at hl
  have A := abs_startM (N := N) s hp np ry r (by omega)
  have pm : ∀ {Γ' σ' Hf' H' zs}, Stp K (startD N.length (.own p ys :: ds.map Cell.d)) (L2.start N (.ref p :: ws)) Hf H Γ' σ' Hf' H' → at' Γ' 0 = some (.own p zs) → ∃ us', PM K p Hf H Hf' H' us' zs := fun {Γ' σ' Hf' H' zs} S e => by
    obtain ⟨us', _, h1, h2, h3⟩ := S.abs.ownAt e
    refine ⟨us', fun b o n q => S.fr b o q fun z => n (own_M (vs := ws) z), S.same, S.abs.sub, h1, h2, h3, fun b q => ?_⟩
    rcases S.fz b q with z | z | z
    · exact .inl z
    · have e := own_M (vs := ws) z
      subst e
      exact absurd h2 q
    · exact .inr z
  refine ⟨_, Hf, _, A, sem p ys ds Q0 (by rw [← r.len]; exact hl) ht, fun Γ' σ' Hf' H' q S => ?_, fun d Γ' v σ' Hf' H' q S rv => ?_, fun _ _ _ _ q _ => False.elim q, fun _ _ _ _ q _ => False.elim q⟩
  · obtain ⟨q1, zs, e, e2, q9⟩ := own'_eq q
    subst e2
    obtain ⟨us', M⟩ := pm S e
    exact k .none zs .non Hf' H' us' q9 M .non
  · obtain ⟨q1, zs, e, e2, q9⟩ := own'_eq q
    subst e2
    obtain ⟨us', M⟩ := pm S e
    exact k d zs v Hf' H' us' q9 M rv
theorem ok_M (F : Fun K x qual st f fd) (S : FnScope N ps (defScope st)) (hn : ps.length ≤ N.length)
    (body : ∀ (cdv : Value) (A : Around) (outer : List Env) (s : Shared) (H : Hp) (E : XK), Room k (A.deeper (envOfC qual (defScope st) s.heap.objs.size f cdv)) → DSs (cxOf CX0 P w K mg base N qual (defScope st) f cdv A outer s H E).nox (defBody st) tb)
    (sem : ∀ p ys ds Q0, ds.length + 1 = ps.length → tm ys ds Q0 → tb { nx := fun Γ => own' Γ 0 fun q zs => q = p ∧ Q0 .none zs, rt := fun d Γ => own' Γ 0 fun q zs => q = p ∧ Q0 d zs } (startD N.length (.own p ys :: ds.map Cell.d))) : FnOk P w K mg base CX0 (k + 1) f fd ps (spM ps.length tm K) :=
  F.ok S (fun vs H Q E h => h.1) fun cdv A outer s H vs Q E hr h => ⟨_, (body cdv A outer s H E hr).run, sem_M hn sem h⟩
theorem ok_MG (F : Fun K x qual st f fd) (S : FnScope N ps (defScope st)) (hn : ps.length ≤ N.length)
    (body : ∀ (cdv : Value) (A : Around) (outer : List Env) (s : Shared) (H : Hp) (E : XK), A.guards = some [] → Room k (A.deeper (envOfC qual (defScope st) s.heap.objs.size f cdv)) → DSs (cxOf CX0 P w K mg base N qual (defScope st) f cdv A outer s H E).nox (defBody st) tb)
    (sem : ∀ p ys ds Q0, ds.length + 1 = ps.length → tm ys ds Q0 → tb { nx := fun Γ => own' Γ 0 fun q zs => q = p ∧ Q0 .none zs, rt := fun d Γ => own' Γ 0 fun q zs => q = p ∧ Q0 d zs } (startD N.length (.own p ys :: ds.map Cell.d))) : FnG P w K mg base CX0 (k + 1) f fd ps (spM ps.length tm K) :=
  okG F S (fun vs H Q E h => h.1) fun cdv A outer s H vs Q E hgd hr h => ⟨_, (body cdv A outer s H E hgd hr).run, sem_M hn sem h⟩
theorem ok_D (F : Fun K x qual st f fd) (S : FnScope N ps (defScope st)) (hn : ps.length ≤ N.length)
    (body : ∀ (cdv : Value) (A : Around) (outer : List Env) (s : Shared) (H : Hp) (E : XK), Room k (A.deeper (envOfC qual (defScope st) s.heap.objs.size f cdv)) → DSs (cxOf CX0 P w K mg base N qual (defScope st) f cdv A outer s H E).nox (defBody st) tb)
    (sem : ∀ ds Q0, ds.length = ps.length → t ds Q0 → tb { nx := fun _ => Q0 .none, rt := fun d _ => Q0 d } (startD N.length (ds.map Cell.d))) : FnOk P w K mg base CX0 (k + 1) f fd ps (spD ps.length t K) :=
  F.ok S (fun vs H Q E h => h.1) fun cdv A outer s H vs Q E hr h => ⟨_, (body cdv A outer s H E hr).run, sem_D hn sem h⟩
theorem ok_DG (F : Fun K x qual st f fd) (S : FnScope N ps (defScope st)) (hn : ps.length ≤ N.length)
    (body : ∀ (cdv : Value) (A : Around) (outer : List Env) (s : Shared) (H : Hp) (E : XK), A.guards = some [] → Room k (A.deeper (envOfC qual (defScope st) s.heap.objs.size f cdv)) → DSs (cxOf CX0 P w K mg base N qual (defScope st) f cdv A outer s H E).nox (defBody st) tb)
    (sem : ∀ ds Q0, ds.length = ps.length → t ds Q0 → tb { nx := fun _ => Q0 .none, rt := fun d _ => Q0 d } (startD N.length (ds.map Cell.d))) : FnG P w K mg base CX0 (k + 1) f fd ps (spD ps.length t K) :=
  okG F S (fun vs H Q E h => h.1) fun cdv A outer s H vs Q E hgd hr h => ⟨_, (body cdv A outer s H E hgd hr).run, sem_D hn sem h⟩
end
/-! ### calls -/
section
variable {X : Cx} {CX : CXT} {k n : Nat} {f : Addr} {fd : FuncData} {ps : List Str} {tf : GN} {tm : GNM} {x : Str} {e : Expr} {es : List Expr} {t : DTA} {pos p : Pos} {E : XK}
def dFn (n : Nat) (tf : GN) (t : DTA) : DTE := fun Γ Q => t Γ fun ds Γ1 => ds.length = n ∧ tf ds fun d => Q d Γ1
theorem rd_fn : ∀ σ H Q, rdE X.K (dFn n tf t) σ H Q → tCall (spD n tf X.K) [] E (rdA X.K t) σ H Q := by
  rintro σ H Q ⟨Γ, Hf, Q0, A, h, k⟩
  refine ⟨Γ, Hf, _, A, h, fun ds Γ1 vs Hf1 H1 hq S r => ?_⟩
  show spD n tf X.K (vs ++ []) H1 Q E
  rw [List.append_nil]
  exact ⟨by rw [r.len]; exact hq.1, Hf1, ds, _, S.abs.sub, r, hq.2, fun d v Hf2 H2 q e rv => k d Γ1 v Hf2 H2 q (S.trans (S.abs.stp e)) rv⟩
theorem de_call (F : FnOk X.prog X.w X.K X.mg X.base CX k f fd ps (spD n tf X.K)) (hr : Room k X.A) (hg : Gl X x) (hm : X.mg x = some (.ref f)) (hk : PySem.W.keepIn X.K (.ref f) = true) (hb : Binds X.K fd ps []) (hx : Passes CX X E) (ha : DA X (e :: es) t) (hdb : (x == ("__debug__" : Str)) = false := by decide)
    (he : starEach (e :: es) X.env = (false, eval e X.env) :: starEach es X.env := by rfl) (hpl : (backTo pos (starEach es X.env)).any (·.1) = false := by rfl) : DE X (.Call (.Name x p) (e :: es) [] pos) (dFn n tf t) :=
  ⟨pe_of (pe_call F hr hg hm hk hb .nil hx ha.run hdb he hpl) rd_fn⟩
theorem de_callG (F : FnG X.prog X.w X.K X.mg X.base CX k f fd ps (spD n tf X.K)) (hgd : X.A.guards = some []) (hr : Room k X.A) (hg : Gl X x) (hm : X.mg x = some (.ref f)) (hk : PySem.W.keepIn X.K (.ref f) = true) (hb : Binds X.K fd ps []) (hx : Passes CX X E) (ha : DA X (e :: es) t) (hdb : (x == ("__debug__" : Str)) = false := by decide)
    (he : starEach (e :: es) X.env = (false, eval e X.env) :: starEach es X.env := by rfl) (hpl : (backTo pos (starEach es X.env)).any (·.1) = false := by rfl) : DE X (.Call (.Name x p) (e :: es) [] pos) (dFn n tf t) :=
  ⟨pe_of (pe_callG F hgd hr hg hm hk hb hx ha.run hdb he hpl) rd_fn⟩
/-- f(y, ..), y a slot's own list that f may change -/
def dFnM (i n : Nat) (tm : GNM) (t : DTA) : DTE := fun Γ Q => isOwn Γ i = true ∧ t Γ fun ds Γ1 => ds.length + 1 = n ∧ own' Γ1 i fun q ys => tm ys ds fun d zs => Q d (Γ1.set i (some (.own q zs)))
theorem rd_fnM {i : Nat} : ∀ σ H Q, rdE X.K (dFnM i n tm t) σ H Q → tCall (spM n tm X.K) [] E (tCons (tVar i) (rdA X.K t)) σ H Q := by
  rintro σ H Q ⟨Γ, Hf, Q0, A, ⟨ho, h⟩, k⟩
  obtain ⟨q, ys0, e0⟩ := isOwn_eq ho
  obtain ⟨vs0, eq, hq, nq, r0⟩ := A.ownAt e0
  refine ⟨.ref q, eq, Γ, Hf, _, A, h, fun ds Γ1 vs Hf1 H1 hk S r => ?_⟩
  obtain ⟨q1, ys, e1, hk2⟩ := own'_eq hk.2
  obtain ⟨us, eq1, hq1, nq1, r1⟩ := S.abs.ownAt e1
  rw [eq] at eq1
  cases eq1
  show spM n tm X.K (.ref q :: vs ++ []) H1 Q E
  rw [List.append_nil]
  refine ⟨by rw [List.length_cons, r.len]; exact hk.1, q, vs, Hf1, us, ys, ds, _, rfl, S.abs.sub, hq1, nq1, r1, r, hk2, fun d zs v Hf2 H2 us2 hd M rv => ?_⟩
  exact k d _ v Hf2 H2 hd (S.trans (S.abs.store e1 M.fr M.fs M.sub M.at_ M.nf M.rp M.fz)) rv
theorem de_callM (i : Nat) {y : Str} {np : Pos} (F : FnOk X.prog X.w X.K X.mg X.base CX k f fd ps (spM n tm X.K)) (hr : Room k X.A) (hg : Gl X x) (hm : X.mg x = some (.ref f)) (hk : PySem.W.keepIn X.K (.ref f) = true) (hb : Binds X.K fd ps []) (hx : Passes CX X E) (ha : DA X es t)
    (hN : X.N[i]? = some y := by rfl) (hv : Vis X.env.scope y := by first | exact Or.inl rfl | exact Or.inr (Or.inl rfl) | exact Or.inr (Or.inr rfl)) (hd : (y == ("__debug__" : Str)) = false := by decide) (hcd : (y == ("__classdict__" : Str)) = false := by decide) (hdb : (x == ("__debug__" : Str)) = false := by decide)
    (he : starEach (.Name y np :: es) X.env = (false, eval (.Name y np) X.env) :: starEach es X.env := by rfl) (hpl : (backTo pos (starEach es X.env)).any (·.1) = false := by rfl) : DE X (.Call (.Name x p) (.Name y np :: es) [] pos) (dFnM i n tm t) :=
  ⟨pe_of (pe_call F hr hg hm hk hb .nil hx (pa_cons (pe_var hN hv hd hcd) ha.run he) hdb he hpl) rd_fnM⟩
theorem de_callMG (i : Nat) {y : Str} {np : Pos} (F : FnG X.prog X.w X.K X.mg X.base CX k f fd ps (spM n tm X.K)) (hgd : X.A.guards = some []) (hr : Room k X.A) (hg : Gl X x) (hm : X.mg x = some (.ref f)) (hk : PySem.W.keepIn X.K (.ref f) = true) (hb : Binds X.K fd ps []) (hx : Passes CX X E) (ha : DA X es t)
    (hN : X.N[i]? = some y := by rfl) (hv : Vis X.env.scope y := by first | exact Or.inl rfl | exact Or.inr (Or.inl rfl) | exact Or.inr (Or.inr rfl)) (hd : (y == ("__debug__" : Str)) = false := by decide) (hcd : (y == ("__classdict__" : Str)) = false := by decide) (hdb : (x == ("__debug__" : Str)) = false := by decide)
    (he : starEach (.Name y np :: es) X.env = (false, eval (.Name y np) X.env) :: starEach es X.env := by rfl) (hpl : (backTo pos (starEach es X.env)).any (·.1) = false := by rfl) : DE X (.Call (.Name x p) (.Name y np :: es) [] pos) (dFnM i n tm t) :=
  ⟨pe_of (pe_callG F hgd hr hg hm hk hb hx (pa_cons (pe_var hN hv hd hcd) ha.run he) hdb he hpl) rd_fnM⟩
end
end Dl
namespace Dl
open PySem PySem.Spec PyProof.Rows L2 TL Bl
section
variable {X : Cx}
/-! ### + - * // % ** -/
def gAdd : G2 := fun x y Q => match x, y with
  | .int i, .int j => Q (.int (i + j))
  | .str a, .str b => a.length + b.length ≤ sizeLine ∧ Q (.str (a ++ b))
  | .tuple xs, .tuple ys => xs.length + ys.length ≤ sizeLine ∧ Q (.tuple (xs ++ ys))
  | .list xs, .list ys => xs.length + ys.length ≤ sizeLine ∧ Q (.list (xs ++ ys))
  | _, _ => False
theorem op_addD : OpR X (binaryOp .Add) (rdO X.K gAdd) := by
  intro pins s σ H x y v u Q I rx ry ⟨Hf, dx, dy, Q0, sub, r1, r2, h, k⟩
  unfold gAdd at h
  split at h
  · rename_i i j
    cases r1 with
    | int _ =>
    cases r2 with
    | int _ =>
    exact op_add pins s σ H _ _ v u Q I rx ry ⟨i, j, rfl, rfl, k _ _ Hf H h (.refl sub) (.int _)⟩
  · rename_i a b
    cases r1 with
    | str _ =>
    cases r2 with
    | str _ =>
    exact op_add_str pins s σ H _ _ v u Q I rx ry ⟨a, b, rfl, rfl, h.1, k _ _ Hf H h.2 (.refl sub) (.str _)⟩
  · rename_i ds1 ds2
    cases r1 with
    | @tup a vs _ h1 h2 =>
    cases r2 with
    | @tup b ws _ g1 g2 =>
    refine op_catA pins s σ H _ _ v u Q I rx ry ⟨a, b, vs, ws, rfl, rfl, same_t sub h1, same_t sub g1, by rw [h2.len, g2.len]; exact h.1, fun e => ?_, fun _ e => ?_, fun _ _ p hp => ?_⟩
    · subst e
      cases h2
      exact k _ _ Hf H h.2 (.refl sub) (.tup g1 g2)
    · subst e
      cases g2
      refine k _ _ Hf H h.2 (.refl sub) ?_
      rw [List.append_nil]
      exact .tup h1 h2
    · exact k _ _ _ _ h.2 (Ext.new sub hp) (.tup (SqT.of upd_same) ((h2.app g2).mono (same_new (sub.free hp))))
  · rename_i ds1 ds2
    cases r1 with
    | @lst a vs _ h1 h2 =>
    cases r2 with
    | @lst b ws _ g1 g2 =>
    exact op_cat pins s σ H _ _ v u Q I rx ry ⟨a, b, vs, ws, rfl, rfl, sub _ _ h1, sub _ _ g1, by rw [h2.len, g2.len]; exact h.1, fun p hp => k _ _ _ _ h.2 (Ext.new sub hp) (.lst upd_same ((h2.app g2).mono (same_new (sub.free hp))))⟩
  · exact h.elim
def gSub : G2 := fun x y Q => match x, y with
  | .int i, .int j => Q (.int (i - j))
  | _, _ => False
theorem op_subD : OpR X (binaryOp .Sub) (rdO X.K gSub) := by
  intro pins s σ H x y v u Q I rx ry ⟨Hf, dx, dy, Q0, sub, r1, r2, h, k⟩
  unfold gSub at h
  split at h
  · rename_i i j
    cases r1 with
    | int _ =>
    cases r2 with
    | int _ =>
    exact op_sub pins s σ H _ _ v u Q I rx ry ⟨i, j, rfl, rfl, k _ _ Hf H h (.refl sub) (.int _)⟩
  · exact h.elim
def gMul : G2 := fun x y Q => match x, y with
  | .int i, .int j => CMulW i j ∧ Q (.int (i * j))
  | .str a, .int n => (0 ≤ n ∧ n ≤ 16777216 ∧ a.length * n.toNat ≤ sizeLine) ∧ Q (.str (Txt.mul a n))
  | .tuple xs, .int n => (xs ≠ [] ∧ 1 ≤ n ∧ n ≤ 4000 ∧ xs.length ≤ 1000) ∧ Q (.tuple (List.replicate n.toNat xs).flatten)
  | .list xs, .int n => (-(2 ^ 63) ≤ n ∧ n < 2 ^ 63 ∧ xs.length * n.toNat ≤ sizeLine) ∧ Q (.list (List.replicate n.toNat xs).flatten)
  | _, _ => False
/-- tuple * int, with both ways out told -/
theorem op_repT2 {pins : List (Addr × Obj)} {s : Shared} {σ : L2.St} {H : Hp} {v u : Value} {Q : VK} {l : Addr} {k : Int} {xs : List V} (I : Inv X pins σ H s) (rx : RelV (.ref l) v) (ry : RelV (.int k) u) (hT : SqT X.K H l xs) (hne : xs ≠ []) (h1 : 1 ≤ k) (h2 : k ≤ 4000) (hz : xs.length ≤ 1000)
    (q1 : k = 1 → Q (.ref l) H) (q2 : ∀ p, H p = none → Q (.ref p) (upd H p (.tup (List.replicate k.toNat xs).flatten))) : wpAny (model X.prog X.w) X.A (binaryOp .Mult v u) (EP X pins σ Q) X.xe s := by
  by_cases hk : k = 1
  · subst hk
    cases rx
    obtain ⟨t, rfl⟩ := ry
    have z := I.tuple hT
    obtain ⟨its, r, ⟨⟨cls, dd, data, sl⟩, ho, hc, n, hd⟩, hs⟩ := z
    simp only at hc hd
    subst hc hd
    have w0 : (decide ((1 : Int) < -(2 ^ 63)) || decide ((1 : Int) ≥ 2 ^ 63)) = false := by decide
    have w1 : (its.toArray.isEmpty || (1 : Int) == 1) = true := by simp
    refine wpAny_binaryOp_repeat_ref (T := "tuple") (U := "int") (by decide) ⟨_, ho, rfl⟩
      (fun s2 => typeIs_int s2 1 t) noFill_tuple_mul F.fills_int_mul
      F.slot_int_rmul repeat_tuple F.slot_int_index.lookup ?_
    refine call_meets F.slot_int_rmul (typeIs_int s 1 t) F.entry_int_rmul
      (F.args_int_rmul_2 _ _) (int_rmul_tuple 1 t l its.toArray n dd sl) ?_
    refine ⟨ho, rfl, ⟨_, ho, rfl⟩, ?_⟩
    refine call_meets F.slot_tuple_mul ⟨_, ho, rfl⟩ F.entry_tuple_mul
      (F.args_tuple_mul_2 _ _) (tuple_mul1 l its.toArray n dd sl 1 t w0 w1) ?_
    exact ⟨ho, .ref l, H, I, rfl, q1 rfl⟩
  · exact op_repB pins s σ H _ _ v u Q I rx ry ⟨l, k, xs, rfl, rfl, hT, hne, by omega, h2, hz, q2⟩
theorem op_mulD : OpR X (binaryOp .Mult) (rdO X.K gMul) := by
  intro pins s σ H x y v u Q I rx ry ⟨Hf, dx, dy, Q0, sub, r1, r2, h, k⟩
  unfold gMul at h
  split at h
  · rename_i i j
    cases r1 with
    | int _ =>
    cases r2 with
    | int _ =>
    exact op_mulW pins s σ H _ _ v u Q I rx ry ⟨i, j, rfl, rfl, h.1, k _ _ Hf H h.2 (.refl sub) (.int _)⟩
  · rename_i a n
    cases r1 with
    | str _ =>
    cases r2 with
    | int _ =>
    exact op_mulS pins s σ H _ _ v u Q I rx ry ⟨a, n, rfl, rfl, h.1.1, h.1.2.1, h.1.2.2, k _ _ Hf H h.2 (.refl sub) (.str _)⟩
  · rename_i ds1 n
    cases r1 with
    | @tup a vs _ h1 h2 =>
    cases r2 with
    | int _ =>
    obtain ⟨⟨c1, c2, c3, c4⟩, h⟩ := h
    refine op_repT2 I rx ry (same_t sub h1) (fun e => by subst e; cases h2; exact c1 rfl) c2 c3 (by rw [h2.len]; exact c4) (fun e => ?_) fun p hp => ?_
    · subst e
      refine k _ _ Hf H h (.refl sub) ?_
      have e : (List.replicate (Int.toNat 1) ds1).flatten = ds1 := by
        show (List.replicate 1 ds1).flatten = _
        simp
      rw [e]
      exact .tup h1 h2
    · exact k _ _ _ _ h (Ext.new sub hp) (.tup (SqT.of upd_same) ((h2.rep n.toNat).mono (same_new (sub.free hp))))
  · rename_i ds1 n
    cases r1 with
    | @lst a vs _ h1 h2 =>
    cases r2 with
    | int _ =>
    obtain ⟨⟨c1, c2, c3⟩, h⟩ := h
    exact op_rep pins s σ H _ _ v u Q I rx ry ⟨a, n, vs, rfl, rfl, sub _ _ h1, c1, c2, by rw [h2.len]; exact c3, fun p hp => k _ _ _ _ h (Ext.new sub hp) (.lst upd_same ((h2.rep n.toNat).mono (same_new (sub.free hp))))⟩
  · exact h.elim
def gDiv : G2 := fun x y Q => match x, y with
  | .int i, .int j => CDivW i j ∧ Q (.int (i / j))
  | _, _ => False
theorem op_divD : OpR X (binaryOp .FloorDiv) (rdO X.K gDiv) := by
  intro pins s σ H x y v u Q I rx ry ⟨Hf, dx, dy, Q0, sub, r1, r2, h, k⟩
  unfold gDiv at h
  split at h
  · rename_i i j
    cases r1 with
    | int _ =>
    cases r2 with
    | int _ =>
    exact op_fdivW pins s σ H _ _ v u Q I rx ry ⟨i, j, rfl, rfl, h.1, k _ _ Hf H h.2 (.refl sub) (.int _)⟩
  · exact h.elim
def gMod : G2 := fun x y Q => match x, y with
  | .int i, .int j => 0 < j ∧ Q (.int (i % j))
  | _, _ => False
theorem op_modD : OpR X (binaryOp .Mod) (rdO X.K gMod) := by
  intro pins s σ H x y v u Q I rx ry ⟨Hf, dx, dy, Q0, sub, r1, r2, h, k⟩
  unfold gMod at h
  split at h
  · rename_i i j
    cases r1 with
    | int _ =>
    cases r2 with
    | int _ =>
    exact op_mod pins s σ H _ _ v u Q I rx ry ⟨i, j, rfl, rfl, h.1, k _ _ Hf H h.2 (.refl sub) (.int _)⟩
  · exact h.elim
def gPow : G2 := fun x y Q => match x, y with
  | .int i, .int j => CPowW i j ∧ Q (.int (i ^ j.toNat))
  | _, _ => False
theorem op_powD : OpR X (binaryOp .Pow) (rdO X.K gPow) := by
  intro pins s σ H x y v u Q I rx ry ⟨Hf, dx, dy, Q0, sub, r1, r2, h, k⟩
  unfold gPow at h
  split at h
  · rename_i i j
    cases r1 with
    | int _ =>
    cases r2 with
    | int _ =>
    exact op_powW pins s σ H _ _ v u Q I rx ry ⟨i, j, rfl, rfl, h.1, k _ _ Hf H h.2 (.refl sub) (.int _)⟩
  · exact h.elim
def dNeg (t : DTE) : DTE := fun Γ Q => t Γ fun d Γ1 => match d with
  | .int i => Q (.int (-i)) Γ1
  | _ => False
theorem de_neg {a : Expr} {ta : DTE} {pos : Pos} (ha : DE X a ta) : DE X (.UnaryOp .USub a pos) (dNeg ta) := by
  refine ⟨pe_of (pe_un un_neg ha.run) ?_⟩
  rintro σ H Q ⟨Γ, Hf, Q0, A, h, k⟩
  refine ⟨Γ, Hf, _, A, h, fun d Γ1 v Hf1 H1 hd S r => ?_⟩
  cases r with
  | int i => exact ⟨i, rfl, k _ Γ1 _ Hf1 H1 hd S (.int _)⟩
  | _ => exact hd.elim
/-! ### comparisons -/
def gEq : B2 := fun x y Q => (noDic x = true ∧ noDic y = true ∧ SeqAt.shaped x = true ∧ SeqAt.shaped y = true) ∧ Q (PyData.eqv x y)
def gNe : B2 := fun x y Q => (noDic x = true ∧ noDic y = true ∧ SeqAt.shaped x = true ∧ SeqAt.shaped y = true) ∧ Q (!PyData.eqv x y)
theorem op_eqDD (hu : X.A.units + 64 < cLine) : OpR X (compareOp .Eq) (rdB X.K gEq) := by
  intro pins s σ H x y v u Q I rx ry ⟨Hf, dx, dy, Q0, sub, r1, r2, h, k⟩
  exact op_eqD hu pins s σ H x y v u Q I rx ry ⟨dx, dy, (r1.mono sub).dp h.1.1, (r2.mono sub).dp h.1.2.1, h.1.2.2.1, h.1.2.2.2, k _ h.2⟩
theorem op_neDD (hu : X.A.units + 64 < cLine) : OpR X (compareOp .NotEq) (rdB X.K gNe) := by
  intro pins s σ H x y v u Q I rx ry ⟨Hf, dx, dy, Q0, sub, r1, r2, h, k⟩
  exact op_neD hu pins s σ H x y v u Q I rx ry ⟨dx, dy, (r1.mono sub).dp h.1.1, (r2.mono sub).dp h.1.2.1, h.1.2.2.1, h.1.2.2.2, k _ h.2⟩
def gLt : B2 := fun x y Q => match x, y with
  | .int i, .int j => Q (decide (i < j))
  | .str a, .str b => Q (decide (a.cps.toList < b.cps.toList))
  | _, _ => False
def gLe : B2 := fun x y Q => match x, y with
  | .int i, .int j => Q (decide (i ≤ j))
  | .str a, .str b => Q (!decide (b.cps.toList < a.cps.toList))
  | _, _ => False
def gGt : B2 := fun x y Q => match x, y with
  | .int i, .int j => Q (decide (j < i))
  | .str a, .str b => Q (decide (b.cps.toList < a.cps.toList))
  | _, _ => False
def gGe : B2 := fun x y Q => match x, y with
  | .int i, .int j => Q (decide (j ≤ i))
  | .str a, .str b => Q (!decide (a.cps.toList < b.cps.toList))
  | _, _ => False
theorem op_ltD : OpR X (compareOp .Lt) (rdB X.K gLt) := by
  intro pins s σ H x y v u Q I rx ry ⟨Hf, dx, dy, Q0, sub, r1, r2, h, k⟩
  unfold gLt at h
  split at h
  · rename_i i j
    cases r1 with
    | int _ =>
    cases r2 with
    | int _ =>
    exact op_lt pins s σ H _ _ v u Q I rx ry ⟨i, j, rfl, rfl, k _ h⟩
  · rename_i i j
    cases r1 with
    | str _ =>
    cases r2 with
    | str _ =>
    exact op_lt_str pins s σ H _ _ v u Q I rx ry ⟨i, j, rfl, rfl, k _ h⟩
  · exact h.elim
theorem op_leD : OpR X (compareOp .LtE) (rdB X.K gLe) := by
  intro pins s σ H x y v u Q I rx ry ⟨Hf, dx, dy, Q0, sub, r1, r2, h, k⟩
  unfold gLe at h
  split at h
  · rename_i i j
    cases r1 with
    | int _ =>
    cases r2 with
    | int _ =>
    exact op_le pins s σ H _ _ v u Q I rx ry ⟨i, j, rfl, rfl, k _ h⟩
  · rename_i i j
    cases r1 with
    | str _ =>
    cases r2 with
    | str _ =>
    exact op_le_str pins s σ H _ _ v u Q I rx ry ⟨i, j, rfl, rfl, k _ h⟩
  · exact h.elim
theorem op_gtD : OpR X (compareOp .Gt) (rdB X.K gGt) := by
  intro pins s σ H x y v u Q I rx ry ⟨Hf, dx, dy, Q0, sub, r1, r2, h, k⟩
  unfold gGt at h
  split at h
  · rename_i i j
    cases r1 with
    | int _ =>
    cases r2 with
    | int _ =>
    exact op_gt pins s σ H _ _ v u Q I rx ry ⟨i, j, rfl, rfl, k _ h⟩
  · rename_i i j
    cases r1 with
    | str _ =>
    cases r2 with
    | str _ =>
    exact op_gt_str pins s σ H _ _ v u Q I rx ry ⟨i, j, rfl, rfl, k _ h⟩
  · exact h.elim
theorem op_geD : OpR X (compareOp .GtE) (rdB X.K gGe) := by
  intro pins s σ H x y v u Q I rx ry ⟨Hf, dx, dy, Q0, sub, r1, r2, h, k⟩
  unfold gGe at h
  split at h
  · rename_i i j
    cases r1 with
    | int _ =>
    cases r2 with
    | int _ =>
    exact op_ge pins s σ H _ _ v u Q I rx ry ⟨i, j, rfl, rfl, k _ h⟩
  · rename_i i j
    cases r1 with
    | str _ =>
    cases r2 with
    | str _ =>
    exact op_ge_str pins s σ H _ _ v u Q I rx ry ⟨i, j, rfl, rfl, k _ h⟩
  · exact h.elim
def isNone : PyData → Bool
  | .none => true
  | _ => false
def gIs : B2 := fun x y Q => match y with
  | .none => Q (isNone x)
  | _ => False
def gIsNot : B2 := fun x y Q => match y with
  | .none => Q (!isNone x)
  | _ => False
theorem rp_none {K : PySem.W.Frag} {H : Hp} {v : V} {d : PyData} (r : Rp K H v d) : decide (v = .non) = isNone d := by
  cases r <;> rfl
theorem op_isD : OpR X (compareOp .Is) (rdB X.K gIs) := by
  intro pins s σ H x y v u Q I rx ry ⟨Hf, dx, dy, Q0, sub, r1, r2, h, k⟩
  cases r2 with
  | non =>
    refine op_isN pins s σ H _ _ v u Q I rx ry ⟨rfl, ?_⟩
    rw [rp_none r1]
    exact k _ h
  | _ => exact h.elim
theorem op_isNotD : OpR X (compareOp .IsNot) (rdB X.K gIsNot) := by
  intro pins s σ H x y v u Q I rx ry ⟨Hf, dx, dy, Q0, sub, r1, r2, h, k⟩
  cases r2 with
  | non =>
    refine op_notN pins s σ H _ _ v u Q I rx ry ⟨rfl, ?_⟩
    rw [rp_none r1]
    exact k _ h
  | _ => exact h.elim
/-! ### subscripts -/
def gIx : G2 := fun x y Q => match x, y with
  | .list xs, .int k => ∃ d, atI xs k = some d ∧ Q d
  | .tuple xs, .int k => ∃ d, atI xs k = some d ∧ Q d
  | .str z, .int k => z.length ≤ sizeLine ∧ ∃ c, atI z.cps.toList k = some c ∧ Q (.str ⟨#[c]⟩)
  | _, _ => False
theorem ix_D : IxR X (rdO X.K gIx) := by
  intro value slice pins s σ H x y v u Q I rx ry ⟨Hf, dx, dy, Q0, sub, r1, r2, h, k⟩ hs
  unfold gIx at h
  split at h
  · rename_i ds1 kk
    cases r1 with
    | @lst a vs _ h1 h2 =>
    cases r2 with
    | int _ =>
    obtain ⟨d, hd, h⟩ := h
    obtain ⟨w, hw, rw⟩ := atI_rp h2 hd
    exact ix_seq value slice pins s σ H _ _ v u Q I rx ry (.inl ⟨a, vs, kk, w, rfl, rfl, SqL.of (sub _ _ h1), hw, k _ _ Hf H h (.refl sub) rw⟩) hs
  · rename_i ds1 kk
    cases r1 with
    | @tup a vs _ h1 h2 =>
    cases r2 with
    | int _ =>
    obtain ⟨d, hd, h⟩ := h
    obtain ⟨w, hw, rw⟩ := atI_rp h2 hd
    exact ix_seq value slice pins s σ H _ _ v u Q I rx ry (.inr (.inl ⟨a, vs, kk, w, rfl, rfl, same_t sub h1, hw, k _ _ Hf H h (.refl sub) rw⟩)) hs
  · rename_i z kk
    cases r1 with
    | str _ =>
    cases r2 with
    | int _ =>
    obtain ⟨hz, c, hc, h⟩ := h
    exact ix_seq value slice pins s σ H _ _ v u Q I rx ry (.inr (.inr ⟨z, kk, c, rfl, rfl, hz, hc, k _ _ Hf H h (.refl sub) (.str _)⟩)) hs
  · exact h.elim
/-! ### built-in functions -/
def gLen : GN := fun ds Q => match ds with
  | [.list xs] => Q (.int (xs.length : Nat))
  | [.tuple xs] => Q (.int (xs.length : Nat))
  | [.str z] => z.length ≤ sizeLine ∧ Q (.int (z.length : Nat))
  | _ => False
theorem cr_lenD : CallR X (.builtin "len") (rdC X.K gLen) := by
  intro pins s σ H vs us Q I r ⟨Hf, ds, Q0, sub, rr, h, k⟩
  match ds, rr, h with
  | [.list xs], .cons (.lst (a := a) (xs := ws) h1 h2) .nil, h => exact call_len_seq pins s σ H _ us Q I r ⟨a, ws, rfl, .inl (SqL.of (sub _ _ h1)), k _ _ Hf H h (.refl sub) (by rw [h2.len]; exact .int _)⟩
  | [.tuple xs], .cons (.tup (a := a) (xs := ws) h1 h2) .nil, h => exact call_len_seq pins s σ H _ us Q I r ⟨a, ws, rfl, .inr (same_t sub h1), k _ _ Hf H h (.refl sub) (by rw [h2.len]; exact .int _)⟩
  | [.str z], .cons (.str _) .nil, h => exact call_len_str pins s σ H _ us Q I r ⟨z, rfl, h.1, k _ _ Hf H h.2 (.refl sub) (.int _)⟩
def gMax : GN := fun ds Q => match ds with
  | [.int i, .int j] => Q (.int (if j > i then j else i))
  | [.list xs] => ∃ ns : List Int, xs = ns.map .int ∧ 0 < ns.length ∧ ∀ m, m ∈ ns → (∀ y ∈ ns, y ≤ m) → Q (.int m)
  | _ => False
theorem cr_maxD (hc : X.calm = true) : CallR X (.builtin "max") (rdC X.K gMax) := by
  intro pins s σ H vs us Q I r ⟨Hf, ds, Q0, sub, rr, h, k⟩
  match ds, rr, h with
  | [.int i, .int j], .cons (.int _) (.cons (.int _) .nil), h => exact call_max2 hc pins s σ H _ us Q I r ⟨i, j, rfl, k _ _ Hf H h (.refl sub) (.int _)⟩
  | [.list xs], .cons (.lst (a := a) (xs := ws) h1 h2) .nil, ⟨ns, e, hp, h⟩ =>
    subst e
    have e := h2.ints
    subst e
    exact cr_max hc pins s σ H _ us Q I r ⟨a, ns, rfl, SqL.of (sub _ _ h1), hp, fun m hm hy => k _ _ Hf H (h m hm hy) (.refl sub) (.int _)⟩
def gMin : GN := fun ds Q => match ds with
  | [.int i, .int j] => Q (.int (if j < i then j else i))
  | [.list xs] => ∃ ns : List Int, xs = ns.map .int ∧ 0 < ns.length ∧ ∀ m, m ∈ ns → (∀ y ∈ ns, m ≤ y) → Q (.int m)
  | _ => False
theorem cr_minD (hc : X.calm = true) : CallR X (.builtin "min") (rdC X.K gMin) := by
  intro pins s σ H vs us Q I r ⟨Hf, ds, Q0, sub, rr, h, k⟩
  match ds, rr, h with
  | [.int i, .int j], .cons (.int _) (.cons (.int _) .nil), h => exact call_min2 hc pins s σ H _ us Q I r ⟨i, j, rfl, k _ _ Hf H h (.refl sub) (.int _)⟩
  | [.list xs], .cons (.lst (a := a) (xs := ws) h1 h2) .nil, ⟨ns, e, hp, h⟩ =>
    subst e
    have e := h2.ints
    subst e
    exact cr_min hc pins s σ H _ us Q I r ⟨a, ns, rfl, SqL.of (sub _ _ h1), hp, fun m hm hy => k _ _ Hf H (h m hm hy) (.refl sub) (.int _)⟩
def gSum : GN := fun ds Q => match ds with
  | [.list xs] => ∃ ns : List Int, xs = ns.map .int ∧ Q (.int ns.sum)
  | _ => False
theorem cr_sumD (hc : X.calm = true) : CallR X (.builtin "sum") (rdC X.K gSum) := by
  intro pins s σ H vs us Q I r ⟨Hf, ds, Q0, sub, rr, h, k⟩
  match ds, rr, h with
  | [.list xs], .cons (.lst (a := a) (xs := ws) h1 h2) .nil, ⟨ns, e, h⟩ =>
    subst e
    have e := h2.ints
    subst e
    exact cr_sum hc pins s σ H _ us Q I r ⟨a, ns, rfl, SqL.of (sub _ _ h1), k _ _ Hf H h (.refl sub) (.int _)⟩
def gAll : GN := fun ds Q => match ds with
  | [.list xs] => ∃ bs : List Bool, xs = bs.map .bool ∧ Q (.bool (bs.all id))
  | _ => False
theorem cr_allD (hc : X.calm = true) : CallR X (.builtin "all") (rdC X.K gAll) := by
  intro pins s σ H vs us Q I r ⟨Hf, ds, Q0, sub, rr, h, k⟩
  match ds, rr, h with
  | [.list xs], .cons (.lst (a := a) (xs := ws) h1 h2) .nil, ⟨ns, e, h⟩ =>
    subst e
    have e := h2.bls
    subst e
    exact cr_all hc pins s σ H _ us Q I r ⟨a, ns, rfl, SqL.of (sub _ _ h1), k _ _ Hf H h (.refl sub) (.bl _)⟩
def gAbs : GN := fun ds Q => match ds with
  | [.int i] => Q (.int (if i < 0 then -i else i))
  | _ => False
theorem cr_absD : CallR X (.builtin "abs") (rdC X.K gAbs) := by
  intro pins s σ H vs us Q I r ⟨Hf, ds, Q0, sub, rr, h, k⟩
  match ds, rr, h with
  | [.int i], .cons (.int _) .nil, h => exact call_abs pins s σ H _ us Q I r ⟨i, rfl, k _ _ Hf H h (.refl sub) (.int _)⟩
def gInt : GN := fun ds Q => match ds with
  | [.int i] => Q (.int i)
  | [.bool b] => Q (.int (if b then 1 else 0))
  | _ => False
theorem cr_intD : CallR X (.type "int") (rdC X.K gInt) := by
  intro pins s σ H vs us Q I r ⟨Hf, ds, Q0, sub, rr, h, k⟩
  match ds, rr, h with
  | [.int i], .cons (.int _) .nil, h => exact call_int1 pins s σ H _ us Q I r (.inl ⟨i, rfl, k _ _ Hf H h (.refl sub) (.int _)⟩)
  | [.bool b], .cons (.bl _) .nil, h => exact call_int1 pins s σ H _ us Q I r (.inr ⟨b, rfl, k _ _ Hf H h (.refl sub) (.int _)⟩)
def gTuple : GN := fun ds Q => match ds with
  | [.list xs] => Q (.tuple xs)
  | [.tuple xs] => Q (.tuple xs)
  | _ => False
theorem cr_tupleD : CallR X (.type "tuple") (rdC X.K gTuple) := by
  intro pins s σ H vs us Q I r ⟨Hf, ds, Q0, sub, rr, h, k⟩
  match ds, rr, h with
  | [.list xs], .cons (.lst (a := a) (xs := ws) h1 h2) .nil, h => exact call_tuple_of pins s σ H _ us Q I r ⟨a, ws, rfl, .inl ⟨SqL.of (sub _ _ h1), fun l hl => k _ _ _ _ h (Ext.new sub hl) (.tup (SqT.of upd_same) (h2.mono (same_new (sub.free hl))))⟩⟩
  | [.tuple xs], .cons (.tup (a := a) (xs := ws) h1 h2) .nil, h => exact call_tuple_of pins s σ H _ us Q I r ⟨a, ws, rfl, .inr ⟨same_t sub h1, k _ _ Hf H h (.refl sub) (.tup h1 h2)⟩⟩
def gList : GN := fun ds Q => match ds with
  | [.list xs] => Q (.list xs)
  | [.tuple xs] => Q (.list xs)
  | _ => False
theorem cr_listD : CallR X (.type "list") (rdC X.K gList) := by
  intro pins s σ H vs us Q I r ⟨Hf, ds, Q0, sub, rr, h, k⟩
  match ds, rr, h with
  | [.list xs], .cons (.lst (a := a) (xs := ws) h1 h2) .nil, h => exact call_list_of pins s σ H _ us Q I r ⟨a, ws, rfl, .inl (SqL.of (sub _ _ h1)), fun l hl => k _ _ _ _ h (Ext.new sub hl) (.lst upd_same (h2.mono (same_new (sub.free hl))))⟩
  | [.tuple xs], .cons (.tup (a := a) (xs := ws) h1 h2) .nil, h => exact call_list_of pins s σ H _ us Q I r ⟨a, ws, rfl, .inr (same_t sub h1), fun l hl => k _ _ _ _ h (Ext.new sub hl) (.lst upd_same (h2.mono (same_new (sub.free hl))))⟩
def gStrI : GN := fun ds Q => match ds with
  | [.int i] => i.natAbs.log2 < 1920 ∧ Q (.str (toString i))
  | _ => False
theorem cr_strD : CallR X (.type "str") (rdC X.K gStrI) := by
  intro pins s σ H vs us Q I r ⟨Hf, ds, Q0, sub, rr, h, k⟩
  match ds, rr, h with
  | [.int i], .cons (.int _) .nil, h => exact call_str_int pins s σ H _ us Q I r ⟨i, rfl, h.1, k _ _ Hf H h.2 (.refl sub) (.str _)⟩
def gRepr : GN := fun ds Q => match ds with
  | [d] => (noDic d = true ∧ d.showable = true ∧ d.depth ≤ 40 ∧ d.shown.length ≤ sizeLine) ∧ Q (.str d.shown)
  | _ => False
theorem cr_reprD (hg : X.A.guards = some []) (hu : X.A.units + 64 < cLine) : CallR X (.builtin "repr") (rdC X.K gRepr) := by
  intro pins s σ H vs us Q I r ⟨Hf, ds, Q0, sub, rr, h, k⟩
  match ds, rr, h with
  | [d], .cons (v := v) rv .nil, ⟨⟨n0, l2, hdp, hl⟩, h⟩ =>
    obtain ⟨u, rfl, ru⟩ := vals1 r
    have z := (rv.mono sub).dp n0
    obtain ⟨as, rd⟩ := Dp.reads I d v u z ru
    have q := k _ _ Hf H h (.refl sub) (.str d.shown)
    cases v with
    | ref a =>
      cases ru
      refine repr_of_reads' rd l2 (PyData.noDict_hsm (dp_hasNo d _ z)) hg (by omega) (fun _ _ z => z) (fun h' w tk k => ?_) hl
      exact ⟨.str d.shown, H, I.kept (t' := tk) k, ⟨_, rfl⟩, q⟩
    | non =>
      cases ru
      cases rd
      exact PySem.P.repr_of_none ⟨.str _, H, I.tok _, ⟨_, rfl⟩, q⟩
    | bl b =>
      cases ru
      cases rd
      exact PySem.P.repr_of_bool ⟨.str _, H, I.tok _, ⟨_, rfl⟩, q⟩
    | int i =>
      obtain ⟨t, rfl⟩ := ru
      cases rd
      exact PySem.P.repr_of_int (by simpa [PyData.showable] using l2) ⟨.str _, H, I.tok _, ⟨_, rfl⟩, q⟩
    | str x =>
      obtain ⟨t, rfl⟩ := ru
      cases rd
      exact PySem.P.repr_of_str (hsz := hl) ⟨.str _, H, I.tok _, ⟨_, rfl⟩, q⟩
    | byt b => cases z
    | flt b => cases z
    | ty n => cases z
/-! ### methods of texts -/
def gJoin : GM := fun x ds Q => match x, ds with
  | .str a, [.list xs] => ∃ ys : List Str, xs = ys.map .str ∧ (ys.map (·.length)).sum + ys.length * a.length ≤ 16777216 ∧ Q (.str (Txt.join a ys))
  | _, _ => False
theorem mt_joinD : MtR X "str.join" (rdM X.K gJoin) := by
  intro pins s σ H x xs v us Q I rx rs ⟨Hf, dx, ds, Q0, sub, r1, r2, h, k⟩
  match dx, ds, r1, r2, h with
  | .str a, [.list xs], .str _, .cons (.lst (a := p) (xs := ws) h1 h2) .nil, ⟨ys, e, hz, h⟩ =>
    subst e
    have e := h2.strs
    subst e
    exact mt_join pins s σ H _ _ v us Q I rx rs ⟨a, p, ys, rfl, rfl, .inl (SqL.of (sub _ _ h1)), hz, k _ _ Hf H h (.refl sub) (.str _)⟩
def gSw : GM := fun x ds Q => match x, ds with
  | .str a, [.str b] => Q (.bool (Txt.startswith a b))
  | _, _ => False
theorem mt_swD : MtR X "str.startswith" (rdM X.K gSw) := by
  intro pins s σ H x xs v us Q I rx rs ⟨Hf, dx, ds, Q0, sub, r1, r2, h, k⟩
  match dx, ds, r1, r2, h with
  | .str a, [.str b], .str _, .cons (.str _) .nil, h => exact mt_startswith pins s σ H _ _ v us Q I rx rs ⟨a, b, rfl, rfl, k _ _ Hf H h (.refl sub) (.bl _)⟩
def gEw : GM := fun x ds Q => match x, ds with
  | .str a, [.str b] => Q (.bool (Txt.endswith a b))
  | _, _ => False
theorem mt_ewD : MtR X "str.endswith" (rdM X.K gEw) := by
  intro pins s σ H x xs v us Q I rx rs ⟨Hf, dx, ds, Q0, sub, r1, r2, h, k⟩
  match dx, ds, r1, r2, h with
  | .str a, [.str b], .str _, .cons (.str _) .nil, h => exact mt_endswith pins s σ H _ _ v us Q I rx rs ⟨a, b, rfl, rfl, k _ _ Hf H h (.refl sub) (.bl _)⟩
def gAscii : GM := fun x ds Q => match x, ds with
  | .str a, [] => Q (.bool (Txt.isascii a))
  | _, _ => False
theorem mt_asciiD : MtR X "str.isascii" (rdM X.K gAscii) := by
  intro pins s σ H x xs v us Q I rx rs ⟨Hf, dx, ds, Q0, sub, r1, r2, h, k⟩
  match dx, ds, r1, r2, h with
  | .str a, [], .str _, .nil, h => exact mt_isascii pins s σ H _ _ v us Q I rx rs ⟨a, rfl, rfl, trivial, k _ _ Hf H h (.refl sub) (.bl _)⟩
def gAlpha : GM := fun x ds Q => match x, ds with
  | .str a, [] => Q (.bool (Txt.isalpha a))
  | _, _ => False
theorem mt_alphaD : MtR X "str.isalpha" (rdM X.K gAlpha) := by
  intro pins s σ H x xs v us Q I rx rs ⟨Hf, dx, ds, Q0, sub, r1, r2, h, k⟩
  match dx, ds, r1, r2, h with
  | .str a, [], .str _, .nil, h => exact mt_isalpha pins s σ H _ _ v us Q I rx rs ⟨a, rfl, rfl, trivial, k _ _ Hf H h (.refl sub) (.bl _)⟩
def gLower : GM := fun x ds Q => match x, ds with
  | .str a, [] => Q (.bool (Txt.islower a))
  | _, _ => False
theorem mt_lowerD : MtR X "str.islower" (rdM X.K gLower) := by
  intro pins s σ H x xs v us Q I rx rs ⟨Hf, dx, ds, Q0, sub, r1, r2, h, k⟩
  match dx, ds, r1, r2, h with
  | .str a, [], .str _, .nil, h => exact mt_islower pins s σ H _ _ v us Q I rx rs ⟨a, rfl, rfl, trivial, k _ _ Hf H h (.refl sub) (.bl _)⟩
/-! ### isinstance(e, T) -/
theorem ty_rp {K : PySem.W.Frag} {H : Hp} {v : V} {d : PyData} (h : Rp K H v d) : TyX K H v (.type (kindOf d)) := by
  cases h with
  | non => exact .base .non
  | bl b => exact .base (.bl b)
  | int i => exact .base (.int i)
  | str x => exact .base (.str x)
  | lst q _ => exact ty_list (SqL.of q)
  | tup q _ => exact ty_tuple q
  | dic q _ => exact .base (.dK q)
def isiD (T : String) (d : PyData) : Bool := kindOf d == T || (T == "int" && kindOf d == "bool")
def dIsi (T : String) (te : DTE) : DTE := fun Γ Q => te Γ fun d Γ1 => Q (.bool (isiD T d)) Γ1
theorem kit_D (T : String) (h : T ∈ ["str", "int", "bool", "list", "tuple", "dict"]) (d : PyData) : kitB (kindOf d) T = some (isiD T d) := by
  have z : ∀ k ∈ (["NoneType", "bool", "int", "str", "list", "tuple", "dict"] : List String), ∀ T ∈ (["str", "int", "bool", "list", "tuple", "dict"] : List String), kitB k T = some (k == T || (T == "int" && k == "bool")) := by decide +kernel
  refine z _ ?_ T h
  cases d <;> simp [Bl.kindOf]
/-- isinstance(e, T) -/
theorem de_isi {T : String} {e : Expr} {te : DTE} {x : Str} {p p2 pos : Pos} (hT : T ∈ ["str", "int", "bool", "list", "tuple", "dict"]) (hg : Gl X "isinstance") (hm : X.mg "isinstance" = none) (hg2 : Gl X x) (hm2 : X.mg x = none) (hv : bootBuiltins x = some (.type T)) (he : DE X e te) (hn : x ≠ "__name__" := by decide) (hdb : (x == ("__debug__" : Str)) = false := by decide)
    (hs : starEach [e, .Name x p2] X.env = (false, eval e X.env) :: starEach [.Name x p2] X.env := by rfl) (hs2 : starEach [.Name x p2] X.env = (false, eval (.Name x p2) X.env) :: starEach [] X.env := by rfl) (hpl : (backTo pos (starEach [.Name x p2] X.env)).any (·.1) = false := by rfl) :
    DE X (.Call (.Name "isinstance" p) [e, .Name x p2] [] pos) (dIsi T te) := by
  refine ⟨pe_of (pe_callB call_isi hg hm boot_isinstance (pa_cons he.run (pa_cons (pe_bltn (v := .ty T) hg2 hm2 hv rfl hn hdb) pa_nil hs2) hs) (by decide) (by decide) hs hpl) ?_⟩
  rintro σ H Q ⟨Γ, Hf, Q0, A, h, k⟩
  refine ⟨Γ, Hf, _, A, h, fun d Γ1 v Hf1 H1 hd S r => ?_⟩
  exact ⟨v, .ty T, _, _, _, rfl, .ty T, ty_rp (r.mono S.abs.sub), kit_ty (kit_D T hT d), k _ Γ1 _ Hf1 H1 hd S (.bl _)⟩
end
end Dl
namespace Dl
open PySem PySem.Spec PyProof.Rows L2 TL Bl
section
variable {X : Cx} {e : Expr} {te : DTE} {pos p : Pos} {tg : Expr}
/-! ### a list or a tuple that is walked; turned round -/
def iSq (K : PySem.W.Frag) (tl : TE) : TI := fun σ H R => tl σ H fun x H1 => ∃ a xs, x = .ref a ∧ ((SqL K H1 a xs ∧ R (Itl K a) H1) ∨ (SqT K H1 a xs ∧ R (Itt K a) H1))
theorem pi_sq {l : Expr} {tl : TE} (hl : PE X l tl) : PI X tg l (iSq X.K tl) := by
  refine ⟨fun pins s σ H R I h => ?_⟩
  refine thn (hl.run pins s σ H _ I h) fun v s1 ⟨x, H1, I1, r1, q1⟩ => ?_
  obtain ⟨a, xs, e, q⟩ := q1
  subst e
  cases r1
  rcases q with ⟨hq, q⟩ | ⟨hq, q⟩
  · obtain ⟨its, rv, p, hz⟩ := I1.list hq
    refine wpAny_pyIter_list p.isList ?_
    refine ⟨s1.heap.objs.size, [s1.heap.objs.size], _, _, H1, rfl, I1.kept (t' := s1.toks) fun b o e => Heap.get?_push_of_some _ e, turn_list a _, ⟨_, Heap.get?_push_size _ rfl, rfl, rfl⟩, fun b hb => ?_, q⟩
    have e : b = s1.heap.objs.size := by simpa using hb
    subst e
    exact I1.fpOk (Nat.le_refl _) (I1.hok.fresh (Nat.le_refl _))
  · obtain ⟨its, rv, p, hz⟩ := I1.tuple hq
    refine wpAny_pyIter_tuple (show s1.heap.IsTuple a its.toArray from p) ?_
    refine ⟨s1.heap.objs.size, [s1.heap.objs.size], _, _, H1, rfl, I1.kept (t' := s1.toks) fun b o e => Heap.get?_push_of_some _ e, turn_tuple a _, ⟨_, Heap.get?_push_size _ rfl, rfl, rfl⟩, fun b hb => ?_, q⟩
    have e : b = s1.heap.objs.size := by simpa using hb
    subst e
    exact I1.fpOk (Nat.le_refl _) (I1.hok.fresh (Nat.le_refl _))
def dSq (te : DTE) : DTA := fun Γ Q => te Γ fun d Γ1 => match d with
  | .list ds => Q ds Γ1
  | .tuple ds => Q ds Γ1
  | _ => False
theorem di_sq (he : DE X e te) : DI X tg e (dSq te) := by
  refine ⟨pi_of (pi_sq he.run) ?_⟩
  rintro σ H R ⟨Γ, Hf, Q0, A, h, k⟩
  refine ⟨Γ, Hf, _, A, h, fun d Γ1 v Hf1 H1 hq S r => ?_⟩
  cases r with
  | @lst a vs ds h1 h2 => exact ⟨a, vs, rfl, .inl ⟨SqL.of (S.abs.sub _ _ h1), k ds Γ1 _ Hf1 H1 hq S (itd_list h1 h2)⟩⟩
  | @tup a vs ds h1 h2 => exact ⟨a, vs, rfl, .inr ⟨same_t S.abs.sub h1, k ds Γ1 _ Hf1 H1 hq S (itd_tup h1 h2)⟩⟩
  | _ => exact hq.elim
/-- e[::-1] of a list -/
def dRevL (te : DTE) : DTE := fun Γ Q => te Γ fun d Γ1 => match d with
  | .list ds => Q (.list ds.reverse) Γ1
  | _ => False
theorem de_revL {k : Nat} {p1 p2 p3 : Pos} (he : DE X e te) : DE X (.Subscript e (.Slice none none (some (.UnaryOp .USub (.Constant (.int 1) k p1) p2)) p3) pos) (dRevL te) := by
  refine ⟨pe_of (pe_revL he.run) ?_⟩
  rintro σ H Q ⟨Γ, Hf, Q0, A, h, k⟩
  refine ⟨Γ, Hf, _, A, h, fun d Γ1 v Hf1 H1 hq S r => ?_⟩
  cases r with
  | @lst a vs ds h1 h2 => exact ⟨a, vs, rfl, SqL.of (S.abs.sub _ _ h1), fun p hp => k _ Γ1 _ _ _ hq (S.trans (S.abs.stp (Ext.new S.abs.sub hp))) (.lst upd_same (h2.rev.mono (same_new (S.abs.sub.free hp))))⟩
  | _ => exact hq.elim
end
/-! ### the facts of a def that is called -/
section
variable (P : Program) (w : World) (K : PySem.W.Frag) (mg : Str → Option Value) (base : Heap)
/-- where a def stands -/
def At (x : Str) (st : Stmt) (ps : List Str) : Prop := ∃ f fd, Fun K x x st f fd ∧ mg x = some (.ref f) ∧ Binds K fd ps []
structure FD (x : Str) (k n : Nat) (t : GN) : Prop where
  ex : ∃ f fd ps, FnOk P w K mg base CX0 k f fd ps (spD n t K) ∧ mg x = some (.ref f) ∧ PySem.W.keepIn K (.ref f) = true ∧ Binds K fd ps []
structure FDG (x : Str) (k n : Nat) (t : GN) : Prop where
  ex : ∃ f fd ps, FnG P w K mg base CX0 k f fd ps (spD n t K) ∧ mg x = some (.ref f) ∧ PySem.W.keepIn K (.ref f) = true ∧ Binds K fd ps []
structure FM (x : Str) (k n : Nat) (t : GNM) : Prop where
  ex : ∃ f fd ps, FnOk P w K mg base CX0 k f fd ps (spM n t K) ∧ mg x = some (.ref f) ∧ PySem.W.keepIn K (.ref f) = true ∧ Binds K fd ps []
structure FMG (x : Str) (k n : Nat) (t : GNM) : Prop where
  ex : ∃ f fd ps, FnG P w K mg base CX0 k f fd ps (spM n t K) ∧ mg x = some (.ref f) ∧ PySem.W.keepIn K (.ref f) = true ∧ Binds K fd ps []
/-- keyword arguments: the parameters in their order are the arguments at ix -/
def pmL {α : Type} (ix : List Nat) (ws : List α) : List α := ix.filterMap fun i => ws[i]?
def gP {α : Type} (ix : List Nat) (us ws : List α) : List α := match us with
  | [] => pmL ix ws
  | _ :: _ => []
structure FK (x : Str) (ks : List Str) (ix : List Nat) (k n : Nat) (t : GN) : Prop where
  ex : ∃ f fd ps, FnOk P w K mg base CX0 k f fd ps (spD n t K) ∧ mg x = some (.ref f) ∧ PySem.W.keepIn K (.ref f) = true ∧ KBinds K fd ps ks (gP ix) (gP ix)
structure FKG (x : Str) (ks : List Str) (ix : List Nat) (k n : Nat) (t : GN) : Prop where
  ex : ∃ f fd ps, FnG P w K mg base CX0 k f fd ps (spD n t K) ∧ mg x = some (.ref f) ∧ PySem.W.keepIn K (.ref f) = true ∧ KBinds K fd ps ks (gP ix) (gP ix)
end
section
variable {X : Cx} {e : Expr} {es : List Expr} {pos p : Pos} {x : Str} {k n : Nat} {tf : GN} {tm : GNM} {t : DTA} {E : XK}
theorem de_fn (F : FD X.prog X.w X.K X.mg X.base x k n tf) (hr : Room k X.A) (hg : Gl X x) (hx : ∀ E, Passes CX0 X E) (ha : DA X (e :: es) t) (hdb : (x == ("__debug__" : Str)) = false := by decide)
    (he : starEach (e :: es) X.env = (false, eval e X.env) :: starEach es X.env := by rfl) (hpl : (backTo pos (starEach es X.env)).any (·.1) = false := by rfl) : DE X (.Call (.Name x p) (e :: es) [] pos) (dFn n tf t) := by
  obtain ⟨f, fd, ps, O, m, kp, b⟩ := F.ex
  exact de_call O hr hg m kp b (hx E0) ha hdb he hpl
theorem de_fnG (F : FDG X.prog X.w X.K X.mg X.base x k n tf) (hgd : X.A.guards = some []) (hr : Room k X.A) (hg : Gl X x) (hx : ∀ E, Passes CX0 X E) (ha : DA X (e :: es) t) (hdb : (x == ("__debug__" : Str)) = false := by decide)
    (he : starEach (e :: es) X.env = (false, eval e X.env) :: starEach es X.env := by rfl) (hpl : (backTo pos (starEach es X.env)).any (·.1) = false := by rfl) : DE X (.Call (.Name x p) (e :: es) [] pos) (dFn n tf t) := by
  obtain ⟨f, fd, ps, O, m, kp, b⟩ := F.ex
  exact de_callG O hgd hr hg m kp b (hx E0) ha hdb he hpl
theorem de_fnM (i : Nat) {y : Str} {np : Pos} (F : FM X.prog X.w X.K X.mg X.base x k n tm) (hr : Room k X.A) (hg : Gl X x) (hx : ∀ E, Passes CX0 X E) (ha : DA X es t)
    (hN : X.N[i]? = some y := by rfl) (hv : Vis X.env.scope y := by first | exact Or.inl rfl | exact Or.inr (Or.inl rfl) | exact Or.inr (Or.inr rfl)) (hd : (y == ("__debug__" : Str)) = false := by decide) (hcd : (y == ("__classdict__" : Str)) = false := by decide) (hdb : (x == ("__debug__" : Str)) = false := by decide)
    (he : starEach (.Name y np :: es) X.env = (false, eval (.Name y np) X.env) :: starEach es X.env := by rfl) (hpl : (backTo pos (starEach es X.env)).any (·.1) = false := by rfl) : DE X (.Call (.Name x p) (.Name y np :: es) [] pos) (dFnM i n tm t) := by
  obtain ⟨f, fd, ps, O, m, kp, b⟩ := F.ex
  exact de_callM i O hr hg m kp b (hx E0) ha hN hv hd hcd hdb he hpl
theorem de_fnMG (i : Nat) {y : Str} {np : Pos} (F : FMG X.prog X.w X.K X.mg X.base x k n tm) (hgd : X.A.guards = some []) (hr : Room k X.A) (hg : Gl X x) (hx : ∀ E, Passes CX0 X E) (ha : DA X es t)
    (hN : X.N[i]? = some y := by rfl) (hv : Vis X.env.scope y := by first | exact Or.inl rfl | exact Or.inr (Or.inl rfl) | exact Or.inr (Or.inr rfl)) (hd : (y == ("__debug__" : Str)) = false := by decide) (hcd : (y == ("__classdict__" : Str)) = false := by decide) (hdb : (x == ("__debug__" : Str)) = false := by decide)
    (he : starEach (.Name y np :: es) X.env = (false, eval (.Name y np) X.env) :: starEach es X.env := by rfl) (hpl : (backTo pos (starEach es X.env)).any (·.1) = false := by rfl) : DE X (.Call (.Name x p) (.Name y np :: es) [] pos) (dFnM i n tm t) := by
  obtain ⟨f, fd, ps, O, m, kp, b⟩ := F.ex
  exact de_callMG i O hgd hr hg m kp b (hx E0) ha hN hv hd hcd hdb he hpl
theorem FD.up {P : Program} {w : World} {K : PySem.W.Frag} {mg : Str → Option Value} {base : Heap} {x : Str} {t : GN} (F : FD P w K mg base x k n t) : FDG P w K mg base x k n t := by
  obtain ⟨f, fd, ps, O, m, kp, b⟩ := F.ex
  exact ⟨f, fd, ps, ⟨O.len, fun A outer s H args us vs Q E _ => O.run A outer s H args us vs Q E⟩, m, kp, b⟩
/-! ### calls by keyword -/
theorem RpAll.pm {K : PySem.W.Frag} {H : Hp} {vs : List V} {ds : List PyData} (r : RpAll K H vs ds) (ix : List Nat) : RpAll K H (pmL ix vs) (pmL ix ds) := r.pick (fun k => k) ix
theorem kb_of {K : PySem.W.Frag} {fd : FuncData} {ps ks : List Str} {ix : List Nat} (hp : ps.length ≠ 0) (h : ∀ (ws : List Value), (pmL ix ws).length = ps.length → bindArgs fd ⟨[], ks.zip ws⟩ = pure (ps.zip (pmL ix ws))) : KBinds K fd ps ks (gP ix) (gP ix) := by
  constructor
  · intro s us ws hk hl
    cases us with
    | nil => exact .of_eq (h ws hl)
    | cons u us => exact absurd (show (0 : Nat) = ps.length from hl).symm hp
  · intro vs us zs ws r1 r2
    cases r1 with
    | nil => exact vals_pick r2 (fun k => k) ix
    | cons _ _ => exact .nil
structure DKw (X : Cx) (kws : List Keyword) (t : DTA) : Prop where
  run : PK X kws (rdA X.K t)
variable {kws : List Keyword} {te : DTE} {nm : Option Str} {kpos : Pos}
theorem pk_of {kws : List Keyword} {t u : TA} (h : PK X kws t) (k : ∀ σ H Q, u σ H Q → t σ H Q) : PK X kws u := ⟨fun pos pins s σ H Q I q => h.run pos pins s σ H Q I (k σ H Q q)⟩
theorem dkw_nil : DKw X [] dNil := ⟨pk_of pk_nil fun σ H Q ⟨Γ, Hf, Q0, A, h, k⟩ => k [] Γ [] Hf H h (.refl A) .nil⟩
theorem dkw_cons (ha : DE X e te) (hr : DKw X kws t) : DKw X (⟨nm, e, kpos⟩ :: kws) (dCons te t) := by
  refine ⟨pk_of (pk_cons ha.run hr.run) ?_⟩
  rintro σ H Q ⟨Γ, Hf, Q0, A, h, k⟩
  refine ⟨Γ, Hf, _, A, h, fun dx Γ1 v Hf1 H1 hx S1 r1 => ?_⟩
  refine ⟨Γ1, Hf1, _, S1.abs, hx, fun ds Γ2 vs Hf2 H2 hs S2 r2 => ?_⟩
  exact k (dx :: ds) Γ2 (v :: vs) Hf2 H2 hs (S1.trans S2) (.cons (r1.mono S2.same) r2)
def dFnK (ix : List Nat) (n : Nat) (tf : GN) (t : DTA) : DTE := fun Γ Q => t Γ fun ds Γ1 => (pmL ix ds).length = n ∧ tf (pmL ix ds) fun d => Q d Γ1
theorem de_fnK {ks : List Str} {ix : List Nat} (F : FK X.prog X.w X.K X.mg X.base x ks ix k n tf) (hr : Room k X.A) (hg : Gl X x) (hx : ∀ E, Passes CX0 X E) (hkw : DKw X kws t)
    (hall : (backToKw pos (keywordEach kws X.env)).all (·.1.isSome) = true := by rfl) (hks : (backToKw pos (keywordEach kws X.env)).filterMap (·.1) = ks := by rfl) (hdb : (x == ("__debug__" : Str)) = false := by decide)
    (hpl : ((backTo pos (starEach [] X.env)).any (·.1) || (backToKw pos (keywordEach kws X.env)).any (·.1.isNone)) = false := by rfl) : DE X (.Call (.Name x p) [] kws pos) (dFnK ix n tf t) := by
  obtain ⟨f, fd, ps, O, m, kp, b⟩ := F.ex
  refine ⟨pe_of (pe_callK0 O hr hg m kp b (hx E0) hkw.run hall hks hdb hpl) ?_⟩
  rintro σ H Q ⟨Γ, Hf, Q0, A, h, kk⟩
  refine ⟨Γ, Hf, _, A, h, fun ds Γ1 vs Hf1 H1 hq S r => ?_⟩
  show spD n tf X.K (pmL ix vs) H1 Q E0
  exact ⟨by rw [(r.pm ix).len]; exact hq.1, Hf1, _, _, S.abs.sub, r.pm ix, hq.2, fun d v Hf2 H2 q e rv => kk d Γ1 v Hf2 H2 q (S.trans (S.abs.stp e)) rv⟩
theorem FD.kw {P : Program} {w : World} {K : PySem.W.Frag} {mg : Str → Option Value} {base : Heap} {x : Str} {st : Stmt} {ps ks : List Str} {ix : List Nat} {t : GN} {f : Addr} {fd : FuncData} (F : Fun K x x st f fd) (m : mg x = some (.ref f)) (O : FnOk P w K mg base CX0 k f fd ps (spD n t K)) (hp : ps.length ≠ 0)
    (h : ∀ (kV doc pm : Value) (an : Option Addr) (cdv ct : Value) (ws : List Value), (pmL ix ws).length = ps.length → bindArgs (PySem.W.fnOf x x (defArgs st) (defBody st) (defScope st) .none kV doc pm an cdv ct) ⟨[], ks.zip ws⟩ = pure (ps.zip (pmL ix ws))) : FK P w K mg base x ks ix k n t := by
  obtain ⟨oc, od, kV, doc, pm, an, cdv, ct, osl, rfl, lk, hcd⟩ := id F.ex
  exact ⟨f, _, ps, O, m, F.kp, kb_of hp (h kV doc pm an cdv ct)⟩
end
end Dl
namespace Dl
open PySem PySem.Spec PyProof.Rows L2 TL Bl
/-- a module's int -/
def GI (mg : Str → Option Value) (x : Str) (i : Int) : Prop := ∃ u, mg x = some u ∧ RelV (.int i) u
theorem de_gi {X : Cx} {x : Str} {i : Int} {pos : Pos} (h : GI X.mg x i) (hg : Gl X x) (hd : (x == ("__debug__" : Str)) = false := by decide) : DE X (.Name x pos) (dC (.int i)) := by
  obtain ⟨u, hm, r⟩ := h
  exact de_const (pe_glob hg hm r hd) fun _ => .int i
def dPar3 (i j l : Nat) (t u v : DTK) : DTS := fun D Γ => t Γ fun c Γ1 => u Γ1 fun c2 Γ2 => v Γ2 fun c3 Γ3 => D.nx (((Γ3.set i (some c)).set j (some c2)).set l (some c3))
def dEnumT (t : DTA) : DTA := fun Γ Q => t Γ fun ds Γ1 => match ds with
  | [.tuple xs] => Q (enumD xs) Γ1
  | _ => False
def dIsi2 (T U : String) (te : DTE) : DTE := fun Γ Q => te Γ fun d Γ1 => Q (.bool (isiD T d || isiD U d)) Γ1
/-! ### small facts for simp -/
theorem sh_non  : SeqAt.shaped .none = true := rfl
theorem sh_bl (b : Bool) : SeqAt.shaped (.bool b) = true := rfl
theorem sh_int (i : Int) : SeqAt.shaped (.int i) = true := rfl
theorem nd_non  : noDic .none = true := rfl
theorem nd_bl (b : Bool) : noDic (.bool b) = true := rfl
theorem nd_int (i : Int) : noDic (.int i) = true := rfl
theorem nd_str (x : Str) : noDic (.str x) = true := rfl
theorem nd_lst (ds : List PyData) : noDic (.list ds) = noDics ds := rfl
theorem nd_tup (ds : List PyData) : noDic (.tuple ds) = noDics ds := rfl
theorem nds_nil : noDics [] = true := rfl
theorem nds_cons (d : PyData) (ds : List PyData) : noDics (d :: ds) = (noDic d && noDics ds) := rfl
theorem ev_int (i j : Int) : PyData.eqv (.int i) (.int j) = (i == j) := rfl
theorem ev_str (i j : Str) : PyData.eqv (.str i) (.str j) = (i == j) := rfl
theorem ev_bl (i j : Bool) : PyData.eqv (.bool i) (.bool j) = (i == j) := rfl
theorem isi_str_non  : isiD "str" .none = false := by simp [isiD, Bl.kindOf]
theorem isi_str_bl (b : Bool) : isiD "str" (.bool b) = false := by simp [isiD, Bl.kindOf]
theorem isi_str_int (i : Int) : isiD "str" (.int i) = false := by simp [isiD, Bl.kindOf]
theorem isi_str_str (x : Str) : isiD "str" (.str x) = true := by simp [isiD, Bl.kindOf]
theorem isi_str_lst (ds : List PyData) : isiD "str" (.list ds) = false := by simp [isiD, Bl.kindOf]
theorem isi_str_tup (ds : List PyData) : isiD "str" (.tuple ds) = false := by simp [isiD, Bl.kindOf]
theorem isi_int_non  : isiD "int" .none = false := by simp [isiD, Bl.kindOf]
theorem isi_int_bl (b : Bool) : isiD "int" (.bool b) = true := by simp [isiD, Bl.kindOf]
theorem isi_int_int (i : Int) : isiD "int" (.int i) = true := by simp [isiD, Bl.kindOf]
theorem isi_int_str (x : Str) : isiD "int" (.str x) = false := by simp [isiD, Bl.kindOf]
theorem isi_int_lst (ds : List PyData) : isiD "int" (.list ds) = false := by simp [isiD, Bl.kindOf]
theorem isi_int_tup (ds : List PyData) : isiD "int" (.tuple ds) = false := by simp [isiD, Bl.kindOf]
theorem isi_bool_non  : isiD "bool" .none = false := by simp [isiD, Bl.kindOf]
theorem isi_bool_bl (b : Bool) : isiD "bool" (.bool b) = true := by simp [isiD, Bl.kindOf]
theorem isi_bool_int (i : Int) : isiD "bool" (.int i) = false := by simp [isiD, Bl.kindOf]
theorem isi_bool_str (x : Str) : isiD "bool" (.str x) = false := by simp [isiD, Bl.kindOf]
theorem isi_bool_lst (ds : List PyData) : isiD "bool" (.list ds) = false := by simp [isiD, Bl.kindOf]
theorem isi_bool_tup (ds : List PyData) : isiD "bool" (.tuple ds) = false := by simp [isiD, Bl.kindOf]
theorem isi_list_non  : isiD "list" .none = false := by simp [isiD, Bl.kindOf]
theorem isi_list_bl (b : Bool) : isiD "list" (.bool b) = false := by simp [isiD, Bl.kindOf]
theorem isi_list_int (i : Int) : isiD "list" (.int i) = false := by simp [isiD, Bl.kindOf]
theorem isi_list_str (x : Str) : isiD "list" (.str x) = false := by simp [isiD, Bl.kindOf]
theorem isi_list_lst (ds : List PyData) : isiD "list" (.list ds) = true := by simp [isiD, Bl.kindOf]
theorem isi_list_tup (ds : List PyData) : isiD "list" (.tuple ds) = false := by simp [isiD, Bl.kindOf]
theorem isi_tuple_non  : isiD "tuple" .none = false := by simp [isiD, Bl.kindOf]
theorem isi_tuple_bl (b : Bool) : isiD "tuple" (.bool b) = false := by simp [isiD, Bl.kindOf]
theorem isi_tuple_int (i : Int) : isiD "tuple" (.int i) = false := by simp [isiD, Bl.kindOf]
theorem isi_tuple_str (x : Str) : isiD "tuple" (.str x) = false := by simp [isiD, Bl.kindOf]
theorem isi_tuple_lst (ds : List PyData) : isiD "tuple" (.list ds) = false := by simp [isiD, Bl.kindOf]
theorem isi_tuple_tup (ds : List PyData) : isiD "tuple" (.tuple ds) = true := by simp [isiD, Bl.kindOf]
theorem cutD_to {α : Type} (xs : List α) (n : Nat) : cutD xs none (some (n : Int)) = xs.take n := by
  unfold cutD
  rw [HT.sIx_nat]
  show (xs.drop 0).take (min n xs.length - 0) = xs.take n
  rw [List.drop_zero, Nat.sub_zero]
  by_cases h : n ≤ xs.length
  · rw [Nat.min_eq_left h]
  · rw [Nat.min_eq_right (by omega), List.take_of_length_le (Nat.le_refl _), List.take_of_length_le (by omega)]
theorem cutD_from {α : Type} (xs : List α) (n : Nat) : cutD xs (some (n : Int)) none = xs.drop n := by
  unfold cutD
  rw [HT.sIx_nat]
  show (xs.drop (min n xs.length)).take (xs.length - min n xs.length) = xs.drop n
  by_cases h : n ≤ xs.length
  · rw [Nat.min_eq_left h]
    exact List.take_of_length_le (by rw [List.length_drop]; omega)
  · rw [Nat.min_eq_right (by omega), List.drop_of_length_le (Nat.le_refl _), List.drop_of_length_le (by omega)]
    simp
theorem cutD_map {α β : Type} (f : α → β) (xs : List α) (lo hi : Option Int) : cutD (xs.map f) lo hi = (cutD xs lo hi).map f := by
  unfold cutD
  rw [List.length_map, List.map_take, List.map_drop]
theorem stpL_map {α β : Type} (f : α → β) (xs : List α) (c : Int) : stpL (xs.map f) c = (stpL xs c).map f := by
  unfold stpL
  rw [List.length_map, List.map_filterMap]
  congr 1
  funext k
  rw [List.getElem?_map]
theorem flat_len {α β : Type} (xs : List α) (ys : List β) : (xs.flatMap fun _ => ys).length = xs.length * ys.length := by
  induction xs with
  | nil => simp
  | cons x xs ih => rw [List.flatMap_cons, List.length_append, ih, List.length_cons, Nat.succ_mul, Nat.add_comm]
theorem sl_le {n : Nat} (h : n ≤ 16777216) : n ≤ sizeLine := by rw [sizeLine_eq]; exact h
theorem mul_sl {a b : Nat} (ha : a ≤ 4000) (hb : b ≤ 4000) : a * b ≤ sizeLine := sl_le (Nat.le_trans (Nat.mul_le_mul ha hb) (by decide))
theorem atI_0 {α : Type} (x0 : α) (r : List α) : atI (x0 :: r) 0 = some x0 := atI_nat (j := 0) rfl
theorem atI_1 {α : Type} (x0 x1 : α) (r : List α) : atI (x0 :: x1 :: r) 1 = some x1 := atI_nat (j := 1) rfl
theorem atI_2 {α : Type} (x0 x1 x2 : α) (r : List α) : atI (x0 :: x1 :: x2 :: r) 2 = some x2 := atI_nat (j := 2) rfl
theorem atI_3 {α : Type} (x0 x1 x2 x3 : α) (r : List α) : atI (x0 :: x1 :: x2 :: x3 :: r) 3 = some x3 := atI_nat (j := 3) rfl
theorem atI_4 {α : Type} (x0 x1 x2 x3 x4 : α) (r : List α) : atI (x0 :: x1 :: x2 :: x3 :: x4 :: r) 4 = some x4 := atI_nat (j := 4) rfl
theorem atI_5 {α : Type} (x0 x1 x2 x3 x4 x5 : α) (r : List α) : atI (x0 :: x1 :: x2 :: x3 :: x4 :: x5 :: r) 5 = some x5 := atI_nat (j := 5) rfl
theorem atI_6 {α : Type} (x0 x1 x2 x3 x4 x5 x6 : α) (r : List α) : atI (x0 :: x1 :: x2 :: x3 :: x4 :: x5 :: x6 :: r) 6 = some x6 := atI_nat (j := 6) rfl
theorem atI_7 {α : Type} (x0 x1 x2 x3 x4 x5 x6 x7 : α) (r : List α) : atI (x0 :: x1 :: x2 :: x3 :: x4 :: x5 :: x6 :: x7 :: r) 7 = some x7 := atI_nat (j := 7) rfl
theorem atI_8 {α : Type} (x0 x1 x2 x3 x4 x5 x6 x7 x8 : α) (r : List α) : atI (x0 :: x1 :: x2 :: x3 :: x4 :: x5 :: x6 :: x7 :: x8 :: r) 8 = some x8 := atI_nat (j := 8) rfl
theorem atI_9 {α : Type} (x0 x1 x2 x3 x4 x5 x6 x7 x8 x9 : α) (r : List α) : atI (x0 :: x1 :: x2 :: x3 :: x4 :: x5 :: x6 :: x7 :: x8 :: x9 :: r) 9 = some x9 := atI_nat (j := 9) rfl
theorem atI_10 {α : Type} (x0 x1 x2 x3 x4 x5 x6 x7 x8 x9 x10 : α) (r : List α) : atI (x0 :: x1 :: x2 :: x3 :: x4 :: x5 :: x6 :: x7 :: x8 :: x9 :: x10 :: r) 10 = some x10 := atI_nat (j := 10) rfl
theorem atI_11 {α : Type} (x0 x1 x2 x3 x4 x5 x6 x7 x8 x9 x10 x11 : α) (r : List α) : atI (x0 :: x1 :: x2 :: x3 :: x4 :: x5 :: x6 :: x7 :: x8 :: x9 :: x10 :: x11 :: r) 11 = some x11 := atI_nat (j := 11) rfl
theorem atI_12 {α : Type} (x0 x1 x2 x3 x4 x5 x6 x7 x8 x9 x10 x11 x12 : α) (r : List α) : atI (x0 :: x1 :: x2 :: x3 :: x4 :: x5 :: x6 :: x7 :: x8 :: x9 :: x10 :: x11 :: x12 :: r) 12 = some x12 := atI_nat (j := 12) rfl
theorem atI_13 {α : Type} (x0 x1 x2 x3 x4 x5 x6 x7 x8 x9 x10 x11 x12 x13 : α) (r : List α) : atI (x0 :: x1 :: x2 :: x3 :: x4 :: x5 :: x6 :: x7 :: x8 :: x9 :: x10 :: x11 :: x12 :: x13 :: r) 13 = some x13 := atI_nat (j := 13) rfl
theorem atI_14 {α : Type} (x0 x1 x2 x3 x4 x5 x6 x7 x8 x9 x10 x11 x12 x13 x14 : α) (r : List α) : atI (x0 :: x1 :: x2 :: x3 :: x4 :: x5 :: x6 :: x7 :: x8 :: x9 :: x10 :: x11 :: x12 :: x13 :: x14 :: r) 14 = some x14 := atI_nat (j := 14) rfl
theorem ixN_3_0 : ixN 3 0 = some 0 := by decide +kernel
theorem ixN_3_1 : ixN 3 1 = some 1 := by decide +kernel
theorem ixN_3_2 : ixN 3 2 = some 2 := by decide +kernel
theorem pick_all {α : Type} (xs : List α) : (List.range xs.length).filterMap (fun (k : Nat) => xs[k]?) = xs := by
  induction xs with
  | nil => rfl
  | cons x r ih =>
    rw [List.length_cons, List.range_succ_eq_map, List.filterMap_cons_some (b := x) (by rfl), List.filterMap_map]
    congr 1
theorem stpN_rev (n : Nat) : stpN n (-1) = ((n : Int) - 1, n) := by
  refine Prod.ext rfl ?_
  show (if (-1 : Int) > 0 then _ else (if (if (-1 : Int) < 0 then (n : Int) - 1 else 0) > (if (-1 : Int) < 0 then -1 else (n : Int)) then ((if (-1 : Int) < 0 then (n : Int) - 1 else 0) - (if (-1 : Int) < 0 then -1 else (n : Int)) - 1) / (-(-1)) + 1 else 0)).toNat = n
  have a : (-1 : Int) < 0 := by decide
  have b : ¬ ((-1 : Int) > 0) := by decide
  simp only [if_pos a, if_neg b, Int.neg_neg, Int.ediv_one]
  split <;> omega
theorem stpL_rev {α : Type} (xs : List α) : stpL xs (-1) = xs.reverse := by
  unfold stpL
  rw [stpN_rev]
  have e := pick_all xs.reverse
  rw [List.length_reverse] at e
  refine Eq.trans ?_ e
  have h : ∀ (l : List Nat), (∀ k ∈ l, k < xs.length) → (l.filterMap fun (k : Nat) => xs[((xs.length : Int) - 1 + (k : Int) * -1).toNat]?) = l.filterMap fun (k : Nat) => xs.reverse[k]? := by
    intro l
    induction l with
    | nil => intro _; rfl
    | cons k l ih =>
      intro hl
      have hk := hl k List.mem_cons_self
      have e1 : ((xs.length : Int) - 1 + (k : Int) * -1).toNat = xs.length - 1 - k := by omega
      rw [List.filterMap_cons, List.filterMap_cons, ih fun j hj => hl j (List.mem_cons_of_mem _ hj), e1, List.getElem?_reverse hk]
  exact h _ fun k hk => by simpa using hk
theorem cutD_from1 {α : Type} (xs : List α) (n : Nat) : cutD xs (some ((n : Int) + 1)) none = xs.drop (n + 1) := cutD_from xs (n + 1)
/-! ### loops by invariants -/
theorem loop_ind {g : DTG} {tb : DTS} {D : DEnds} (I : Nat → DE0 → Prop) : ∀ {ds : List PyData} {n : Nat} {Γ : DE0}, I n Γ →
    (∀ i d Γ, ds[i]? = some d → I (n + i) Γ → ∀ K : DE0 → Prop, (∀ Γ2, I (n + i + 1) Γ2 → K Γ2) → g d Γ fun Γ1 => tb { D with nx := K, ct := K, bk := D.nx } Γ1) → (∀ Γ, I (n + ds.length) Γ → D.nx Γ) → dLoop g tb D ds Γ
  | [], n, Γ, h, _, he => he Γ h
  | d :: ds, n, Γ, h, st, he => by
    refine st 0 d Γ rfl h _ fun Γ2 h2 => ?_
    refine loop_ind I (n := n + 1) h2 (fun i e Γ3 hi h3 => ?_) fun Γ3 h3 => he Γ3 (by rw [List.length_cons]; rw [show n + (ds.length + 1) = n + 1 + ds.length from by omega]; exact h3)
    have e1 : n + 1 + i = n + (i + 1) := by omega
    rw [e1] at h3
    have z := st (i + 1) e Γ3 (by rw [List.getElem?_cons_succ]; exact hi) h3
    rw [show n + 1 + i + 1 = n + (i + 1) + 1 from by omega]
    exact z
theorem for_ind {g : DTG} {tb : DTS} {D : DEnds} {ds : List PyData} {Γ : DE0} (I : Nat → DE0 → Prop) (h0 : I 0 Γ) (st : ∀ i d Γ, ds[i]? = some d → I i Γ → ∀ K : DE0 → Prop, (∀ Γ2, I (i + 1) Γ2 → K Γ2) → g d Γ fun Γ1 => tb { D with nx := K, ct := K, bk := D.nx } Γ1)
    (he : ∀ Γ, I ds.length Γ → D.nx Γ) : dLoop g tb D ds Γ := by
  refine loop_ind I (n := 0) h0 (fun i d Γ hi h K hk => st i d Γ hi (by rw [Nat.zero_add] at h; exact h) K (by rw [Nat.zero_add] at hk; exact hk)) fun Γ h => he Γ (by rw [Nat.zero_add] at h; exact h)
theorem lc_ind0 {g : DTG} {tt : DTT} {te : DTE} {vs : List Nat} {Q : List PyData → DE0 → Prop} (I : Nat → List PyData → DE0 → Prop) : ∀ {ds : List PyData} {n : Nat} {acc : List PyData} {Γ : DE0}, I n acc Γ →
    (∀ i d acc Γ, ds[i]? = some d → I (n + i) acc Γ → ∀ (K : PyData → DE0 → Prop) (K0 : DE0 → Prop), (∀ y Γ3, acc.length < sizeLine ∧ I (n + i + 1) (acc ++ [y]) (dWipe Γ3 vs) → K y Γ3) → (∀ Γ2, I (n + i + 1) acc (dWipe Γ2 vs) → K0 Γ2) →
      g d Γ fun Γ1 => tt Γ1 fun b Γ2 => if b = true then te Γ2 K else K0 Γ2) → (∀ acc Γ, I (n + ds.length) acc Γ → Q acc Γ) → dLc1 g tt te vs Q ds acc Γ
  | [], n, acc, Γ, h, _, he => he acc Γ h
  | d :: ds, n, acc, Γ, h, st, he => by
    have next : ∀ acc Γ, I (n + 1) acc Γ → dLc1 g tt te vs Q ds acc Γ := fun acc Γ h2 => by
      refine lc_ind0 I (n := n + 1) h2 (fun i e acc3 Γ3 hi h3 => ?_) fun acc Γ3 h3 => he acc Γ3 (by rw [List.length_cons]; rw [show n + (ds.length + 1) = n + 1 + ds.length from by omega]; exact h3)
      have e1 : n + 1 + i = n + (i + 1) := by omega
      rw [e1] at h3
      have z := st (i + 1) e acc3 Γ3 (by rw [List.getElem?_cons_succ]; exact hi) h3
      rw [show n + 1 + i + 1 = n + (i + 1) + 1 from by omega]
      exact z
    exact st 0 d acc Γ rfl h _ _ (fun y Γ3 z => ⟨z.1, next _ _ z.2⟩) fun Γ2 z => next _ _ z
theorem lc_ind {g : DTG} {tt : DTT} {te : DTE} {vs : List Nat} {Q : List PyData → DE0 → Prop} {ds : List PyData} {Γ : DE0} (I : Nat → List PyData → DE0 → Prop) (h0 : I 0 [] Γ)
    (st : ∀ i d acc Γ, ds[i]? = some d → I i acc Γ → ∀ (K : PyData → DE0 → Prop) (K0 : DE0 → Prop), (∀ y Γ3, acc.length < sizeLine ∧ I (i + 1) (acc ++ [y]) (dWipe Γ3 vs) → K y Γ3) → (∀ Γ2, I (i + 1) acc (dWipe Γ2 vs) → K0 Γ2) →
      g d Γ fun Γ1 => tt Γ1 fun b Γ2 => if b = true then te Γ2 K else K0 Γ2) (he : ∀ acc Γ, I ds.length acc Γ → Q acc Γ) : dLc1 g tt te vs Q ds [] Γ := by
  refine lc_ind0 I (n := 0) h0 (fun i d acc Γ hi h K K0 hk hk0 => st i d acc Γ hi (by rw [Nat.zero_add] at h; exact h) K K0 (by rw [Nat.zero_add] at hk; exact hk) (by rw [Nat.zero_add] at hk0; exact hk0)) fun acc Γ h => he acc Γ (by rw [Nat.zero_add] at h; exact h)
/-- [f(x) for x in xs], nothing else changed -/
theorem lc_map0 {α : Type} {g : DTG} {te : DTE} {vs : List Nat} {Q : List PyData → DE0 → Prop} {Γw : DE0} (c f : α → PyData) : ∀ {xs : List α} {acc : List PyData}, acc.length + xs.length ≤ sizeLine → (∀ x ∈ xs, ∀ K : PyData → DE0 → Prop, (∀ Γ', dWipe Γ' vs = Γw → K (f x) Γ') → g (c x) Γw fun Γ1 => te Γ1 K) → Q (acc ++ xs.map f) Γw → dLc1 g dYes te vs Q (xs.map c) acc Γw
  | [], acc, _, _, h => by
    show Q acc Γw
    simpa using h
  | x :: xs, acc, hl, st, h => by
    rw [List.length_cons] at hl
    refine st x List.mem_cons_self _ fun Γ' e => ⟨by omega, ?_⟩
    rw [e]
    refine lc_map0 c f (by rw [List.length_append]; show acc.length + 1 + xs.length ≤ sizeLine; omega) (fun y hy => st y (List.mem_cons_of_mem _ hy)) ?_
    rw [List.append_assoc]
    exact h
theorem lc_map {α : Type} {g : DTG} {te : DTE} {vs : List Nat} {Q : List PyData → DE0 → Prop} {Γw : DE0} {ds : List PyData} {xs : List α} (c f : α → PyData) (hd : ds = xs.map c) (hl : xs.length ≤ sizeLine) (st : ∀ x ∈ xs, ∀ K : PyData → DE0 → Prop, (∀ Γ', dWipe Γ' vs = Γw → K (f x) Γ') → g (c x) Γw fun Γ1 => te Γ1 K) (h : Q (xs.map f) Γw) : dLc1 g dYes te vs Q ds [] Γw := by
  subst hd
  exact lc_map0 c f (by simpa using hl) st (by simpa using h)
/-- [x for x in xs if p(x)] -/
theorem lc_filter0 {α : Type} {g : DTG} {tt : DTT} {te : DTE} {vs : List Nat} {Q : List PyData → DE0 → Prop} {Γw : DE0} (c f : α → PyData) (p : α → Bool) : ∀ {xs : List α} {acc : List PyData}, acc.length + xs.length ≤ sizeLine →
    (∀ x ∈ xs, ∀ (K : PyData → DE0 → Prop) (K0 : DE0 → Prop), (p x = true → ∀ Γ', dWipe Γ' vs = Γw → K (f x) Γ') → (p x = false → ∀ Γ', dWipe Γ' vs = Γw → K0 Γ') → g (c x) Γw fun Γ1 => tt Γ1 fun b Γ2 => if b = true then te Γ2 K else K0 Γ2) → Q (acc ++ (xs.filter p).map f) Γw → dLc1 g tt te vs Q (xs.map c) acc Γw
  | [], acc, _, _, h => by
    show Q acc Γw
    simpa using h
  | x :: xs, acc, hl, st, h => by
    rw [List.length_cons] at hl
    refine st x List.mem_cons_self _ _ (fun hp Γ' e => ⟨by omega, ?_⟩) fun hp Γ' e => ?_
    · rw [e]
      refine lc_filter0 c f p (by rw [List.length_append]; show acc.length + 1 + xs.length ≤ sizeLine; omega) (fun y hy => st y (List.mem_cons_of_mem _ hy)) ?_
      rw [List.filter_cons, if_pos hp] at h
      rw [List.append_assoc]
      exact h
    · show dLc1 g tt te vs Q (xs.map c) acc (dWipe Γ' vs)
      rw [e]
      refine lc_filter0 c f p (by omega) (fun y hy => st y (List.mem_cons_of_mem _ hy)) ?_
      rw [List.filter_cons, if_neg (by rw [hp]; exact Bool.false_ne_true)] at h
      exact h
theorem lc_filter {α : Type} {g : DTG} {tt : DTT} {te : DTE} {vs : List Nat} {Q : List PyData → DE0 → Prop} {Γw : DE0} {ds : List PyData} {xs : List α} (c f : α → PyData) (p : α → Bool) (hd : ds = xs.map c) (hl : xs.length ≤ sizeLine)
    (st : ∀ x ∈ xs, ∀ (K : PyData → DE0 → Prop) (K0 : DE0 → Prop), (p x = true → ∀ Γ', dWipe Γ' vs = Γw → K (f x) Γ') → (p x = false → ∀ Γ', dWipe Γ' vs = Γw → K0 Γ') → g (c x) Γw fun Γ1 => tt Γ1 fun b Γ2 => if b = true then te Γ2 K else K0 Γ2) (h : Q ((xs.filter p).map f) Γw) : dLc1 g tt te vs Q ds [] Γw := by
  subst hd
  exact lc_filter0 c f p (by simpa using hl) st (by simpa using h)
/-- [f(x, y) for x in xs for y in ys(x)] -/
theorem lc2_map0 {α β : Type} {g g1 : DTG} {t1 : DTA} {te : DTE} {vs vs1 : List Nat} {Q : List PyData → DE0 → Prop} {Γw : DE0} (c : α → PyData) (c1 : β → PyData) (ys : α → List β) (f : α → β → PyData) : ∀ {xs : List α} {acc : List PyData}, acc.length + (xs.flatMap ys).length ≤ sizeLine →
    (∀ x ∈ xs, ∀ (K : List PyData → DE0 → Prop), (∀ Γ3, (∀ (y : β), y ∈ ys x → ∀ K1 : PyData → DE0 → Prop, (∀ Γ', dWipe Γ' vs1 = dWipe Γ3 vs1 → K1 (f x y) Γ') → g1 (c1 y) (dWipe Γ3 vs1) fun Γ4 => te Γ4 K1) → dWipe (dWipe Γ3 vs1) vs = Γw → K ((ys x).map c1) Γ3) → g (c x) Γw fun Γ1 => t1 Γ1 K) →
    Q (acc ++ xs.flatMap fun x => (ys x).map (f x)) Γw → dLc2o g dYes t1 g1 dYes te vs vs1 Q (xs.map c) acc Γw
  | [], acc, _, _, h => by
    show Q acc Γw
    simpa using h
  | x :: xs, acc, hl, st, h => by
    rw [List.flatMap_cons, List.length_append] at hl
    refine st x List.mem_cons_self _ fun Γ3 in3 e => ?_
    refine lc_map0 c1 (f x) (by omega) in3 ?_
    show dLc2o g dYes t1 g1 dYes te vs vs1 Q (xs.map c) (acc ++ (ys x).map (f x)) (dWipe (dWipe Γ3 vs1) vs)
    rw [e]
    refine lc2_map0 c c1 ys f (by rw [List.length_append, List.length_map]; omega) (fun y hy => st y (List.mem_cons_of_mem _ hy)) ?_
    rw [List.append_assoc]
    rw [List.flatMap_cons] at h
    exact h
theorem lc2_map {α β : Type} {g g1 : DTG} {t1 : DTA} {te : DTE} {vs vs1 : List Nat} {Q : List PyData → DE0 → Prop} {Γw : DE0} {ds : List PyData} {xs : List α} (c : α → PyData) (c1 : β → PyData) (ys : α → List β) (f : α → β → PyData) (hd : ds = xs.map c) (hl : (xs.flatMap ys).length ≤ sizeLine)
    (st : ∀ x ∈ xs, ∀ (K : List PyData → DE0 → Prop), (∀ Γ3, (∀ (y : β), y ∈ ys x → ∀ K1 : PyData → DE0 → Prop, (∀ Γ', dWipe Γ' vs1 = dWipe Γ3 vs1 → K1 (f x y) Γ') → g1 (c1 y) (dWipe Γ3 vs1) fun Γ4 => te Γ4 K1) → dWipe (dWipe Γ3 vs1) vs = Γw → K ((ys x).map c1) Γ3) → g (c x) Γw fun Γ1 => t1 Γ1 K)
    (h : Q (xs.flatMap fun x => (ys x).map (f x)) Γw) : dLc2o g dYes t1 g1 dYes te vs vs1 Q ds [] Γw := by
  subst hd
  exact lc2_map0 c c1 ys f (by simpa using hl) st (by simpa using h)
/-! ### rows as data -/
theorem noDics_strs : ∀ ws : List Str, noDics (ws.map PyData.str) = true
  | [] => rfl
  | _ :: r => noDics_strs r
theorem noDic_row (ws : List Str) : noDic (rowT ws) = true := noDics_strs ws
theorem eqv_strs : ∀ a b : List Str, PyData.eqvAll (a.map .str) (b.map .str) = decide (a = b)
  | [], [] => by simp [PyData.eqvAll]
  | [], _ :: _ => by simp [PyData.eqvAll]
  | _ :: _, [] => by simp [PyData.eqvAll]
  | x :: a, y :: b => by
    show ((x == y) && PyData.eqvAll (a.map .str) (b.map .str)) = _
    rw [eqv_strs a b, Bool.eq_iff_iff]
    simp
theorem eqv_row (a b : List Str) : PyData.eqv (rowT a) (rowT b) = decide (a = b) := eqv_strs a b
theorem shaped_row {b : Nat} {ws : List Str} (h : WdsOk b ws) : SeqAt.shaped (rowT ws) = true := (selfP (rowT_okP h).1 (Nat.le_trans (rowT_okP h).2.2 (by decide))).1
theorem shaped_lst {b : Nat} {ws : List Str} (h : WdsOk b ws) : SeqAt.shaped (.list (ws.map .str)) = true := shaped_row h
end Dl
namespace Bl
open PySem PySem.Spec PyProof.Rows L2

/-- an abstract heap in which at most the script stands, locked -/
structure Scr (P : Program) (w : World) (K : PySem.W.Frag) (h : Heap) (a : Addr) (H : Hp) : Prop where
  hok : HOk P w H h
  at_a : ∀ b, H b ≠ none → b = a
  free : H a ≠ none → K.lookup a = none
  frz : ∀ b u, H b = some u → ∃ o xs, u = .frz o (.lst xs)

theorem scr_end {P : Program} {w : World} {K : PySem.W.Frag} {mg mb : Str → Option Value} {k : Nat} {fa a : Addr} {fd : FuncData} {x : Str} {sp : Sp} {s1 : Shared} {vs : List Value} {H : Hp}
    (KX : K.In s1.heap) (ns0 : s1.heap.Ns mainGlobals mg) (nb : s1.heap.Ns builtinsNs mb) (nbb : ∀ y : Str, y ≠ "__name__" → mb y = bootBuiltins y) (lim : s1.heap.NoLimit) (g0 : s1.gens = #[])
    (ha : s1.heap.get? a = some { cls := .type "list", data := .seq vs.toArray }) (hr : Room k callerA) (S : Scr P w K s1.heap a H)
    (F : ∀ base : Heap, K.In base → base.Ns mainGlobals mg → FnG P w K mg base CX0 k fa fd [x] sp) (hbind : ∀ (s : Shared) (u : Value), BindsTo s fd ⟨[u], []⟩ [(x, u)])
    (hsp : sp [.ref a] H (fun v _ => v = .bl true) fun _ _ _ => False) :
    codeAny (model P w) callerA (.call (.ref fa) ⟨[.ref a], []⟩) (fun r s' => r = .ok (.ret (.bool true)) ∧ PySem.OldK s1.heap s'.heap ∧ s'.os = s1.os ∧ AllBare s'.gens) s1 := by
  -- no namespace is the script
  have dictFree : ∀ {b : Addr} {o : Obj} {es : Array DictEntry} {ep : Nat}, s1.heap.get? b = some o → o.data = .dict es ep → H b = none := by
    intro b o es ep e d
    apply Classical.byContradiction
    intro z
    have eb := S.at_a b z
    rw [eb, ha] at e
    injection e with e
    rw [← e] at d
    exact absurd d (by simp)
  have nsKept : ∀ {b : Addr} {m : Str → Option Value}, s1.heap.Ns b m → (hidT s1.heap H).Ns b m := by
    intro b m n
    obtain ⟨o, es, ep, e, d, r⟩ := n
    exact ⟨o, es, ep, hidT_get e (dictFree e d), d, r⟩
  have kin : K.In (hidT s1.heap H) := by
    intro b o e
    refine hidT_get (KX b o e) ?_
    apply Classical.byContradiction
    intro z
    have eb := S.at_a b z
    subst eb
    rw [S.free z] at e
    cases e
  obtain ⟨mc, l1, l2⟩ := lim
  have md : Mod K mg (hidT s1.heap H) := ⟨kin, nsKept ns0, ⟨mb, nsKept nb, nbb⟩, ⟨mc, nsKept l1, l2⟩⟩
  have env : Env0 P w K mg (hidT s1.heap H) callerA [] s1 H := by
    refine ⟨rfl, md, fun b o e => of_hidT e, Nat.le_of_eq (hidT_size _ _), trivial, ?_, S.hok, .of_eq g0⟩
    intro b hb
    exact absurd hb (List.not_mem_nil)
  have run := (F _ kin (nsKept ns0)).runG callerA [] s1 H ⟨[.ref a], []⟩ [.ref a] [.ref a] _ _ rfl hr env (hbind s1 (.ref a)) (.cons rfl .nil) hsp
  refine codeAny_mono run ?_
  intro r s2 h
  match r, h with
  | .error e, h => exact False.elim h
  | .ok .next, h => exact False.elim h
  | .ok .brk, h => exact False.elim h
  | .ok .cont, h => exact False.elim h
  | .ok (.ret u), ⟨v, H2, os, bare, un, hok2, rv, q⟩ =>
    have q : v = .bl true := q
    subst q
    have rv : u = Value.bool true := rv
    subst rv
    refine ⟨rfl, PySem.OldK.of_keep ?_, os, bare⟩
    intro b o e
    by_cases z : H b = none
    · exact un.keep b o e z List.not_mem_nil List.not_mem_nil
    · obtain ⟨u, hu⟩ := Option.ne_none_iff_exists'.mp z
      obtain ⟨ob, xs, rfl⟩ := S.frz b u hu
      have k1 := (S.hok b _ hu).1
      have k2 := (hok2 b _ (un.frzs b ob _ hu)).1
      rw [e] at k1
      rw [Option.some.inj k1]
      exact k2

theorem walkG {l : PySem.W.OpenLaw} {n k : Nat} {q : Program} {loose : List Str} {XP : (Str → Option Value) → Heap → Prop} {YP : World → Heap → Prop} {d : DefRec} {K : Params → PySem.W.Frag} {sp : PySem.W.Frag → Sp} {x : Str}
    (hn : l.most = some n) (hn2 : n ≤ sizeLine) (hdf : d.params.defaults = []) (hr : Room k callerA)
    (hY : ∀ (w : World) (h : Heap), YP w h → (K w.params).In h)
    (F : ∀ (w : World) (mg : Str → Option Value) (fa : Addr) (h : Heap), (K w.params).In h → h.Ns mainGlobals mg → mg d.name = some (.ref fa) →
      ∃ fd : FuncData, (∀ (s : Shared) (u : Value), BindsTo s fd ⟨[u], []⟩ [(x, u)]) ∧ ∀ base : Heap, (K w.params).In base → base.Ns mainGlobals mg → FnG l.prog w (K w.params) mg base CX0 k fa fd [x] (sp (K w.params)))
    (hsp : ∀ (K : PySem.W.Frag) (H : Hp) (a : Addr) (ns : List Int), ns.length ≤ n → SqL K H a (ns.map V.int) → sp K [.ref a] H (fun v _ => v = .bl true) fun _ _ _ => False) :
    PySem.W.WalkO q loose XP YP l.row.toRowW d [] (fun f vs => PySem.call f vs) := by
  apply Att.attach_call hn hdf
  intro w s0 s1 mg mb fa o pm cd doc a vs ns G Y ho hd hcd hmg hobj hints hlen hg
  have KX := hY w _ Y
  have rv := vals_ints hints
  have le := hints.length
  have sz : (ns.map V.int).length ≤ sizeLine := by
    rw [List.length_map]
    exact Nat.le_trans hlen hn2
  obtain ⟨fd, hb, hF⟩ := F w mg fa _ KX G.T.g hmg
  cases hk : (K w.params).lookup a with
  | some o1 =>
    have e := KX a o1 hk
    rw [hobj] at e
    injection e with e
    subst e
    refine scr_end (H := fun _ => none) KX G.T.g G.T.b G.T.builtins G.T.nolimit hg hobj hr ⟨?_, fun b z => absurd rfl z, fun z => absurd rfl z, fun b u z => by cases z⟩ hF hb (hsp _ _ a ns hlen ?_)
    · intro b u z
      cases z
    · refine Or.inr ⟨_, vs.toArray, _, hk, rfl, rfl, rfl, ?_, ?_⟩
      · rw [List.size_toArray, le]
        exact Nat.le_trans hlen hn2
      · rw [List.toList_toArray]
        exact rv
  | none =>
    have own : ∀ b u, (fun b => if b = a then some (HO.frz { cls := .type "list", data := .seq vs.toArray } (.lst (ns.map V.int))) else none) b = some u → b = a ∧ u = .frz { cls := .type "list", data := .seq vs.toArray } (.lst (ns.map V.int)) := by
      intro b u z
      by_cases hba : b = a
      · refine ⟨hba, ?_⟩
        have z2 : (if b = a then some (HO.frz { cls := .type "list", data := .seq vs.toArray } (.lst (ns.map V.int))) else none) = some u := z
        rw [if_pos hba] at z2
        exact (Option.some.inj z2).symm
      · have z2 : (if b = a then some (HO.frz { cls := .type "list", data := .seq vs.toArray } (.lst (ns.map V.int))) else none) = some u := z
        rw [if_neg hba] at z2
        cases z2
    refine scr_end (H := fun b => if b = a then some (.frz { cls := .type "list", data := .seq vs.toArray } (.lst (ns.map V.int))) else none) KX G.T.g G.T.b G.T.builtins G.T.nolimit hg hobj hr ⟨?_, ?_, fun _ => hk, ?_⟩ hF hb (hsp _ _ a ns hlen ?_)
    · intro b u z
      obtain ⟨rfl, rfl⟩ := own b u z
      exact ⟨hobj, sz, vs, _, rv, hobj⟩
    · intro b z
      obtain ⟨u, hu⟩ := Option.ne_none_iff_exists'.mp z
      exact (own b u hu).1
    · intro b u z
      exact ⟨_, _, (own b u z).2⟩
    · exact Or.inl (Or.inr ⟨_, if_pos rfl⟩)
end Bl
namespace Dl
open PySem PySem.Spec PyProof.Rows L2 TL Bl
/-! ### the script: a list of ints that is only read -/
abbrev GNS := List Int → List PyData → (PyData → Prop) → Prop
def spS (n : Nat) (t : GNS) (K : PySem.W.Frag) : Sp := fun vs H Q _ => vs.length = n ∧ ∃ a ws Hf ns ds Q0, vs = .ref a :: ws ∧ Same Hf H ∧ SqL K Hf a (ns.map V.int) ∧ RpAll K Hf ws ds ∧ t ns ds Q0 ∧ ∀ d v Hf' H', Q0 d → Ext Hf H Hf' H' → Rp K Hf' v d → Q v H'
section
variable {K : PySem.W.Frag}
theorem no_ownS {N : List Str} {ns : List Int} {ds : List PyData} {b : Addr} {σ : L2.St} : ¬ Own (startD N.length (.scr ns :: ds.map Cell.d)) σ b := fun ⟨i, c, h, m⟩ => by
  obtain ⟨_, e⟩ := no_adr1 i b c h m
  subst e
  cases m
theorem abs_startS {N : List Str} {a : Addr} {ns : List Int} {ws : List V} {ds : List PyData} {Hf H : Hp} (s : Same Hf H) (hs : SqL K Hf a (ns.map V.int)) (r : RpAll K Hf ws ds) (hl : ws.length + 1 ≤ N.length) :
    Abs K (startD N.length (.scr ns :: ds.map Cell.d)) (L2.start N (.ref a :: ws)) Hf H := by
  refine ⟨s, ?_, fun i c h => ?_, fun i j c e p h1 _ m _ => absurd ⟨i, c, h1, m⟩ (no_ownS (N := N) (σ := []))⟩
  · unfold startD L2.start
    simp [r.len]
  · cases i with
    | zero =>
      have h : some (some (Cell.scr ns)) = some (some c) := h
      cases h
      exact ⟨.ref a, rfl, a, rfl, hs⟩
    | succ i =>
      unfold startD at h
      rw [List.map_cons, List.cons_append, List.getElem?_cons_succ] at h
      rcases Nat.lt_or_ge i ds.length with z | z
      · rw [List.getElem?_append_left (by simp; exact z)] at h
        simp only [List.map_map, List.getElem?_map, Function.comp] at h
        obtain ⟨d, hd, e⟩ := Option.map_eq_some_iff.mp h
        cases e
        obtain ⟨v, hv, rv⟩ := r.to hd
        refine ⟨v, ?_, rv⟩
        have hi : i < ws.length := by rw [r.len]; exact z
        rw [start_at (by rw [List.length_cons]; omega), List.getElem?_cons_succ, hv]
      · rw [List.getElem?_append_right (by simp; exact z)] at h
        simp [List.getElem?_replicate] at h
end
section
variable {P : Program} {w : World} {K : PySem.W.Frag} {mg : Str → Option Value} {base : Heap} {x qual : Str} {st : Stmt} {f : Addr} {fd : FuncData} {N ps : List Str} {k : Nat} {t : GNS} {tb : DTS}
theorem sem_S {N : List Str} {n : Nat} (hn : n ≤ N.length) (sem : ∀ ns ds Q0, ds.length + 1 = n → t ns ds Q0 → tb { nx := fun _ => Q0 .none, rt := fun d _ => Q0 d } (startD N.length (.scr ns :: ds.map Cell.d))) {vs : List V} {H : Hp} {Q : VK} {E : XK} (h : spS n t K vs H Q E) :
    rdS K tb { nx := fun _ H' => Q .non H', rt := Q } (L2.start N vs) H := by
  obtain ⟨hl, a, ws, Hf, ns, ds, Q0, rfl, s, hs, r, ht, k⟩ := h
  rw [List.length_cons] at hl
  have A := abs_startS (N := N) s hs r (by omega)
  have ext : ∀ {Γ' σ' Hf' H'}, Stp K (startD N.length (.scr ns :: ds.map Cell.d)) (L2.start N (.ref a :: ws)) Hf H Γ' σ' Hf' H' → Ext Hf H Hf' H' := fun {Γ' σ' Hf' H'} S => ⟨fun b o q => S.fr b o q no_ownS, S.same, S.abs.sub, fun b q => by
    rcases S.fz b q with z | z | z
    · exact .inl z
    · exact absurd z no_ownS
    · exact .inr z⟩
  exact ⟨_, Hf, _, A, sem ns ds Q0 (by rw [← r.len]; exact hl) ht, fun Γ' σ' Hf' H' q S => k .none .non Hf' H' q (ext S) .non, fun d Γ' v σ' Hf' H' q S rv => k d v Hf' H' q (ext S) rv, fun _ _ _ _ q _ => False.elim q, fun _ _ _ _ q _ => False.elim q⟩
theorem ok_S (F : Fun K x qual st f fd) (S : FnScope N ps (defScope st)) (hn : ps.length ≤ N.length)
    (body : ∀ (cdv : Value) (A : Around) (outer : List PySem.Env) (s : Shared) (H : Hp) (E : XK), Room k (A.deeper (envOfC qual (defScope st) s.heap.objs.size f cdv)) → DSs (cxOf CX0 P w K mg base N qual (defScope st) f cdv A outer s H E).nox (defBody st) tb)
    (sem : ∀ ns ds Q0, ds.length + 1 = ps.length → t ns ds Q0 → tb { nx := fun _ => Q0 .none, rt := fun d _ => Q0 d } (startD N.length (.scr ns :: ds.map Cell.d))) : FnOk P w K mg base CX0 (k + 1) f fd ps (spS ps.length t K) :=
  F.ok S (fun vs H Q E h => h.1) fun cdv A outer s H vs Q E hr h => ⟨_, (body cdv A outer s H E hr).run, sem_S hn sem h⟩
/-- the law's own def -/
def spLaw (K : PySem.W.Frag) : Sp := fun vs H Q _ => ∃ (a : Addr) (ns : List Int), vs = [.ref a] ∧ SqL K H a (ns.map V.int) ∧ ns.length ≤ 63 ∧ ∀ H', Q (.bl true) H'
theorem ok_law (F : Fun K x qual st f fd) (S : FnScope N ["script"] (defScope st)) (hn : 1 ≤ N.length)
    (body : ∀ (cdv : Value) (A : Around) (outer : List PySem.Env) (s : Shared) (H : Hp) (E : XK), A.guards = some [] → Room k (A.deeper (envOfC qual (defScope st) s.heap.objs.size f cdv)) → DSs (cxOf CX0 P w K mg base N qual (defScope st) f cdv A outer s H E).nox (defBody st) tb)
    (sem : ∀ ns : List Int, ns.length ≤ 63 → tb { nx := fun _ => False, rt := fun d _ => d = .bool true } (startD N.length [.scr ns])) : FnG P w K mg base CX0 (k + 1) f fd ["script"] (spLaw K) := by
  refine okG F S (fun vs H Q E h => ?_) fun cdv A outer s H vs Q E hgd hr h => ⟨_, (body cdv A outer s H E hgd hr).run, ?_⟩
  · obtain ⟨a, ns, rfl, _⟩ := h
    rfl
  · obtain ⟨a, ns, rfl, hs, hl, q⟩ := h
    have A := abs_startS (N := N) (ws := []) (ds := []) (Same.refl H) hs .nil (by simpa using hn)
    refine ⟨_, H, _, A, sem ns hl, fun Γ' σ' Hf' H' q S => False.elim q, fun d Γ' v σ' Hf' H' hd S rv => ?_, fun _ _ _ _ q _ => False.elim q, fun _ _ _ _ q _ => False.elim q⟩
    have hd : d = .bool true := hd
    subst hd
    cases rv
    exact q H'
end
section
variable (P : Program) (w : World) (K : PySem.W.Frag) (mg : Str → Option Value) (base : Heap)
structure FS (x : Str) (k n : Nat) (t : GNS) : Prop where
  ex : ∃ f fd ps, FnOk P w K mg base CX0 k f fd ps (spS n t K) ∧ mg x = some (.ref f) ∧ PySem.W.keepIn K (.ref f) = true ∧ Binds K fd ps []
end
section
variable {X : Cx} {e : Expr} {es : List Expr} {pos p : Pos} {x : Str} {k n : Nat} {t : DTA} {ts : GNS} {ti : DTE}
def scr' (Γ : DE0) (i : Nat) (k : List Int → Prop) : Prop := match at' Γ i with
  | some (.scr ns) => k ns
  | _ => False
theorem scr'_eq {Γ : DE0} {i : Nat} {k : List Int → Prop} (h : scr' Γ i k) : ∃ ns, at' Γ i = some (.scr ns) ∧ k ns := by
  unfold scr' at h
  split at h
  · rename_i ns e
    exact ⟨ns, e, h⟩
  · exact h.elim
theorem Abs.scrAt {K : PySem.W.Frag} {Γ : DE0} {σ : L2.St} {Hf H : Hp} (A : Abs K Γ σ Hf H) {i : Nat} {ns : List Int} (h : at' Γ i = some (.scr ns)) : ∃ a, σ[i]? = some (some (V.ref a)) ∧ SqL K Hf a (ns.map V.int) := by
  obtain ⟨v, e, a, rfl, h2⟩ := A.at_ i _ (at'_eq h)
  exact ⟨a, e, h2⟩
/-- len(script), script[k], f(script, ..) -/
def dLenS (i : Nat) : DTE := fun Γ Q => scr' Γ i fun ns => Q (.int (ns.length : Nat)) Γ
theorem de_lenS (i : Nat) {y : Str} {np : Pos} (hg : Gl X "len") (hm : X.mg "len" = none) (hN : X.N[i]? = some y := by rfl) (hv : Vis X.env.scope y := by first | exact Or.inl rfl | exact Or.inr (Or.inl rfl) | exact Or.inr (Or.inr rfl)) (hd : (y == ("__debug__" : Str)) = false := by decide) (hcd : (y == ("__classdict__" : Str)) = false := by decide)
    (he : starEach [.Name y np] X.env = (false, eval (.Name y np) X.env) :: starEach [] X.env := by rfl) (hpl : (backTo pos (starEach [] X.env)).any (·.1) = false := by rfl) :
    DE X (.Call (.Name "len" p) [.Name y np] [] pos) (dLenS i) := by
  refine ⟨pe_of (pe_callB call_len_seq hg hm PySem.boot_len (pa_cons (pe_var hN hv hd hcd) pa_nil he) (by decide) (by decide) he hpl) ?_⟩
  rintro σ H Q ⟨Γ, Hf, Q0, A, h, k⟩
  obtain ⟨ns, e1, hk⟩ := scr'_eq h
  obtain ⟨a, eq, hs⟩ := A.scrAt e1
  exact ⟨.ref a, eq, a, _, rfl, .inl (A.sub.seq hs), k _ Γ _ Hf H hk (.refl A) (by rw [List.length_map]; exact .int _)⟩
def dIxS (i : Nat) (ti : DTE) : DTE := fun Γ Q => ti Γ fun y Γ1 => scr' Γ i fun _ => scr' Γ1 i fun ns => match y with
  | .int k => ∃ d, atI ns k = some d ∧ Q (.int d) Γ1
  | _ => False
theorem atI_map {α β : Type} (f : α → β) {xs : List α} {k : Int} {d : α} (h : atI xs k = some d) : atI (xs.map f) k = some (f d) := by
  unfold atI at h ⊢
  rw [List.length_map]
  cases e : ixN xs.length k with
  | none => rw [e] at h; cases h
  | some j =>
    rw [e] at h
    have h : xs[j]? = some d := h
    show (xs.map f)[j]? = some (f d)
    rw [List.getElem?_map, h]
    rfl
def isScr (Γ : DE0) (i : Nat) : Bool := match at' Γ i with
  | some (.scr _) => true
  | _ => false
theorem isScr_eq {Γ : DE0} {i : Nat} (h : isScr Γ i = true) : ∃ ns, at' Γ i = some (.scr ns) := by
  unfold isScr at h
  split at h
  · rename_i ns e
    exact ⟨ns, e⟩
  · cases h
def dIxS' (i : Nat) (ti : DTE) : DTE := fun Γ Q => isScr Γ i = true ∧ ti Γ fun y Γ1 => scr' Γ1 i fun ns => match y with
  | .int k => ∃ d, atI ns k = some d ∧ Q (.int d) Γ1
  | _ => False
theorem de_ixS (i : Nat) {y : Str} {np : Pos} {b : Expr} (hb : DE X b ti) (hN : X.N[i]? = some y := by rfl) (hv : Vis X.env.scope y := by first | exact Or.inl rfl | exact Or.inr (Or.inl rfl) | exact Or.inr (Or.inr rfl)) (hd : (y == ("__debug__" : Str)) = false := by decide) (hcd : (y == ("__classdict__" : Str)) = false := by decide) (hs : PlainIx b := by intro _ _; rfl) :
    DE X (.Subscript (.Name y np) b pos) (dIxS' i ti) := by
  refine ⟨pe_of (pe_ix ix_list (pe_var hN hv hd hcd) hb.run hs) ?_⟩
  rintro σ H Q ⟨Γ, Hf, Q0, A, ⟨ho, h⟩, k⟩
  obtain ⟨ns0, e0⟩ := isScr_eq ho
  obtain ⟨a, eq, hsq⟩ := A.scrAt e0
  refine ⟨.ref a, eq, Γ, Hf, _, A, h, fun z Γ1 w Hf1 H1 hk S r => ?_⟩
  obtain ⟨ns, e1, hk⟩ := scr'_eq hk
  obtain ⟨a1, eq1, hs1⟩ := S.abs.scrAt e1
  rw [eq] at eq1
  cases eq1
  cases r with
  | int kk =>
    obtain ⟨d, hd, hk⟩ := hk
    exact ⟨a, _, kk, .int d, rfl, rfl, S.abs.sub.seq hs1, atI_map V.int hd, k _ Γ1 _ Hf1 H1 hk S (.int d)⟩
  | _ => exact hk.elim
def dFnS (i n : Nat) (ts : GNS) (t : DTA) : DTE := fun Γ Q => isScr Γ i = true ∧ t Γ fun ds Γ1 => ds.length + 1 = n ∧ scr' Γ1 i fun ns => ts ns ds fun d => Q d Γ1
theorem de_fnS (i : Nat) {y : Str} {np : Pos} (F : FS X.prog X.w X.K X.mg X.base x k n ts) (hr : Room k X.A) (hg : Gl X x) (hx : ∀ E, Passes CX0 X E) (ha : DA X es t)
    (hN : X.N[i]? = some y := by rfl) (hv : Vis X.env.scope y := by first | exact Or.inl rfl | exact Or.inr (Or.inl rfl) | exact Or.inr (Or.inr rfl)) (hd : (y == ("__debug__" : Str)) = false := by decide) (hcd : (y == ("__classdict__" : Str)) = false := by decide) (hdb : (x == ("__debug__" : Str)) = false := by decide)
    (he : starEach (.Name y np :: es) X.env = (false, eval (.Name y np) X.env) :: starEach es X.env := by rfl) (hpl : (backTo pos (starEach es X.env)).any (·.1) = false := by rfl) : DE X (.Call (.Name x p) (.Name y np :: es) [] pos) (dFnS i n ts t) := by
  obtain ⟨f, fd, ps, O, m, kp, b⟩ := F.ex
  refine ⟨pe_of (pe_call O hr hg m kp b .nil (hx E0) (pa_cons (pe_var hN hv hd hcd) ha.run he) hdb he hpl) ?_⟩
  rintro σ H Q ⟨Γ, Hf, Q0, A, ⟨ho, h⟩, k⟩
  obtain ⟨ns0, e0⟩ := isScr_eq ho
  obtain ⟨a, eq, hsq⟩ := A.scrAt e0
  refine ⟨.ref a, eq, Γ, Hf, _, A, h, fun ds Γ1 vs Hf1 H1 hk S r => ?_⟩
  obtain ⟨ns, e1, hk2⟩ := scr'_eq hk.2
  obtain ⟨a1, eq1, hs1⟩ := S.abs.scrAt e1
  rw [eq] at eq1
  cases eq1
  show spS n ts X.K (.ref a :: vs ++ []) H1 Q E0
  rw [List.append_nil]
  exact ⟨by rw [List.length_cons, r.len]; exact hk.1, a, vs, Hf1, ns, ds, _, rfl, S.abs.sub, hs1, r, hk2, fun d v Hf2 H2 q e rv => k d Γ1 v Hf2 H2 q (S.trans (S.abs.stp e)) rv⟩
/-! ### isinstance(e, (T, U)); enumerate of a tuple; three names at once -/
theorem de_isiT2 {T U : String} {te : DTE} {y z : Str} {p2 p3 p4 : Pos} {kt : Nat} (hT : T ∈ ["str", "int", "bool", "list", "tuple", "dict"]) (hU : U ∈ ["str", "int", "bool", "list", "tuple", "dict"]) (hg : Gl X "isinstance") (hm : X.mg "isinstance" = none) (hg2 : Gl X y) (hg3 : Gl X z) (hm2 : X.mg y = none) (hm3 : X.mg z = none) (hv : bootBuiltins y = some (.type T)) (hv3 : bootBuiltins z = some (.type U)) (he : DE X e te)
    (hn : y ≠ "__name__" := by decide) (hdb : (y == ("__debug__" : Str)) = false := by decide) (hn3 : z ≠ "__name__" := by decide) (hdb3 : (z == ("__debug__" : Str)) = false := by decide)
    (hs : starEach [e, .Tuple [.Name y p2, .Name z p3] kt p4] X.env = (false, eval e X.env) :: starEach [.Tuple [.Name y p2, .Name z p3] kt p4] X.env := by rfl) (hs2 : starEach [.Tuple [.Name y p2, .Name z p3] kt p4] X.env = (false, eval (.Tuple [.Name y p2, .Name z p3] kt p4) X.env) :: starEach [] X.env := by rfl)
    (hs3 : starEach [.Name y p2, .Name z p3] X.env = (false, eval (.Name y p2) X.env) :: starEach [.Name z p3] X.env := by rfl) (hs4 : starEach [.Name z p3] X.env = (false, eval (.Name z p3) X.env) :: starEach [] X.env := by rfl) (hpl : (backTo pos (starEach [.Tuple [.Name y p2, .Name z p3] kt p4] X.env)).any (·.1) = false := by rfl) :
    DE X (.Call (.Name "isinstance" p) [e, .Tuple [.Name y p2, .Name z p3] kt p4] [] pos) (dIsi2 T U te) := by
  refine ⟨pe_of (pe_callB call_isiT hg hm boot_isinstance (pa_cons he.run (pa_cons (pe_tup (pa_cons (pe_bltn (v := .ty T) hg2 hm2 hv rfl hn hdb) (pa_cons (pe_bltn (v := .ty U) hg3 hm3 hv3 rfl hn3 hdb3) pa_nil hs4) hs3)) pa_nil hs2) hs) (by decide) (by decide) hs hpl) ?_⟩
  rintro σ H Q ⟨Γ, Hf, Q0, A, h, k⟩
  refine ⟨Γ, Hf, _, A, h, fun d Γ1 v Hf1 H1 hd S r => ?_⟩
  refine ⟨(by show 2 ≤ sizeLine; decide), fun q hq => ?_⟩
  have E := Ext.new (o := .tup [V.ty T, V.ty U]) S.abs.sub hq
  refine ⟨v, q, [.ty T, .ty U], _, [.type T, .type U], isiD T d || isiD U d, rfl, upd_same, .cons (.ty T) (.cons (.ty U) .nil), ty_rp ((r.mono S.abs.sub).mono (same_new hq)), ?_, k _ Γ1 _ _ _ hd (S.trans (S.abs.stp E)) (.bl _)⟩
  have h1 : PySem.W.kitOne X.K (.type (Bl.kindOf d)) (.type T) = some (isiD T d) := kit_ty (kit_D T hT d)
  have h2 : PySem.W.kitOne X.K (.type (Bl.kindOf d)) (.type U) = some (isiD U d) := kit_ty (kit_D U hU d)
  show PySem.W.kitAny X.K (.type (Bl.kindOf d)) [.type T, .type U] = _
  unfold PySem.W.kitAny
  simp only [h1]
  cases isiD T d with
  | true => rfl
  | false =>
    unfold PySem.W.kitAny
    simp only [h2]
    cases isiD U d with
    | true => rfl
    | false => rfl
end
end Dl
/-! enumerate of a tuple. -/
namespace Dl
open PySem PySem.Spec PyProof.Rows L2 TL Bl
open AutoSeq1 (wpAny_loadPart')
set_option maxHeartbeats 4000000 in
theorem meets_enumerate_newT (l : Addr) (items : Array Value) (n : Nat) (dct : Option Addr) (sl : Array (Option Value)) :
    Meets (Builtin.«enumerate.__new__» ⟨[.type "enumerate", .ref l], []⟩) (fun _ R s => s.heap.get? l = some { cls := .type "tuple", dict := dct, data := .seq items n, slots := sl } ∧
      R (.ok (.ret (.ref (s.heap.push { cls := .type "tuple_iterator", data := .fields #[.ref l, .int 0 0] }).objs.size)))
        { s with heap := (s.heap.push { cls := .type "tuple_iterator", data := .fields #[.ref l, .int 0 0] }).push { cls := .type "enumerate", data := .fields #[.none, .bool false, .ref s.heap.objs.size, rawInt 0, .none, .none] } }) :=
  .of_wp fun prog w A R s h => by
    obtain ⟨hp, g, d, tk, os⟩ := s
    obtain ⟨hl, h⟩ := h
    have hsub := sub_enumerate
    have hL : Heap.IsTuple (Shared.heap ⟨hp, g, d, tk, os⟩) l items := ⟨_, hl, rfl, n, rfl⟩
    wp_walk using wpAny_loadPart' hl
    refine wpAny_stack_any fun st => wpAny_pure ?_
    split
    · rename_i c _ _ _ _ _
      cases (c == Value.type "enumerate")
      · wp_walk using wpAny_loadPart' hl, wpAny_pyIter_tuple hL
        exact ⟨_, rfl, h⟩
      · wp_walk using wpAny_loadPart' hl, wpAny_pyIter_tuple hL
        exact ⟨_, rfl, h⟩
    · wp_walk using wpAny_loadPart' hl, wpAny_pyIter_tuple hL
      exact ⟨_, rfl, h⟩
section
variable {prog : Program} {w : World} {A : Around} {E : Value → Shared → Prop} {s : Shared}
theorem call_enumerate_tuple {l : Addr} {items : Array Value} {Q : Value → Shared → Prop} (hL : s.heap.IsTuple l items)
    (h : ∀ h', IsEnum h' (s.heap.objs.size + 1) s.heap.objs.size 0 .none → h'.IsTupleIter s.heap.objs.size l 0 → h'.objs.size = s.heap.objs.size + 2 →
      (∀ b o, s.heap.get? b = some o → h'.get? b = some o) → Q (.ref (s.heap.objs.size + 1)) { s with heap := h' }) :
    wpAny (model prog w) A (call (.type "enumerate") [.ref l]) Q E s := by
  obtain ⟨⟨c, dct, dt, sl⟩, hl, hc, n, hd⟩ := hL
  replace hc : c = .type "tuple" := hc
  replace hd : dt = .seq items n := hd
  subst hc hd
  refine callType_new F.called_enumerate (by decide) (F.typeCall_enumerate_1 _) (F.newCall_enumerate_1 _) (fun obj => F.args_object_init_2 obj _) F.entry_enumerate_new
    (meets_enumerate_newT l items n dct sl) ⟨hl, ?_⟩
  have hz : (s.heap.push { cls := .type "tuple_iterator", data := .fields #[.ref l, .int 0 0] }).objs.size = s.heap.objs.size + 1 := Heap.size_push ..
  show _ ∧ _
  rw [hz]
  have he : IsEnum ((s.heap.push { cls := .type "tuple_iterator", data := .fields #[.ref l, .int 0 0] }).push
      { cls := .type "enumerate", data := .fields #[.none, .bool false, .ref s.heap.objs.size, rawInt 0, .none, .none] }) (s.heap.objs.size + 1) s.heap.objs.size 0 .none := by
    have := Heap.get?_push_size (s.heap.push { cls := .type "tuple_iterator", data := .fields #[.ref l, .int 0 0] })
      (o := { cls := .type "enumerate", data := .fields #[.none, .bool false, .ref s.heap.objs.size, rawInt 0, .none, .none] }) rfl
    rw [hz] at this
    exact this
  refine ⟨⟨_, he, rfl⟩, h _ he ⟨_, Heap.get?_push_of_some _ (Heap.get?_push_size _ rfl), rfl, rfl⟩ (by rw [Heap.size_push, hz]) fun b o x => Heap.get?_push_of_some _ (Heap.get?_push_of_some _ x)⟩
end
def IteT (K : PySem.W.Frag) (a : Addr) : It :=
  ⟨fun i H => ∃ (xs : List V) (x : V), SqT K H a xs ∧ xs[i]? = some x, fun i H v H' => ∃ T x, v = .ref T ∧ H T = none ∧ H' = upd H T (.tup [.int (i : Nat), x]) ∧ ∀ xs, SqT K H a xs → xs[i]? = some x, fun i H => ∃ xs : List V, SqT K H a xs ∧ xs.length ≤ i⟩
theorem turn_enumT {P : Program} {w : World} {K : PySem.W.Frag} {elts : List Expr} {kk : Nat} {tpos : Pos} (a e it : Addr) :
    Turn P w K (.Tuple elts kk tpos) (IteT K a) [e, it] e (fun i h => (∃ old, IsEnum h e it ((i : Nat) : Int) old) ∧ h.IsTupleIter it a i ∧ e ≠ it) where
  mem := by simp
  obj := fun i h st b hb => by
    obtain ⟨⟨old, he⟩, ⟨o, ho, hc, hd⟩, _⟩ := st
    have e' : b = e ∨ b = it := by simpa using hb
    rcases e' with z | z
    · rw [z]; exact ⟨_, he, fun v q => nomatch q⟩
    · rw [z]; exact ⟨o, ho, fun v q => by rw [hd] at q; cases q⟩
  keep := fun i h h' st k => let ⟨⟨old, he⟩, hi, hne⟩ := st; ⟨⟨old, k e (by simp) _ he⟩, hi.at fun o q => k it (by simp) o q, hne⟩
  item := by
    intro X hP hw hK hc i pins s σ H E I hf st hg
    subst hP hw hK
    obtain ⟨⟨old, he⟩, hit, hne⟩ := st
    obtain ⟨xs, x, hq, hx⟩ := hg
    obtain ⟨its, rv, p, hz⟩ := I.tuple hq
    obtain ⟨u, hu, ru⟩ := rv.get hx
    have hel : e < s.heap.objs.size := Heap.lt_size he
    have hil : it < s.heap.objs.size := by obtain ⟨_, q, _⟩ := hit; exact Heap.lt_size q
    have hT0 : s.heap.IsTuple a its.toArray := p
    have nai : a ≠ it := fun z => by
      obtain ⟨o1, h1, c1, _⟩ := id hT0
      obtain ⟨o2, h2, c2, _⟩ := id hit
      rw [z, h2] at h1
      cases h1
      rw [c1] at c2
      simp at c2
    have nae : e ∉ [it, a] := fun z => by
      rcases List.mem_cons.mp z with z | z
      · exact hne z
      · have z : e = a := by simpa using z
        obtain ⟨o1, h1, c1, _⟩ := id hT0
        have he' : s.heap.get? e = _ := he
        rw [z, h1] at he'
        cases he'
        simp at c1
    have D := Draws.tuple (prog := X.prog) (w := X.w) (A := X.A.in1) (I.ok.hd hc) it a nai its.toArray
    have hi : i < its.toArray.size := by
      rw [List.size_toArray]
      exact (List.getElem?_eq_some_iff.mp hu).1
    refine wpAny_pyNext_enum_itemD D he ⟨hit, hT0⟩ hi hne nae fun x' h' tk hx' ho hst hT hsz hk => ?_
    have ex : x' = u := by
      have hu' : its.toArray[i]? = some u := by simpa using hu
      rw [hu'] at hx'
      exact (Option.some.inj hx').symm
    subst ex
    refine ⟨_, rfl, wpAny_letOwnedTupleGo_enum (s := { s with heap := h', toks := tk + 1 }) ho fun h'' he' sb => ?_⟩
    have hT2 : h''.get? s.heap.objs.size = some { cls := .type "tuple", data := .seq #[.int i tk, x'] } := (sb.2 _ (Nat.ne_of_gt hel)).trans hT
    have new : ObjOk X.prog X.w (upd H s.heap.objs.size (.tup [.int (i : Nat), x])) h'' s.heap.objs.size (.tup [.int (i : Nat), x]) :=
      ⟨by show 2 ≤ sizeLine; decide, [.int i tk, x'], .cons ⟨_, rfl⟩ (.cons ru .nil), ⟨_, hT2, rfl, _, rfl⟩⟩
    have I1 : Inv X pins σ (upd H s.heap.objs.size (.tup [.int (i : Nat), x])) { s with heap := h'', toks := tk + 1 } :=
      I.turnedNew (ch := [e, it]) (fun b ob hb q => (sb.2 b (fun z => hb (by simp [z]))).trans (hk b ob (fun z => hb (by simp [z])) (fun z => hb (by simp [z])) q)) hf (Nat.le_refl _) new
    refine ⟨.ref s.heap.objs.size, _, I1, rfl, ⟨_, x, rfl, I.hok.fresh (Nat.le_refl _), rfl, fun ys hy => by rw [I.tuple_inj hy hq]; exact hx⟩, ⟨⟨x', ?_⟩, hst.1.at fun o q => (sb.2 it (Ne.symm hne)).trans q, hne⟩, fun b hb => ?_⟩
    · have e1 : ((i + 1 : Nat) : Int) = (i : Int) + 1 := by omega
      rw [e1]; exact he'
    · have hb' : b < s.heap.objs.size := by
        have e' : b = e ∨ b = it := by simpa using hb
        rcases e' with z | z
        · rw [z]; exact hel
        · rw [z]; exact hil
      rw [upd_ne (Nat.ne_of_lt hb')]
      exact (hf b hb).1
  done := by
    intro X hP hw hK hc i pins s σ H E I hf st hg
    subst hP hw hK
    obtain ⟨⟨old, he⟩, hit, hne⟩ := st
    obtain ⟨xs, hq, hx⟩ := hg
    obtain ⟨its, rv, p, hz⟩ := I.tuple hq
    obtain ⟨f0, f1, f2, f3, f4, f5⟩ := hf it (by simp)
    have hl := rv.length
    have hT0 : s.heap.IsTuple a its.toArray := p
    have hT : s.TypeIs (.ref e) "enumerate" := ⟨_, he, rfl⟩
    unfold pyNext
    refine wpAny_bind (wpAny_attempt (wpAny_callSpecial?_slot (name := Str.ofString "__next__") hT F.slot_enumerate_next
      (wpAny_call_entry F.slot_enumerate_next hT F.entry_enumerate_next ?_ (F.args_enumerate_next_1 _))))
    show wpAny _ _ (field (.ref e) 2 >>= _) _ _ _
    refine wpAny_bind (wpAny_field he rfl (x := .ref it) rfl ?_)
    refine wpAny_bind (wpAny_nextOf_tuple_end (I.ok.hd hc) hit hT0 (by simp; omega) fun h' x he' hx' => ?_)
    obtain ⟨o, ho, hc⟩ := hx'
    refine wpAny_bind (wpAny_isInstance (T := "StopIteration") (b := true) ⟨o, ho, hc⟩ isSubtype_stop ?_)
    exact wpAny_pure ⟨rfl, I.turned (t' := s.toks) (fun b o hb q => he' b o hb q) f0 f1 f3 f4 f5⟩
  self := fun A i s Q E st h => let ⟨⟨_, he⟩, _⟩ := st; wpAny_pyIter_enum he h
def iEnumT (K : PySem.W.Frag) (ta : TA) : TI := fun σ H R => ta σ H fun vs H1 => ∃ a xs, vs = [.ref a] ∧ SqT K H1 a xs ∧ R (IteT K a) H1
theorem pi_enumT {X : Cx} {e : Expr} {ta : TA} {p pos tpos : Pos} {elts : List Expr} {kk : Nat} (hg : Gl X "enumerate") (hm : X.mg "enumerate" = none) (ha : PA X [e] ta) (hs : starEach [e] X.env = [(false, eval e X.env)] := by rfl) :
    PI X (.Tuple elts kk tpos) (.Call (.Name "enumerate" p) [e] [] pos) (iEnumT X.K ta) := by
  refine ⟨fun pins s σ H R I h => ?_⟩
  refine Call_ (ld_blt I hg hm boot_enumerate (PyProof.Rows.callWith_type1 (thn (ha.run pos pins s σ H _ I h) fun us s1 ⟨vs, H1, I1, r1, q1⟩ => ?_) hs rfl))
  obtain ⟨a, xs, ex, hq, q⟩ := q1
  subst ex
  cases r1 with
  | cons r rr =>
    cases rr
    cases r
    obtain ⟨its, rv, p', hz⟩ := I1.tuple hq
    refine call_enumerate_tuple (show s1.heap.IsTuple a its.toArray from p') fun h' he hit hsz hk => wpAny_pyIter_enum he ?_
    have I2 : Inv X pins σ H1 { s1 with heap := h' } := I1.kept (t' := s1.toks) hk
    refine ⟨s1.heap.objs.size + 1, [s1.heap.objs.size + 1, s1.heap.objs.size], _, _, H1, rfl, I2, turn_enumT a (s1.heap.objs.size + 1) s1.heap.objs.size, ⟨⟨.none, he⟩, hit, Nat.succ_ne_self _⟩, fun b hb => ?_, q⟩
    have e' : b = s1.heap.objs.size + 1 ∨ b = s1.heap.objs.size := by simpa using hb
    have hle : s1.heap.objs.size ≤ b := by
      rcases e' with z | z
      · rw [z]; exact Nat.le_add_right _ _
      · rw [z]; exact Nat.le_refl _
    exact I1.fpOk hle (I1.hok.fresh hle)
section
variable {X : Cx} {e : Expr} {t : DTA} {p pos : Pos}
theorem di_enumT {tpos : Pos} {elts : List Expr} {kk : Nat} (hg : Gl X "enumerate") (hm : X.mg "enumerate" = none) (ha : DA X [e] t) (hs : starEach [e] X.env = [(false, eval e X.env)] := by rfl) : DI X (.Tuple elts kk tpos) (.Call (.Name "enumerate" p) [e] [] pos) (dEnumT t) := by
  refine ⟨pi_of (pi_enumT hg hm ha.run hs) ?_⟩
  rintro σ H R ⟨Γ, Hf, Q0, A, h, k⟩
  refine ⟨Γ, Hf, _, A, h, fun ds Γ1 vs Hf1 H1 hq S r => ?_⟩
  match ds, r, hq with
  | [.tuple xs], .cons (.tup (a := a) (xs := us) h1 h2) .nil, hq =>
    refine ⟨a, us, rfl, same_t S.abs.sub h1, k _ Γ1 _ Hf1 H1 hq S ?_⟩
    refine ⟨fun i Hc H s1 s2 hi => ?_, fun i Hc H x H' s1 s2 hi ⟨T, y, e1, hT, e2, q⟩ => ?_, fun i Hc H s1 s2 hi => ?_⟩
    · rw [enumD_len, ← h2.len] at hi
      exact ⟨us, us[i], same_t s2 (same_t s1 h1), List.getElem?_eq_getElem hi⟩
    · subst e1 e2
      obtain ⟨d, g1, g2⟩ := h2.at (q us (same_t s2 (same_t s1 h1)))
      have z := ext_tup (K := X.K) s2 hT (.cons (.int (i : Int)) (.cons (g2.mono s1) .nil))
      exact ⟨_, _, enumD_at g1, z.1, z.2⟩
    · rw [enumD_len, ← h2.len] at hi
      exact ⟨us, same_t s2 (same_t s1 h1), hi⟩
end
end Dl
/-! Defs that hand back a new list. -/
namespace Dl
open PySem PySem.Spec PyProof.Rows L2 TL Bl
abbrev GNL := List PyData → (List PyData → Prop) → Prop
abbrev GNLS := List Int → List PyData → (List PyData → Prop) → Prop
structure NewL (K : PySem.W.Frag) (Hf H Hf' H' : Hp) (p : Addr) (us : List V) (zs : List PyData) : Prop where
  ext : Ext Hf H Hf' H'
  new : H p = none
  at_ : H' p = some (.lst us)
  nf : Hf' p = none
  rp : RpAll K Hf' us zs
def spN (n : Nat) (t : GNL) (K : PySem.W.Frag) : Sp := fun vs H Q _ => vs.length = n ∧ ∃ Hf ds Q0, Same Hf H ∧ RpAll K Hf vs ds ∧ t ds Q0 ∧ ∀ zs p us Hf' H', Q0 zs → NewL K Hf H Hf' H' p us zs → Q (.ref p) H'
def spNS (n : Nat) (t : GNLS) (K : PySem.W.Frag) : Sp := fun vs H Q _ => vs.length = n ∧ ∃ a ws Hf ns ds Q0, vs = .ref a :: ws ∧ Same Hf H ∧ SqL K Hf a (ns.map V.int) ∧ RpAll K Hf ws ds ∧ t ns ds Q0 ∧ ∀ zs p us Hf' H', Q0 zs → NewL K Hf H Hf' H' p us zs → Q (.ref p) H'
abbrev DTN := (List PyData → DE0 → Prop) → DE0 → Prop
def rdN (K : PySem.W.Frag) (t : DTN) : TS := fun D σ H => ∃ Γ Hf Q0, Abs K Γ σ Hf H ∧ t Q0 Γ ∧ ∀ ds Γ' σ' p vs Hf' H', Q0 ds Γ' → Stp K Γ σ Hf H Γ' σ' Hf' H' → H p = none → H' p = some (.lst vs) → Hf' p = none → ¬ Own Γ' σ' p → RpAll K Hf' vs ds → D.rt (.ref p) H'
structure DSn (X : Cx) (st : List Stmt) (t : DTN) : Prop where
  run : PSs X st (rdN X.K t)
section
variable {X : Cx} {e : Expr} {t : DTA} {st : Stmt} {rest : List Stmt} {t1 : DTS} {t2 : DTN} {pos : Pos}
def dRetN (t : DTA) : DTN := fun Q Γ => t Γ Q
theorem dsn_ret (he : DL X e t) : DSn X [.Return (some e) pos] (dRetN t) := by
  refine ⟨pss_of (pss_one (ps_ret he.run)) ?_⟩
  rintro D σ H ⟨Γ, Hf, Q0, A, h, k⟩
  exact ⟨Γ, Hf, Q0, A, h, fun ds Γ1 p vs Hf1 H1 hq S h1 h2 h3 h4 r => k ds Γ1 σ p vs Hf1 H1 hq S h1 h2 h3 h4 r⟩
def dSeqN (t : DTS) (u : DTN) : DTN := fun Q Γ => t { nx := fun Γ1 => u Q Γ1, rt := fun _ _ => False } Γ
theorem dsn_cons (h1 : DS X st t1) (h2 : DSn X rest t2) : DSn X (st :: rest) (dSeqN t1 t2) := by
  refine ⟨pss_of (pss_cons h1.run h2.run) ?_⟩
  rintro D σ H ⟨Γ, Hf, Q0, A, h, k⟩
  refine ⟨Γ, Hf, _, A, h, fun Γ1 σ1 Hf1 H1 hq S1 => ?_, fun _ _ _ _ _ _ q => False.elim q, fun _ _ _ _ q => False.elim q, fun _ _ _ _ q => False.elim q⟩
  exact ⟨Γ1, Hf1, Q0, S1.abs, hq, fun ds Γ2 σ2 p vs Hf2 H2 h2 S2 g1 g2 g3 g4 r => k ds Γ2 σ2 p vs Hf2 H2 h2 (S1.trans S2) (S1.there p g1) g2 g3 g4 r⟩
end
section
variable {P : Program} {w : World} {K : PySem.W.Frag} {mg : Str → Option Value} {base : Heap} {x qual : Str} {st : Stmt} {f : Addr} {fd : FuncData} {N ps : List Str} {k : Nat} {t : GNL} {ts : GNLS} {tb : DTN}
theorem sem_N {N : List Str} {n : Nat} (hn : n ≤ N.length) (sem : ∀ ds Q0, ds.length = n → t ds Q0 → tb (fun zs _ => Q0 zs) (startD N.length (ds.map Cell.d))) {vs : List V} {H : Hp} {Q : VK} {E : XK} (h : spN n t K vs H Q E) :
    rdN K tb { nx := fun _ H' => Q .non H', rt := Q } (L2.start N vs) H := by
  obtain ⟨hl, Hf, ds, Q0, s, r, ht, k⟩ := h
  have A := abs_start (N := N) s r (by omega)
  refine ⟨_, Hf, _, A, sem ds Q0 (by rw [← r.len]; exact hl) ht, fun zs Γ' σ' p us Hf' H' q S h1 h2 h3 h4 rz => k zs p us Hf' H' q ⟨⟨fun b o q => S.fr b o q no_own, S.same, S.abs.sub, fun b q => ?_⟩, h1, h2, h3, rz⟩⟩
  rcases S.fz b q with z | z | z
  · exact .inl z
  · exact absurd z no_own
  · exact .inr z
theorem sem_NS {N : List Str} {n : Nat} (hn : n ≤ N.length) (sem : ∀ ns ds Q0, ds.length + 1 = n → ts ns ds Q0 → tb (fun zs _ => Q0 zs) (startD N.length (.scr ns :: ds.map Cell.d))) {vs : List V} {H : Hp} {Q : VK} {E : XK} (h : spNS n ts K vs H Q E) :
    rdN K tb { nx := fun _ H' => Q .non H', rt := Q } (L2.start N vs) H := by
  obtain ⟨hl, a, ws, Hf, ns, ds, Q0, rfl, s, hs, r, ht, k⟩ := h
  rw [List.length_cons] at hl
  have A := abs_startS (N := N) s hs r (by omega)
  refine ⟨_, Hf, _, A, sem ns ds Q0 (by rw [← r.len]; exact hl) ht, fun zs Γ' σ' p us Hf' H' q S h1 h2 h3 h4 rz => k zs p us Hf' H' q ⟨⟨fun b o q => S.fr b o q no_ownS, S.same, S.abs.sub, fun b q => ?_⟩, h1, h2, h3, rz⟩⟩
  rcases S.fz b q with z | z | z
  · exact .inl z
  · exact absurd z no_ownS
  · exact .inr z
theorem ok_N (F : Fun K x qual st f fd) (S : FnScope N ps (defScope st)) (hn : ps.length ≤ N.length)
    (body : ∀ (cdv : Value) (A : Around) (outer : List PySem.Env) (s : Shared) (H : Hp) (E : XK), Room k (A.deeper (envOfC qual (defScope st) s.heap.objs.size f cdv)) → DSn (cxOf CX0 P w K mg base N qual (defScope st) f cdv A outer s H E).nox (defBody st) tb)
    (sem : ∀ ds Q0, ds.length = ps.length → t ds Q0 → tb (fun zs _ => Q0 zs) (startD N.length (ds.map Cell.d))) : FnOk P w K mg base CX0 (k + 1) f fd ps (spN ps.length t K) :=
  F.ok S (fun vs H Q E h => h.1) fun cdv A outer s H vs Q E hr h => ⟨_, (body cdv A outer s H E hr).run, sem_N hn sem h⟩
theorem ok_NS (F : Fun K x qual st f fd) (S : FnScope N ps (defScope st)) (hn : ps.length ≤ N.length)
    (body : ∀ (cdv : Value) (A : Around) (outer : List PySem.Env) (s : Shared) (H : Hp) (E : XK), Room k (A.deeper (envOfC qual (defScope st) s.heap.objs.size f cdv)) → DSn (cxOf CX0 P w K mg base N qual (defScope st) f cdv A outer s H E).nox (defBody st) tb)
    (sem : ∀ ns ds Q0, ds.length + 1 = ps.length → ts ns ds Q0 → tb (fun zs _ => Q0 zs) (startD N.length (.scr ns :: ds.map Cell.d))) : FnOk P w K mg base CX0 (k + 1) f fd ps (spNS ps.length ts K) :=
  F.ok S (fun vs H Q E h => h.1) fun cdv A outer s H vs Q E hr h => ⟨_, (body cdv A outer s H E hr).run, sem_NS hn sem h⟩
end
section
variable (P : Program) (w : World) (K : PySem.W.Frag) (mg : Str → Option Value) (base : Heap)
structure FN (x : Str) (k n : Nat) (t : GNL) : Prop where
  ex : ∃ f fd ps, FnOk P w K mg base CX0 k f fd ps (spN n t K) ∧ mg x = some (.ref f) ∧ PySem.W.keepIn K (.ref f) = true ∧ Binds K fd ps []
structure FNS (x : Str) (k n : Nat) (t : GNLS) : Prop where
  ex : ∃ f fd ps, FnOk P w K mg base CX0 k f fd ps (spNS n t K) ∧ mg x = some (.ref f) ∧ PySem.W.keepIn K (.ref f) = true ∧ Binds K fd ps []
end
section
variable {X : Cx} {e : Expr} {es : List Expr} {pos p : Pos} {x : Str} {k n : Nat} {t : DTA} {tl : GNL} {ts : GNLS}
theorem NewL.stp {K : PySem.W.Frag} {Γ : DE0} {σ : L2.St} {Hf H Hf' H' : Hp} {q : Addr} {us : List V} {zs : List PyData} (N : NewL K Hf H Hf' H' q us zs) (A : Abs K Γ σ Hf H) : Stp K Γ σ Hf H Γ σ Hf' H' ∧ ¬ Own Γ σ q :=
  ⟨A.stp N.ext, fun z => by
    obtain ⟨_, vs, h⟩ := A.noOwn z
    rw [N.new] at h
    cases h⟩
def dFnN (n : Nat) (tl : GNL) (t : DTA) : DTA := fun Γ Q => t Γ fun ds Γ1 => ds.length = n ∧ tl ds fun zs => Q zs Γ1
theorem dl_fnN (F : FN X.prog X.w X.K X.mg X.base x k n tl) (hr : Room k X.A) (hg : Gl X x) (hx : ∀ E, Passes CX0 X E) (ha : DA X (e :: es) t) (hdb : (x == ("__debug__" : Str)) = false := by decide)
    (he : starEach (e :: es) X.env = (false, eval e X.env) :: starEach es X.env := by rfl) (hpl : (backTo pos (starEach es X.env)).any (·.1) = false := by rfl) : DL X (.Call (.Name x p) (e :: es) [] pos) (dFnN n tl t) := by
  obtain ⟨f, fd, ps, O, m, kp, b⟩ := F.ex
  refine ⟨pe_of (pe_call O hr hg m kp b .nil (hx E0) ha.run hdb he hpl) ?_⟩
  rintro σ H Q ⟨Γ, Hf, Q0, A, h, k⟩
  refine ⟨Γ, Hf, _, A, h, fun ds Γ1 vs Hf1 H1 hq S r => ?_⟩
  show spN n tl X.K (vs ++ []) H1 Q E0
  rw [List.append_nil]
  refine ⟨by rw [r.len]; exact hq.1, Hf1, ds, _, S.abs.sub, r, hq.2, fun zs q us Hf2 H2 hz N => ?_⟩
  obtain ⟨S2, no⟩ := N.stp S.abs
  exact k zs Γ1 q us Hf2 H2 hz (S.trans S2) (S.there q N.new) N.at_ N.nf no N.rp
def dFnNS (i n : Nat) (ts : GNLS) (t : DTA) : DTA := fun Γ Q => isScr Γ i = true ∧ t Γ fun ds Γ1 => ds.length + 1 = n ∧ scr' Γ1 i fun ns => ts ns ds fun zs => Q zs Γ1
theorem dl_fnNS (i : Nat) {y : Str} {np : Pos} (F : FNS X.prog X.w X.K X.mg X.base x k n ts) (hr : Room k X.A) (hg : Gl X x) (hx : ∀ E, Passes CX0 X E) (ha : DA X es t)
    (hN : X.N[i]? = some y := by rfl) (hv : Vis X.env.scope y := by first | exact Or.inl rfl | exact Or.inr (Or.inl rfl) | exact Or.inr (Or.inr rfl)) (hd : (y == ("__debug__" : Str)) = false := by decide) (hcd : (y == ("__classdict__" : Str)) = false := by decide) (hdb : (x == ("__debug__" : Str)) = false := by decide)
    (he : starEach (.Name y np :: es) X.env = (false, eval (.Name y np) X.env) :: starEach es X.env := by rfl) (hpl : (backTo pos (starEach es X.env)).any (·.1) = false := by rfl) : DL X (.Call (.Name x p) (.Name y np :: es) [] pos) (dFnNS i n ts t) := by
  obtain ⟨f, fd, ps, O, m, kp, b⟩ := F.ex
  refine ⟨pe_of (pe_call O hr hg m kp b .nil (hx E0) (pa_cons (pe_var hN hv hd hcd) ha.run he) hdb he hpl) ?_⟩
  rintro σ H Q ⟨Γ, Hf, Q0, A, ⟨ho, h⟩, k⟩
  obtain ⟨ns0, e0⟩ := isScr_eq ho
  obtain ⟨a, eq, hsq⟩ := A.scrAt e0
  refine ⟨.ref a, eq, Γ, Hf, _, A, h, fun ds Γ1 vs Hf1 H1 hk S r => ?_⟩
  obtain ⟨ns, e1, hk2⟩ := scr'_eq hk.2
  obtain ⟨a1, eq1, hs1⟩ := S.abs.scrAt e1
  rw [eq] at eq1
  cases eq1
  show spNS n ts X.K (.ref a :: vs ++ []) H1 Q E0
  rw [List.append_nil]
  refine ⟨by rw [List.length_cons, r.len]; exact hk.1, a, vs, Hf1, ns, ds, _, rfl, S.abs.sub, hs1, r, hk2, fun zs q us Hf2 H2 hz N => ?_⟩
  obtain ⟨S2, no⟩ := N.stp S.abs
  exact k zs Γ1 q us Hf2 H2 hz (S.trans S2) (S.there q N.new) N.at_ N.nf no N.rp
end
end Dl
namespace Dl
open PySem PySem.Spec PyProof.Rows L2 TL Bl
theorem if_y {c : Prop} {i : Decidable c} {A B : Prop} (h : c) (a : A) : @ite Prop c i A B := by rw [if_pos h]; exact a
theorem if_n {c : Prop} {i : Decidable c} {A B : Prop} (h : ¬ c) (b : B) : @ite Prop c i A B := by rw [if_neg h]; exact b
section
variable {X : Cx}
/-! ### list(text) -/
def gListS : GN := fun ds Q => match ds with
  | [.str z] => z.length ≤ sizeLine ∧ Q (.list (z.cps.toList.map fun c => .str ⟨#[c]⟩))
  | _ => False
theorem vals_of_get : ∀ (zs : List Nat) (vs : List Value), vs.length = zs.length → (∀ (j : Nat) (v : Value), vs[j]? = some v → ∃ (c : Nat) (u : Nat), zs[j]? = some c ∧ v = Value.str ⟨#[c]⟩ u) → Vals (zs.map fun c => V.str ⟨#[c]⟩) vs
  | [], [], _, _ => .nil
  | [], _ :: _, h, _ => by cases h
  | _ :: _, [], h, _ => by cases h
  | z :: zs, v :: vs, h, k => by
    obtain ⟨c, u, h1, rfl⟩ := k 0 v rfl
    cases h1
    exact .cons ⟨u, rfl⟩ (vals_of_get zs vs (by simpa using h) fun j v h => k (j + 1) v h)
theorem cr_listSD (hc : X.calm = true) : CallR X (.type "list") (rdC X.K gListS) := by
  intro pins s σ H vs us Q I r ⟨Hf, ds, Q0, sub, rr, h, k⟩
  match ds, rr, h with
  | [.str z], .cons (.str _) .nil, h =>
    obtain ⟨u, rfl, t, rfl⟩ := vals1 r
    refine call_list_str (hn := h.1) (I.ok.hd hc) z t fun h' tk acc' c' kp hS hi => ?_
    have hp := I.hok.fresh (Nat.le_refl _)
    have hv : Vals (z.cps.toList.map fun c => V.str ⟨#[c]⟩) acc'.toList := vals_of_get _ _ (by simp [hi.1]) fun j v hj => by
      obtain ⟨c, u, h1, h2⟩ := hi.2 j v (by simpa using hj)
      exact ⟨c, u, by simpa using h1, h2⟩
    refine ⟨.ref s.heap.objs.size, upd H s.heap.objs.size (.lst (z.cps.toList.map fun c => V.str ⟨#[c]⟩)), I.laid kp (Nat.le_refl _) ⟨?_, acc'.toList, c', hv, by simpa using hS⟩, rfl, ?_⟩
    · rw [List.length_map, Array.length_toList]
      exact h.1
    · refine k _ _ _ _ h.2 (Ext.new sub hp) (.lst upd_same ?_)
      have : ∀ zs : List Nat, RpAll X.K (upd Hf s.heap.objs.size (.lst (z.cps.toList.map fun c => V.str ⟨#[c]⟩))) (zs.map fun c => V.str ⟨#[c]⟩) (zs.map fun c => PyData.str ⟨#[c]⟩) := by
        intro zs
        induction zs with
        | nil => exact .nil
        | cons c r ih => exact .cons (.str _) ih
      exact this _
/-! ### a, b, c = e, f, g: the second and third are data -/
theorem ds_par3 {i j l : Nat} {x y z : Str} {a b c : Expr} {ta : DTK} {tb tc : DTE} {px py pz pt pos : Pos} {kt k2 pt2} (hc : X.calm = true) (hN : X.N.Nodup) (hi : X.N[i]? = some x) (hj : X.N[j]? = some y) (hl : X.N[l]? = some z) (hij : i ≠ j) (hil : i ≠ l) (hjl : j ≠ l)
    (hx : X.env.scope.names.lookup x = some .local) (hy : X.env.scope.names.lookup y = some .local) (hz : X.env.scope.names.lookup z = some .local) (ha : DK X a ta) (hb : DK X b (dkE tb)) (hcc : DK X c (dkE tc))
    (hw : swappedStores [.Tuple [.Name x px, .Name y py, .Name z pz] kt pt] (.Tuple [a, b, c] k2 pt2) X.env = pure (some [x, y, z]))
    (hs : swapsWithSole [.Tuple [.Name x px, .Name y py, .Name z pz] kt pt] (.Tuple [a, b, c] k2 pt2) pos.line X.env = pure false := by rfl)
    (hsa : starEach [a, b, c] X.env = (false, eval a X.env) :: starEach [b, c] X.env := by rfl) (hsb : starEach [b, c] X.env = (false, eval b X.env) :: starEach [c] X.env := by rfl) (hsc : starEach [c] X.env = (false, eval c X.env) :: starEach [] X.env := by rfl) :
    DS X (.Assign [.Tuple [.Name x px, .Name y py, .Name z pz] kt pt] (.Tuple [a, b, c] k2 pt2) pos) (dPar3 i j l ta (dkE tb) (dkE tc)) := by
  constructor
  refine ps_of (ps_par3 hc hN hi hj hl hij hil hjl hx hy hz (pa_cons ha.run (pa_cons hb.run (pa_cons hcc.run pa_nil hsc) hsb) hsa) hw hs) ?_
  rintro D σ H ⟨Γ, Hf, D0, A, h, kn, kr, kb, kc⟩
  refine ⟨Γ, Hf, _, A, h, fun c1 Γ1 v Hf1 H1 hq S1 r1 => ?_⟩
  refine ⟨Γ1, Hf1, fun c Γ2 => match c with
    | .d d => dkE tc Γ2 fun c3 Γ3 => match c3 with
      | .d d3 => D0.nx (((Γ3.set i (some c1)).set j (some (.d d))).set l (some (.d d3)))
      | _ => False
    | _ => False, S1.abs, hq, fun c2 Γ2 w Hf2 H2 hq2 S2 r2 => ?_⟩
  match c2, hq2, r2 with
  | .d d2, hq2, r2 =>
  refine ⟨Γ2, Hf2, _, S2.abs, hq2, fun c3 Γ3 u Hf3 H3 hq3 S3 r3 => ?_⟩
  match c3, hq3, r3 with
  | .d d3, hq3, r3 =>
  refine ⟨v, w, u, rfl, kn _ _ Hf3 H3 hq3 ?_⟩
  have q1 : CNew X.K σ H Γ3 Hf3 H3 v c1 := r1.later (S2.trans S3)
  have T := ((S1.trans S2).trans S3).put q1 i
  have q2 : CNew X.K (σ.set i (some v)) H (Γ3.set i (some c1)) Hf3 H3 w (.d d2) := .d (by cases r2 with | mk a _ => exact Rp.mono S3.same a)
  have T2 := T.put q2 j
  have q3 : CNew X.K ((σ.set i (some v)).set j (some w)) H ((Γ3.set i (some c1)).set j (some (.d d2))) Hf3 H3 u (.d d3) := .d r3.at_
  exact T2.put q3 l
end
/-! ### data without dicts, laid out, not deep -/
def Nice (k : Nat) (d : PyData) : Prop := noDic d = true ∧ d.canLay0 = true ∧ d.depth ≤ k
theorem Nice.mono {k l : Nat} {d : PyData} (h : Nice k d) (hl : k ≤ l) : Nice l d := ⟨h.1, h.2.1, Nat.le_trans h.2.2 hl⟩
theorem Nice.sh {k : Nat} {d : PyData} (h : Nice k d) (hk : k ≤ 64) : SeqAt.shaped d = true := by
  unfold SeqAt.shaped
  rw [h.2.1, decide_eq_true (Nat.le_trans h.2.2 hk)]
  rfl
theorem Nice.refl {k : Nat} {d : PyData} (h : Nice k d) : PyData.eqv d d = true := SeqAt.eqv_refl d h.2.1
theorem nices {k : Nat} : ∀ {ds : List PyData}, (∀ d ∈ ds, Nice k d) → noDics ds = true ∧ PyData.canLayAll0 ds = true ∧ PyData.depthAll ds ≤ k
  | [], _ => ⟨rfl, rfl, Nat.zero_le _⟩
  | d :: ds, h => by
    obtain ⟨a1, a2, a3⟩ := nices fun e he => h e (List.mem_cons_of_mem _ he)
    obtain ⟨b1, b2, b3⟩ := h d List.mem_cons_self
    refine ⟨?_, ?_, ?_⟩
    · show (noDic d && noDics ds) = true
      rw [a1, b1]
      rfl
    · show (d.canLay0 && PyData.canLayAll0 ds) = true
      rw [a2, b2]
      rfl
    · show max d.depth (PyData.depthAll ds) ≤ k
      omega
theorem nice_list {k : Nat} {ds : List PyData} (h : ∀ d ∈ ds, Nice k d) : Nice (k + 1) (.list ds) := by
  obtain ⟨a1, a2, a3⟩ := nices h
  exact ⟨a1, a2, by show PyData.depthAll ds + 1 ≤ k + 1; omega⟩
theorem nice_tup {k : Nat} {ds : List PyData} (h : ∀ d ∈ ds, Nice k d) : Nice (k + 1) (.tuple ds) := by
  obtain ⟨a1, a2, a3⟩ := nices h
  exact ⟨a1, a2, by show PyData.depthAll ds + 1 ≤ k + 1; omega⟩
theorem nice_row {b : Nat} {ws : List Str} (h : WdsOk b ws) : Nice 1 (rowT ws) := by
  have z := rowT_okP h
  exact ⟨noDic_row ws, (showP _ z.1).2.2, z.2.2⟩
theorem nice_none : Nice 0 .none := ⟨rfl, rfl, Nat.le_refl _⟩
theorem nice_int (i : Int) : Nice 0 (.int i) := ⟨rfl, rfl, Nat.le_refl _⟩
theorem nice_bool (i : Bool) : Nice 0 (.bool i) := ⟨rfl, rfl, Nat.le_refl _⟩
theorem nice_str {b : Nat} {x : Str} (h : Lets x ∧ x.length ≤ b) : Nice 0 (.str x) := by
  have z := nice_row (b := b) (ws := [x]) (by intro y hy; rw [List.mem_singleton] at hy; subst hy; exact h)
  obtain ⟨z1, z2, z3⟩ := z
  refine ⟨rfl, ?_, Nat.le_refl _⟩
  have : ((PyData.str x).canLay0 && true) = true := z2
  simpa using this
end Dl
/-! sorted(set(xs)), xs a list or a tuple of texts or of ints -/
namespace Sg
open PySem PySem.Spec PyProof.Rows L2
section
variable {P : Program} {w : World} {A : Around} {E : Value → Shared → Prop} {s : Shared} {a : Addr} {m : Nat}
theorem rest_le {n : Nat} (h : n < scanBound) : n ≤ sizeLine := fits_of_scanBound h
/-- what the sort of the members leaves -/
theorem sortSet {κ : Type} [DecidableEq κ] {M : Mem P w κ} {S : κ → Bool} {Q : Value → Shared → Prop} {Ord : List κ → Prop} (R : SetM M s.heap a S m) (calm : A.handled = none)
    (run : ∀ (s1 : Shared) (l : Addr) (vs : List Value) (xs : List κ) (Q1 : PySem.Fin → Shared → Prop), s1.heap.get? l = some (seqObj "list" vs.toArray 0) → AreM M vs xs → vs.length ≤ sizeLine →
      (∀ (out : Array Value) (ys : List κ), AreM M out.toList ys → ys.Perm xs → Ord ys → Q1 (.done (.ret .none)) { s1 with heap := sortedHeap s1.heap l vs out }) →
      wpAny (model P w) A.in1.in1 (Builtin.«list.sort» ⟨[.ref l], []⟩) Q1 E s1)
    (fin : ∀ s' p (out : Array Value) (c : Nat) (ys : List κ), (∀ b o, s.heap.get? b = some o → s'.heap.get? b = some o) → s'.gens = s.gens → s'.os = s.os → s.heap.objs.size ≤ p →
      s'.heap.get? p = some (seqObj "list" out c) → AreM M out.toList ys → Ord ys → ys.Nodup → (∀ x, x ∈ ys ↔ S x = true) → ys.length = m → Q (.ref p) s') :
    wpAny (model P w) A (call (.builtin "sorted") [.ref a]) Q E s := by
  obtain ⟨o, rs, ep, tb, oH, oX, oD, k1, k2, k3, k4, k5, k6, k7, k8⟩ := R
  refine Calls.call_function_entry kind_sorted plain_sorted entry_sorted (args_sorted1 _) ?_
  unfold Builtin.«sorted»
  refine wpAny_bind (m := checkCount "sorted" 1 1 _) (wpAny_pure ?_)
  refine wpAny_bind (collect_set (A := A.in1) calm ⟨o, oH, oX.1, oD⟩ k5 k4 k7 k8 fun s1 vs j1 j2 j3 j4 pm => ?_)
  have vl : vs.length = m := by rw [pm.length_eq, List.length_map, Array.length_toList]; exact k6
  have small : vs.length ≤ sizeLine := rest_le (by rw [vl, ← k6]; exact k4)
  have are : AreM M vs (vs.map M.of) := by
    have all : ∀ v ∈ vs, ∃ x t, v = M.vl x t := fun v hv => by
      obtain ⟨e, he, q⟩ := List.mem_map.mp (pm.mem_iff.mp hv)
      obtain ⟨x, t, z, _⟩ := k1 e he
      exact ⟨x, t, by rw [← q]; exact z⟩
    clear pm vl small
    induction vs with
    | nil => exact .nil
    | cons v vs ih =>
      obtain ⟨x, t, rfl⟩ := all v List.mem_cons_self
      rw [List.map_cons, M.of_vl]
      exact .cons x t (ih fun u hu => all u (List.mem_cons_of_mem _ hu))
  have pk : (vs.map M.of).Perm (rs.toList.map (keyM M)) := by
    have z := pm.map M.of
    rw [List.map_map] at z
    exact z
  refine wpAny_bind (wpAny_newList ?_ small)
  have nL : (s1.heap.push (seqObj "list" vs.toArray 0)).get? s1.heap.objs.size = some (seqObj "list" vs.toArray 0) := Heap.get?_push_size _ rfl
  refine wpAny_bind (wpAny_holding (wpAny_call_entry slot_list_sort ⟨_, nL, rfl⟩ entry_list_sort (run _ _ vs _ _ nL are small fun out ys b1 b2 b3 => ⟨_, rfl, ?_⟩) (args_list_sort _)))
  obtain ⟨c, hc⟩ := sortedHeap_at (vs := vs) (out := out) nL
  have pn : ys.Perm (rs.toList.map (keyM M)) := b2.trans pk
  refine wpAny_pure ⟨_, rfl, fin _ s1.heap.objs.size out c ys (fun b u e => ?_) j3 j4 j2 hc b1 b3 (pn.nodup_iff.mpr k2) (fun x => by rw [pn.mem_iff, ← k3 x]) ?_⟩
  · have q := j1 b u e
    have lt := Heap.lt_size q
    show (sortedHeap (s1.heap.push (seqObj "list" vs.toArray 0)) s1.heap.objs.size vs out).get? b = some u
    rw [sortedHeap_old (Nat.ne_of_lt lt) (by rw [size_push']; exact Nat.lt_succ_of_lt lt)]
    exact Heap.get?_push_of_some _ q
  · rw [pn.length_eq, List.length_map, Array.length_toList]
    exact k6
theorem strsAre_M : ∀ {vs : List Value} {xs : List Str}, AreM (memS P w) vs xs → StrsAre vs xs
  | _, _, .nil => .nil
  | _, _, .cons x t q => .cons x t (strsAre_M q)
theorem intsAre_M : ∀ {vs : List Value} {xs : List Int}, AreM (memI P w) vs xs → IntsAre vs xs
  | _, _, .nil => .nil
  | _, _, .cons x t q => .cons x t (intsAre_M q)
theorem runS (s1 : Shared) (l : Addr) (vs : List Value) (xs : List Str) (Q1 : PySem.Fin → Shared → Prop) (h : s1.heap.get? l = some (seqObj "list" vs.toArray 0)) (r : AreM (memS P w) vs xs) (small : vs.length ≤ sizeLine)
    (k : ∀ (out : Array Value) (ys : List Str), AreM (memS P w) out.toList ys → ys.Perm xs → sortedS ys = true → Q1 (.done (.ret .none)) { s1 with heap := sortedHeap s1.heap l vs out }) :
    wpAny (model P w) A (Builtin.«list.sort» ⟨[.ref l], []⟩) Q1 E s1 := by
  have r2 := strsAre_M r
  refine list_sort_treeKAny strKind_oneLt h r2.keysOf (fun v₁ v₂ rest e => keyKind_strs (by rw [← e]; exact r2)) small fun st hp hs => ?_
  obtain ⟨ys, g1, g2, g3⟩ := sorted_out_str r2 hp hs
  exact k _ ys (areM_strs g1) g2 g3
theorem runI (s1 : Shared) (l : Addr) (vs : List Value) (xs : List Int) (Q1 : PySem.Fin → Shared → Prop) (h : s1.heap.get? l = some (seqObj "list" vs.toArray 0)) (r : AreM (memI P w) vs xs) (small : vs.length ≤ sizeLine)
    (k : ∀ (out : Array Value) (ys : List Int), AreM (memI P w) out.toList ys → ys.Perm xs → ys.Pairwise (· ≤ ·) → Q1 (.done (.ret .none)) { s1 with heap := sortedHeap s1.heap l vs out }) :
    wpAny (model P w) A (Builtin.«list.sort» ⟨[.ref l], []⟩) Q1 E s1 :=
  list_sort_treeAny h (intsAre_M r) small fun out ys g1 g2 g3 => k out ys (areM_ints g1) g2 g3
end
end Sg
namespace Dl
open PySem PySem.Spec PyProof.Rows L2 TL Bl
/-- what sorted(set(xs)) gives -/
def SortedSet (d : PyData) (Q : PyData → Prop) : Prop :=
  (∃ ws : List Str, (d = .list (ws.map .str) ∨ d = .tuple (ws.map .str)) ∧ ws.length + 1 < scanBound ∧ ∀ vs : List Str, vs.Nodup → sortedS vs = true → (∀ x, x ∈ vs ↔ x ∈ ws) → Q (.list (vs.map .str))) ∨
  (∃ ws : List Int, (d = .list (ws.map .int) ∨ d = .tuple (ws.map .int)) ∧ ws.length + 1 < scanBound ∧ ∀ vs : List Int, vs.Pairwise (· < ·) → (∀ x, x ∈ vs ↔ x ∈ ws) → Q (.list (vs.map .int)))
def dSortS (te : DTE) : DTE := fun Γ Q => te Γ fun d Γ1 => SortedSet d fun x => Q x Γ1
section
variable {X : Cx}
theorem vals_memS {P : Program} {w : World} {xs : List Str} {us : List Value} (r : Vals (xs.map V.str) us) : Sg.AreM (Sg.memS P w) us xs := by
  induction xs generalizing us with
  | nil => cases r; exact .nil
  | cons x xs ih =>
    cases r with
    | cons h q =>
      obtain ⟨t, rfl⟩ := h
      exact .cons (M := Sg.memS P w) x t (ih q)
theorem vals_memI {P : Program} {w : World} {xs : List Int} {us : List Value} (r : Vals (xs.map V.int) us) : Sg.AreM (Sg.memI P w) us xs := by
  induction xs generalizing us with
  | nil => cases r; exact .nil
  | cons x xs ih =>
    cases r with
    | cons h q =>
      obtain ⟨t, rfl⟩ := h
      exact .cons (M := Sg.memI P w) x t (ih q)
/-- the same at values -/
def rSS (K : PySem.W.Frag) (x : V) (H : Hp) (Q : VK) : Prop := ∃ l, x = .ref l ∧
  ((∃ xs : List Str, (SqL K H l (xs.map V.str) ∨ SqT K H l (xs.map V.str)) ∧ xs.length + 1 < scanBound ∧ ∀ (p : Addr) (ys : List Str), H p = none → ys.Nodup → sortedS ys = true → (∀ y, y ∈ ys ↔ y ∈ xs) → Q (.ref p) (upd H p (.lst (ys.map V.str)))) ∨
   (∃ xs : List Int, (SqL K H l (xs.map V.int) ∨ SqT K H l (xs.map V.int)) ∧ xs.length + 1 < scanBound ∧ ∀ (p : Addr) (ys : List Int), H p = none → ys.Pairwise (· < ·) → (∀ y, y ∈ ys ↔ y ∈ xs) → Q (.ref p) (upd H p (.lst (ys.map V.int)))))
def tSS (K : PySem.W.Frag) (ta : TE) : TE := fun σ H Q => ta σ H fun x H1 => rSS K x H1 Q
theorem pe_sortSet {a : Expr} {ta : TE} {p p2 q pos : Pos} (hc : X.calm = true) (hg : Gl X "sorted") (hm : X.mg "sorted" = none) (hg2 : Gl X "set") (hm2 : X.mg "set" = none) (ha : PE X a ta)
    (na : starEach [a] X.env = (false, eval a X.env) :: starEach [] X.env := by rfl) : PE X (.Call (.Name "sorted" p) [.Call (.Name "set" p2) [a] [] q] [] pos) (tSS X.K ta) := by
  refine ⟨fun pins s σ H Q I h => ?_⟩
  refine Call_ (ld_blt I hg hm boot_sorted ?_)
  refine PyProof.Rows.callWith_builtin1 (PyProof.Rows.args_cons ?_ rfl) rfl rfl
  refine Call_ (ld_blt I hg2 hm2 PyProof.Rows.boot_set ?_)
  refine PyProof.Rows.callWith_type1 (PyProof.Rows.args_cons (thn (ha.run pins s σ H _ I h) fun v s1 ⟨x, H1, I1, r1, q1⟩ => PyProof.Rows.args_nil ?_) na) na rfl
  obtain ⟨l, rfl, q1⟩ := q1
  cases r1
  have calm := I1.ok.hd hc
  rcases q1 with ⟨xs, hq, few, q1⟩ | ⟨xs, hq, few, q1⟩
  · have fin : ∀ (h' : Heap) (tk c : Nat), Sg.SetM (Sg.memS X.prog X.w) h' s1.heap.objs.size (fun y => decide (y ∈ xs)) c → c ≤ xs.length → (∀ b o, s1.heap.get? b = some o → h'.get? b = some o) →
        wpAny (model X.prog X.w) X.A (spliced (backTo pos (starEach [] X.env))) (fun vs s₂ => wpAny (model X.prog X.w) X.A (call (.builtin "sorted") (Value.ref s1.heap.objs.size :: vs)) (EP X pins σ Q) X.xe s₂) X.xe { s1 with heap := h', toks := tk } := fun h' tk c S hc' keep => by
      refine PyProof.Rows.args_nil ?_
      have I2 : Inv X pins σ H1 { s1 with heap := h', toks := tk } := I1.kept fun b o e => keep b o e
      have S2 : Sg.SetM (Sg.memS X.prog X.w) ({ s1 with heap := h', toks := tk } : Shared).heap s1.heap.objs.size (fun y => decide (y ∈ xs)) c := S
      generalize ({ s1 with heap := h', toks := tk } : Shared) = s2 at I2 S2 ⊢
      refine Sg.sortSet (s := s2) S2 calm Sg.runS fun s' p out c2 ys k g o hp hgp are srt nd mem hl => ?_
      have hn : H1 p = none := I2.hok.fresh hp
      have hlen : (ys.map V.str).length ≤ sizeLine := by rw [List.length_map, hl]; exact Sg.rest_le (by omega)
      have J : Inv X pins σ (upd H1 p (.lst (ys.map V.str))) { s2 with heap := s'.heap, gens := s'.gens, drawn := s'.drawn, toks := s'.toks } :=
        I2.call (ch := []) (Un.laid k hp hn) (I2.hok.laid k hp ⟨hlen, out.toList, c2, vals_of_strs (Sg.strsAre_M are), hgp⟩) (by rw [g]; exact I2.bare) (fun _ z => nomatch z)
      have e : s' = { s2 with heap := s'.heap, gens := s'.gens, drawn := s'.drawn, toks := s'.toks } := by
        cases s'
        cases s2
        cases o
        rfl
      rw [e]
      exact ⟨.ref p, _, J, rfl, q1 p ys hn nd srt fun y => by rw [mem y, decide_eq_true_eq]⟩
    rcases hq with hq | hq
    · obtain ⟨its, r, pl, hz⟩ := I1.list hq
      exact Sg.setOf_list calm pl.isList (vals_memS r) few fin
    · obtain ⟨its, r, pl, hz⟩ := I1.tuple hq
      exact Sg.setOf_tuple calm pl (vals_memS r) few fin
  · have fin : ∀ (h' : Heap) (tk c : Nat), Sg.SetM (Sg.memI X.prog X.w) h' s1.heap.objs.size (fun y => decide (y ∈ xs)) c → c ≤ xs.length → (∀ b o, s1.heap.get? b = some o → h'.get? b = some o) →
        wpAny (model X.prog X.w) X.A (spliced (backTo pos (starEach [] X.env))) (fun vs s₂ => wpAny (model X.prog X.w) X.A (call (.builtin "sorted") (Value.ref s1.heap.objs.size :: vs)) (EP X pins σ Q) X.xe s₂) X.xe { s1 with heap := h', toks := tk } := fun h' tk c S hc' keep => by
      refine PyProof.Rows.args_nil ?_
      have I2 : Inv X pins σ H1 { s1 with heap := h', toks := tk } := I1.kept fun b o e => keep b o e
      have S2 : Sg.SetM (Sg.memI X.prog X.w) ({ s1 with heap := h', toks := tk } : Shared).heap s1.heap.objs.size (fun y => decide (y ∈ xs)) c := S
      generalize ({ s1 with heap := h', toks := tk } : Shared) = s2 at I2 S2 ⊢
      refine Sg.sortSet (s := s2) S2 calm Sg.runI fun s' p out c2 ys k g o hp hgp are srt nd mem hl => ?_
      have hn : H1 p = none := I2.hok.fresh hp
      have hlen : (ys.map V.int).length ≤ sizeLine := by rw [List.length_map, hl]; exact Sg.rest_le (by omega)
      have J : Inv X pins σ (upd H1 p (.lst (ys.map V.int))) { s2 with heap := s'.heap, gens := s'.gens, drawn := s'.drawn, toks := s'.toks } :=
        I2.call (ch := []) (Un.laid k hp hn) (I2.hok.laid k hp ⟨hlen, out.toList, c2, vals_of_ints (Sg.intsAre_M are), hgp⟩) (by rw [g]; exact I2.bare) (fun _ z => nomatch z)
      have e : s' = { s2 with heap := s'.heap, gens := s'.gens, drawn := s'.drawn, toks := s'.toks } := by
        cases s'
        cases s2
        cases o
        rfl
      rw [e]
      exact ⟨.ref p, _, J, rfl, q1 p ys hn (lt_of_le_nodup ys srt nd) fun y => by rw [mem y, decide_eq_true_eq]⟩
    rcases hq with hq | hq
    · obtain ⟨its, r, pl, hz⟩ := I1.list hq
      exact Sg.setOf_list calm pl.isList (vals_memI r) few fin
    · obtain ⟨its, r, pl, hz⟩ := I1.tuple hq
      exact Sg.setOf_tuple calm pl (vals_memI r) few fin
variable {e : Expr} {te : DTE}
/-- sorted(set(e)) -/
theorem de_sortSetG {G : PyData → (PyData → Prop) → Prop} (hG : ∀ d Q, G d Q → SortedSet d Q) {p1 p2 q1 q2 : Pos} (hc : X.calm = true) (hg : Gl X "sorted") (hm : X.mg "sorted" = none) (hg2 : Gl X "set") (hm2 : X.mg "set" = none) (h : DE X e te)
    (na : starEach [e] X.env = (false, eval e X.env) :: starEach [] X.env := by rfl) : DE X (.Call (.Name "sorted" p1) [.Call (.Name "set" p2) [e] [] q2] [] q1) (fun Γ Q => te Γ fun d Γ1 => G d fun x => Q x Γ1) := by
  refine ⟨pe_of (pe_sortSet hc hg hm hg2 hm2 h.run na) ?_⟩
  rintro σ H Q ⟨Γ, Hf, Q0, A, q, k⟩
  refine ⟨Γ, Hf, _, A, q, fun d Γ1 v Hf1 H1 hd S1 r1 => ?_⟩
  have new : ∀ (p : Addr) (o : HO), H1 p = none → Stp X.K Γ σ Hf H Γ1 σ (upd Hf1 p o) (upd H1 p o) := fun p o hp => S1.trans (S1.abs.stp (Ext.new S1.abs.sub hp))
  rcases hG _ _ hd with ⟨ws, hd, few, hd2⟩ | ⟨ws, hd, few, hd2⟩
  · have key : ∃ l, v = .ref l ∧ (SqL X.K H1 l (ws.map V.str) ∨ SqT X.K H1 l (ws.map V.str)) := by
      rcases hd with rfl | rfl
      · cases r1 with
        | lst h1 h2 =>
          have := h2.strs
          subst this
          exact ⟨_, rfl, .inl (SqL.of (S1.abs.sub _ _ h1))⟩
      · cases r1 with
        | tup h1 h2 =>
          have := h2.strs
          subst this
          exact ⟨_, rfl, .inr (same_t S1.abs.sub h1)⟩
    obtain ⟨l, rfl, hq⟩ := key
    exact ⟨l, rfl, .inl ⟨ws, hq, few, fun p ys hp nd srt mem => k _ Γ1 _ _ _ (hd2 ys nd srt mem) (new p _ hp) (.lst upd_same (rp_strs ys))⟩⟩
  · have key : ∃ l, v = .ref l ∧ (SqL X.K H1 l (ws.map V.int) ∨ SqT X.K H1 l (ws.map V.int)) := by
      rcases hd with rfl | rfl
      · cases r1 with
        | lst h1 h2 =>
          have := h2.ints
          subst this
          exact ⟨_, rfl, .inl (SqL.of (S1.abs.sub _ _ h1))⟩
      · cases r1 with
        | tup h1 h2 =>
          have := h2.ints
          subst this
          exact ⟨_, rfl, .inr (same_t S1.abs.sub h1)⟩
    obtain ⟨l, rfl, hq⟩ := key
    exact ⟨l, rfl, .inr ⟨ws, hq, few, fun p ys hp srt mem => k _ Γ1 _ _ _ (hd2 ys srt mem) (new p _ hp) (.lst upd_same (rp_ints ys))⟩⟩
theorem de_sortSet {p1 p2 q1 q2 : Pos} (hc : X.calm = true) (hg : Gl X "sorted") (hm : X.mg "sorted" = none) (hg2 : Gl X "set") (hm2 : X.mg "set" = none) (h : DE X e te)
    (na : starEach [e] X.env = (false, eval e X.env) :: starEach [] X.env := by rfl) : DE X (.Call (.Name "sorted" p1) [.Call (.Name "set" p2) [e] [] q2] [] q1) (dSortS te) := de_sortSetG (G := SortedSet) (fun _ _ h => h) hc hg hm hg2 hm2 h na
end
end Dl
namespace Dl
open PySem PySem.Spec PyProof.Rows L2 TL Bl
section
variable {X : Cx}
/-- == of two texts, whatever stands in them -/
def gEqS : B2 := fun x y Q => match x, y with
  | .str a, .str b => Q (a == b)
  | _, _ => False
theorem op_eqSS : OpR X (compareOp .Eq) (rdB X.K gEqS) := by
  intro pins s σ H x y v u Q I rx ry ⟨Hf, dx, dy, Q0, sub, r1, r2, h, k⟩
  match dx, dy, r1, r2, h with
  | .str a, .str b, .str _, .str _, h =>
    refine op_eq pins s σ H _ _ v u Q I rx ry ⟨rfl, ?_⟩
    have e : decide (V.str a = V.str b) = (a == b) := by
      by_cases z : a = b
      · subst z; simp
      · have : ¬ (V.str a = V.str b) := fun e => z (V.str.inj e)
        simp [z, this]
    rw [e]
    exact k _ h
/-- `is` of two bools -/
def gIsB : B2 := fun x y Q => match x, y with
  | .bool a, .bool b => Q (decide (a = b))
  | _, _ => False
theorem op_isBD : OpR X (compareOp .Is) (rdB X.K gIsB) := by
  intro pins s σ H x y v u Q I rx ry ⟨Hf, dx, dy, Q0, sub, r1, r2, h, k⟩
  match dx, dy, r1, r2, h with
  | .bool a, .bool b, .bl _, .bl _, h => exact op_isBl pins s σ H _ _ v u Q I rx ry ⟨a, b, rfl, rfl, k _ h⟩
/-- * of two ints one of which is short -/
def gMulI : G2 := fun x y Q => match x, y with
  | .int i, .int j => IntMulOk i j ∧ Q (.int (i * j))
  | _, _ => False
theorem op_mulShort : OpR X (binaryOp .Mult) (rI IntMulOk fun i j => .int (i * j)) := opI fun _ _ _ _ _ _ _ hc q => mul_int q hc
theorem op_mulI : OpR X (binaryOp .Mult) (rdO X.K gMulI) := by
  intro pins s σ H x y v u Q I rx ry ⟨Hf, dx, dy, Q0, sub, r1, r2, h, k⟩
  match dx, dy, r1, r2, h with
  | .int i, .int j, .int _, .int _, h => exact op_mulShort pins s σ H _ _ v u Q I rx ry ⟨i, j, rfl, rfl, h.1, k _ _ Hf H h.2 (.refl sub) (.int _)⟩
end
end Dl
/-! more rules by values: != of texts, in, list.index, divmod -/
namespace Dl
open PySem PySem.Spec PyProof.Rows L2 TL Bl
theorem u65 {k : Nat} {A : Around} (r : Room k A) : A.units + 65 < cLine := by have := r.un; omega
/-- sorted(set(texts)): some of the texts, each once -/
def dSortSet (te : DTE) : DTE := fun Γ Q => te Γ fun d Γ1 => ∃ ws : List Str, (d = .list (ws.map .str) ∨ d = .tuple (ws.map .str)) ∧ ws.length < 64 ∧ ∀ vs : List Str, (∀ x ∈ vs, x ∈ ws) → vs.length ≤ ws.length → (1 ≤ ws.length → 1 ≤ vs.length) → Q (.list (vs.map .str)) Γ1
def SortRule : Prop := ∀ (X : Cx) (e : Expr) (te : DTE) (p1 p2 q1 q2 : Pos), Gl X "sorted" → X.mg "sorted" = none → Gl X "set" → X.mg "set" = none → X.calm = true → DE X e te → (starEach [e] X.env = (false, eval e X.env) :: starEach [] X.env) → DE X (.Call (.Name "sorted" p1) [.Call (.Name "set" p2) [e] [] q2] [] q1) (dSortSet te)
theorem nodup_sub_len {α : Type} [DecidableEq α] : ∀ (vs ws : List α), vs.Nodup → (∀ x ∈ vs, x ∈ ws) → vs.length ≤ ws.length
  | [], _, _, _ => Nat.zero_le _
  | v :: vs, ws, nd, sub => by
    obtain ⟨n1, n2⟩ := List.nodup_cons.mp nd
    have hv := sub v List.mem_cons_self
    have z := nodup_sub_len vs (ws.erase v) n2 fun x hx => (List.mem_erase_of_ne fun (e : x = v) => n1 (e ▸ hx)).mpr (sub x (List.mem_cons_of_mem _ hx))
    rw [List.length_erase_of_mem hv] at z
    have := List.length_pos_of_mem hv
    rw [List.length_cons]
    omega
theorem sortRule : SortRule := fun X e te p1 p2 q1 q2 a b c d calm h na =>
  de_sortSetG (G := fun d Q => ∃ ws : List Str, (d = .list (ws.map .str) ∨ d = .tuple (ws.map .str)) ∧ ws.length < 64 ∧ ∀ vs : List Str, (∀ x ∈ vs, x ∈ ws) → vs.length ≤ ws.length → (1 ≤ ws.length → 1 ≤ vs.length) → Q (.list (vs.map .str)))
    (fun d Q ⟨ws, h1, h2, h3⟩ => .inl ⟨ws, h1, Nat.lt_of_lt_of_le (Nat.succ_lt_succ h2) (by decide), fun vs nd _ mem => h3 vs (fun x hx => (mem x).mp hx) (nodup_sub_len vs ws nd fun x hx => (mem x).mp hx) fun w1 => by
      obtain ⟨x, hx⟩ := List.exists_mem_of_length_pos w1
      exact List.length_pos_of_mem ((mem x).mpr hx)⟩) calm a b c d h na
section
variable {X : Cx}
/-- != of two texts, whatever stands in them -/
def gNeS : B2 := fun x y Q => match x, y with
  | .str a, .str b => Q (!(a == b))
  | _, _ => False
theorem op_neSS : OpR X (compareOp .NotEq) (rdB X.K gNeS) := by
  intro pins s σ H x y v u Q I rx ry ⟨Hf, dx, dy, Q0, sub, r1, r2, h, k⟩
  match dx, dy, r1, r2, h with
  | .str a, .str b, .str _, .str _, h =>
    refine op_ne pins s σ H _ _ v u Q I rx ry ⟨rfl, ?_⟩
    have e : (!decide (V.str a = V.str b)) = (!(a == b)) := by
      by_cases z : a = b
      · subst z; simp
      · have : ¬ (V.str a = V.str b) := fun e => z (V.str.inj e)
        simp [z, this]
    rw [e]
    exact k _ h
/-- in: of an item and a list -/
def gIn : B2 := fun x y Q => match y with
  | .list ds => (noDic x = true ∧ noDics ds = true ∧ SeqAt.shaped x = true ∧ SeqAt.shaped (.list ds) = true) ∧ Q (ds.any fun z => PyData.eqv z x)
  | _ => False
def gNotIn : B2 := fun x y Q => match y with
  | .list ds => (noDic x = true ∧ noDics ds = true ∧ SeqAt.shaped x = true ∧ SeqAt.shaped (.list ds) = true) ∧ Q (!ds.any fun z => PyData.eqv z x)
  | _ => False
theorem op_inDD (hu : X.A.units + 65 < cLine) : OpR X (compareOp .In) (rdB X.K gIn) := by
  intro pins s σ H x y v u Q I rx ry ⟨Hf, dx, dy, Q0, sub, r1, r2, h, k⟩
  match dy, r2, h with
  | .list ds, r2, h =>
    exact op_inD hu pins s σ H _ _ v u Q I rx ry ⟨dx, ds, (r1.mono sub).dp h.1.1, (r2.mono sub).dp h.1.2.1, h.1.2.2.1, h.1.2.2.2, k _ h.2⟩
theorem op_notInDD (hu : X.A.units + 65 < cLine) : OpR X (compareOp .NotIn) (rdB X.K gNotIn) := by
  intro pins s σ H x y v u Q I rx ry ⟨Hf, dx, dy, Q0, sub, r1, r2, h, k⟩
  match dy, r2, h with
  | .list ds, r2, h =>
    exact op_notInD hu pins s σ H _ _ v u Q I rx ry ⟨dx, ds, (r1.mono sub).dp h.1.1, (r2.mono sub).dp h.1.2.1, h.1.2.2.1, h.1.2.2.2, k _ h.2⟩
/-- xs.index(y) -/
def gIndex : GM := fun x ds Q => match x, ds with
  | .list xs, [d] => (noDics xs = true ∧ noDic d = true ∧ SeqAt.shaped (.list xs) = true ∧ SeqAt.shaped d = true) ∧ ∃ (j : Nat) (z : PyData), xs[j]? = some z ∧ PyData.eqv z d = true ∧ (∀ (m : Nat) (z' : PyData), m < j → xs[m]? = some z' → PyData.eqv z' d = false) ∧ Q (.int (j : Nat))
  | _, _ => False
theorem mt_indexDD (hu : X.A.units + 65 < cLine) : MtR X "list.index" (rdM X.K gIndex) := by
  intro pins s σ H x xs v us Q I rx rs ⟨Hf, dx, ds, Q0, sub, r1, r2, h, k⟩
  match dx, ds, r1, r2, h with
  | .list zs, [d], r1, .cons (v := y) h1 .nil, h =>
    obtain ⟨⟨n1, n2, n3, n4⟩, j, z, e1, e2, e3, q⟩ := h
    have lst := (r1.mono sub).dp (show noDic (.list zs) = true from n1)
    cases r1 with
    | @lst a vs _ g1 g2 => exact mt_indexD hu pins s σ H _ _ v us Q I rx rs ⟨a, y, d, zs, j, z, rfl, rfl, lst, (h1.mono sub).dp n2, n3, n4, e1, e2, e3, k _ _ Hf H q (.refl sub) (.int _)⟩
variable {e o : Expr} {es : List Expr} {te : DTE} {t : DTA} {pos p : Pos} {x : Str}
def isLstD : PyData → Bool
  | .list _ => true
  | _ => false
/-- a method of a list as data -/
def dMthL (g : GM) (te : DTE) (t : DTA) : DTE := fun Γ Q => te Γ fun d Γ1 => isLstD d = true ∧ t Γ1 fun ds Γ2 => g d ds fun z => Q z Γ2
theorem de_mthL {name : Str} {id : String} {g : GM} {apos cpos : Pos} (slot : Slot "list" name id) (hty : typeOf (.builtin id) = pure (.type "method_descriptor")) (hm : MtR X id (rdM X.K g)) (ho : DE X o te) (ha : DA X (e :: es) t)
    (hbase : attributeBase o name X.env (eval o X.env) = eval o X.env := by rfl)
    (hfew : ((backTo cpos (starEach (e :: es) X.env)).all (fun x => !x.1) && (backToKw cpos (keywordEach [] X.env)).all (fun x => x.1.isSome)
      && decide ((e :: es).length + ([] : List Keyword).length + (if ([] : List Keyword).isEmpty then 0 else 1) < 30)) = true := by rfl)
    (hline : (apos.endLine == cpos.line) = true := by rfl) (hs : starEach (e :: es) X.env = (false, eval e X.env) :: starEach es X.env := by rfl) (hplain : (backTo cpos (starEach es X.env)).any (·.1) = false := by rfl) :
    DE X (.Call (.Attribute o name apos) (e :: es) [] cpos) (dMthL g te t) := by
  refine ⟨pe_of (pe_bm PySem.F.plainAttrs_list slot hty hm ho.run ha.run hbase hfew hline hs hplain) ?_⟩
  rintro σ H Q ⟨Γ, Hf, Q0, A, h, k⟩
  refine ⟨Γ, Hf, _, A, h, fun d Γ1 v Hf1 H1 hd S1 r1 => ⟨?_, Γ1, Hf1, _, S1.abs, hd.2, fun ds Γ2 vs Hf2 H2 hd2 S2 r2 => ⟨Hf2, d, ds, _, S2.abs.sub, r1.mono S2.same, r2, hd2, fun z w Hf3 H3 q e rv => k z Γ2 w Hf3 H3 q ((S1.trans S2).trans (S2.abs.stp e)) rv⟩⟩⟩
  cases r1 with
  | lst g1 g2 => exact .inl ⟨rfl, _, SqL.of (S1.abs.sub _ _ g1)⟩
  | _ => exact absurd hd.1 (by simp [isLstD])
/-- divmod -/
def gDivmod : GN := fun ds Q => match ds with
  | [.int i, .int j] => CDivW i j ∧ Q (.tuple [.int (i / j), .int (i % j)])
  | _ => False
theorem cr_divmodD : CallR X (.builtin "divmod") (rdC X.K gDivmod) := by
  intro pins s σ H xs us Q I r ⟨Hf, ds, Q0, sub, rd, h, k⟩
  match ds, rd, h with
  | [.int i, .int j], .cons (.int _) (.cons (.int _) .nil), h =>
    exact call_divmodW pins s σ H _ us Q I r ⟨i, j, rfl, ⟨h.1.1, PyProof.noPylong_of_log2 h.1.2⟩, fun p hp => k _ _ _ _ h.2 (Ext.new sub hp) (.tup (SqT.of upd_same) (.cons (.int _) (.cons (.int _) .nil)))⟩
end
end Dl
/-! more rules by values: chains of two comparisons, an int in a tuple of ints -/
namespace Dl
open PySem PySem.Spec PyProof.Rows L2 TL Bl
section
variable {X : Cx}
/-- an int in a tuple of ints -/
def gInTup : B2 := fun x y Q => match x, y with
  | .int i, .tuple ds => ∃ is : List Int, ds = is.map .int ∧ Q (is.any fun j => j == i)
  | _, _ => False
theorem inV_ints (i : Int) : ∀ is : List Int, inV (V.int i) (is.map V.int) = is.any fun j => j == i
  | [] => rfl
  | j :: is => by
    show (eqV (V.int j) (V.int i) || inV (V.int i) (is.map V.int)) = _
    rw [inV_ints i is, List.any_cons]
    rfl
theorem all_flat_ints : ∀ is : List Int, (is.map V.int).all flatV = true
  | [] => rfl
  | j :: is => all_flat_ints is
theorem op_inTup : OpR X (compareOp .In) (rdB X.K gInTup) := by
  intro pins s σ H x y v u Q I rx ry ⟨Hf, dx, dy, Q0, sub, r1, r2, h, k⟩
  match dx, dy, r1, r2, h with
  | .int i, .tuple _, .int _, .tup h1 h2, ⟨is, e, h⟩ =>
    subst e
    have := h2.ints
    subst this
    refine op_in_seq pins s σ H _ _ v u Q I rx ry ⟨_, _, rfl, .inr (same_t sub h1), rfl, all_flat_ints is, ?_⟩
    rw [if_neg (by decide), inV_ints]
    exact k _ h
variable {a b c : Expr} {ta tb tc : DTE} {pos : Pos}
/-- a op b op c -/
def dChain (g g' : B2) (ta tb tc : DTE) : DTT := fun Γ Q => ta Γ fun x Γ1 => tb Γ1 fun y Γ2 => g x y fun d => if d = true then tc Γ2 fun z Γ3 => g' y z fun e => Q e Γ3 else Q false Γ2
theorem dt_chain {op op' : CmpOp} {g g' : B2} (ho : OpR X (compareOp op) (rdB X.K g)) (ho' : OpR X (compareOp op') (rdB X.K g')) (ha : DE X a ta) (hb : DE X b tb) (hc : DE X c tc)
    (hm : lastMarks [op, op'] [b, c] = false := by with_unfolding_all rfl) : DT X (.Compare a [op, op'] [b, c] pos) (dChain g g' ta tb tc) := by
  refine ⟨pt_of (pt_chain ho ho' ha.run hb.run hc.run hm) ?_⟩
  rintro σ H Q ⟨Γ, Hf, Q0, A, h, k⟩
  refine ⟨Γ, Hf, _, A, h, fun dx Γ1 v Hf1 H1 hx S1 r1 => ?_⟩
  refine ⟨Γ1, Hf1, _, S1.abs, hx, fun dy Γ2 u Hf2 H2 hy S2 r2 => ?_⟩
  refine ⟨Hf2, dx, dy, _, S2.abs.sub, r1.mono S2.same, r2, hy, fun d hd => ⟨d, rfl, ?_⟩⟩
  cases d with
  | false => exact iteF ⟨false, rfl, k false Γ2 Hf2 H2 (by simpa using hd) (S1.trans S2)⟩
  | true => exact iteT ⟨Γ2, Hf2, _, S2.abs, by simpa using hd, fun dz Γ3 w Hf3 H3 hz S3 r3 => ⟨Hf3, dy, dz, _, S3.abs.sub, r2.mono S3.same, r3, hz, fun e he => ⟨e, rfl, k e Γ3 Hf3 H3 he ((S1.trans S2).trans S3)⟩⟩⟩
theorem de_chain {op op' : CmpOp} {g g' : B2} (ho : OpR X (compareOp op) (rdB X.K g)) (ho' : OpR X (compareOp op') (rdB X.K g')) (ha : DE X a ta) (hb : DE X b tb) (hc : DE X c tc)
    (hm : lastMarks [op, op'] [b, c] = false := by with_unfolding_all rfl) : DE X (.Compare a [op, op'] [b, c] pos) (dVal (dChain g g' ta tb tc)) := by
  refine ⟨pe_of (pe_chain ho ho' ha.run hb.run hc.run hm) ?_⟩
  rintro σ H Q ⟨Γ, Hf, Q0, A, h, k⟩
  refine ⟨Γ, Hf, _, A, h, fun dx Γ1 v Hf1 H1 hx S1 r1 => ?_⟩
  refine ⟨Γ1, Hf1, _, S1.abs, hx, fun dy Γ2 u Hf2 H2 hy S2 r2 => ?_⟩
  refine ⟨Hf2, dx, dy, _, S2.abs.sub, r1.mono S2.same, r2, hy, fun d hd => ⟨d, rfl, ?_⟩⟩
  cases d with
  | false => exact iteF (k (.bool false) Γ2 _ Hf2 H2 (by simpa using hd) (S1.trans S2) (.bl false))
  | true => exact iteT ⟨Γ2, Hf2, _, S2.abs, by simpa using hd, fun dz Γ3 w Hf3 H3 hz S3 r3 => ⟨Hf3, dy, dz, _, S3.abs.sub, r2.mono S3.same, r3, hz, fun e he => k (.bool e) Γ3 _ Hf3 H3 he ((S1.trans S2).trans S3) (.bl e)⟩⟩
variable {CX : CXT} {k n : Nat} {f : Addr} {fd : FuncData} {ps : List Str} {tm : GNM} {x : Str} {e : Expr} {es : List Expr} {tl t : DTA} {p : Pos} {E : XK}
/-- f(xs, ..), xs a new list that f may change -/
def dFnMN (n : Nat) (tm : GNM) (tl t : DTA) : DTE := fun Γ Q => tl Γ fun ys Γ1 => t Γ1 fun ds Γ2 => ds.length + 1 = n ∧ tm ys ds fun d _ => Q d Γ2
theorem rd_fnMN : ∀ σ H Q, rdE X.K (dFnMN n tm tl t) σ H Q → tCall (spM n tm X.K) [] E (tCons (rdL X.K tl) (rdA X.K t)) σ H Q := by
  rintro σ H Q ⟨Γ, Hf, Q0, A, h, k⟩
  refine ⟨Γ, Hf, _, A, h, fun ys Γ1 q us0 Hf1 H1 hd S1 h1 h2 h3 h4 r1 => ?_⟩
  refine ⟨Γ1, Hf1, _, S1.abs, hd, fun ds Γ2 vs Hf2 H2 hk S2 r2 => ?_⟩
  obtain ⟨g1, g2, g3⟩ := S2.apart h2 h3 h4
  show spM n tm X.K (.ref q :: vs ++ []) H2 Q E
  rw [List.append_nil]
  refine ⟨by rw [List.length_cons, r2.len]; exact hk.1, q, vs, Hf2, us0, ys, ds, _, rfl, S2.abs.sub, g1, g2, r1.mono S2.same, r2, hk.2, fun d zs v Hf3 H3 us2 hd3 M rv => ?_⟩
  have T := (S1.trans S2).poke (u := .lst us2) h1 g2 g3
  refine k d Γ2 v Hf3 H3 hd3 (T.trans (T.abs.stp ⟨fun b o z => ?_, M.fs, M.sub, fun b z => ?_⟩)) rv
  · by_cases e : b = q
    · subst e
      rw [upd_same] at z
      rw [M.at_]
      exact z
    · rw [upd_ne e] at z
      exact M.fr b o e z
  · rcases M.fz b z with w | w
    · exact .inl w
    · refine .inr ?_
      rw [upd_ne (fun e => by subst e; rw [g1] at w; cases w)]
      exact w
theorem de_fnMN (F : FM X.prog X.w X.K X.mg X.base x k n tm) (hr : Room k X.A) (hg : Gl X x) (hx : ∀ E, Passes CX0 X E) (hl : DL X e tl) (ha : DA X es t) (hdb : (x == ("__debug__" : Str)) = false := by decide)
    (he : starEach (e :: es) X.env = (false, eval e X.env) :: starEach es X.env := by rfl) (hpl : (backTo pos (starEach es X.env)).any (·.1) = false := by rfl) : DE X (.Call (.Name x p) (e :: es) [] pos) (dFnMN n tm tl t) := by
  obtain ⟨f, fd, ps, O, m, kp, b⟩ := F.ex
  exact ⟨pe_of (pe_call O hr hg m kp b .nil (hx E0) (pa_cons hl.run ha.run he) hdb he hpl) rd_fnMN⟩
theorem de_fnMNG (F : FMG X.prog X.w X.K X.mg X.base x k n tm) (hgd : X.A.guards = some []) (hr : Room k X.A) (hg : Gl X x) (hx : ∀ E, Passes CX0 X E) (hl : DL X e tl) (ha : DA X es t) (hdb : (x == ("__debug__" : Str)) = false := by decide)
    (he : starEach (e :: es) X.env = (false, eval e X.env) :: starEach es X.env := by rfl) (hpl : (backTo pos (starEach es X.env)).any (·.1) = false := by rfl) : DE X (.Call (.Name x p) (e :: es) [] pos) (dFnMN n tm tl t) := by
  obtain ⟨f, fd, ps, O, m, kp, b⟩ := F.ex
  exact ⟨pe_of (pe_callG O hgd hr hg m kp b (hx E0) (pa_cons hl.run ha.run he) hdb he hpl) rd_fnMN⟩
end
end Dl
/-! products of rows: words by their numbers -/
namespace Pm
open PySem PySem.Spec PyProof.Rows L2 TL Bl Dl
theorem flat_get {ws : List Str} {f : Str → List Str} {m : Nat} (hf : ∀ x, (f x).length = m) : ∀ {i t : Nat} {x : Str}, ws[i]? = some x → t < m → (ws.flatMap f)[i * m + t]? = (f x)[t]? := by
  induction ws with
  | nil => intro i t x h; simp at h
  | cons w ws ih =>
    intro i t x h ht
    rw [List.flatMap_cons]
    cases i with
    | zero =>
      cases h
      rw [Nat.zero_mul, Nat.zero_add, List.getElem?_append_left (by rw [hf]; exact ht)]
    | succ i =>
      rw [List.getElem?_append_right (by rw [hf, Nat.succ_mul]; omega)]
      have e : (i + 1) * m + t - (f w).length = i * m + t := by rw [hf, Nat.succ_mul]; omega
      rw [e]
      exact ih h ht
theorem add_getD {r W : List Str} {a b : Nat} (ha : a < r.length) (hb : b < W.length) : (addRow r W).getD (a * W.length + b) "" = r.getD a "" ++ W.getD b "" := by
  have := flat_get (ws := r) (f := fun w => W.map fun x => w ++ x) (m := W.length) (fun x => by rw [List.length_map]) (List.getElem?_eq_getElem ha) hb
  unfold addRow
  rw [List.getD_eq_getElem?_getD, this, List.getElem?_map, List.getElem?_eq_getElem hb, List.getD_eq_getElem?_getD, List.getElem?_eq_getElem ha, List.getD_eq_getElem?_getD, List.getElem?_eq_getElem hb]
  rfl
theorem app_assoc (x y z : Str) : x ++ y ++ z = x ++ (y ++ z) := by
  show Str.mk _ = Str.mk _
  congr 1
  exact Array.append_assoc
theorem nil_app (x : Str) : "" ++ x = x := by
  show Str.mk _ = x
  cases x
  congr 1
  exact Array.empty_append
theorem app_nil (x : Str) : x ++ "" = x := by
  show Str.mk _ = x
  cases x
  congr 1
theorem addRow_nil (r : List Str) : addRow [""] r = r := by
  unfold addRow
  rw [List.flatMap_cons, List.flatMap_nil, List.append_nil]
  have e : (fun x : Str => "" ++ x) = id := funext nil_app
  rw [e, List.map_id]
theorem addRow_one (ws : List Str) : addRow ws [""] = ws := by
  unfold addRow
  induction ws with
  | nil => rfl
  | cons w ws ih =>
    rw [List.flatMap_cons, ih, List.map_cons, List.map_nil, app_nil]
    rfl
theorem map_addRow (w : Str) : ∀ vs r : List Str, (addRow vs r).map (fun x => w ++ x) = addRow (vs.map fun x => w ++ x) r
  | [], r => rfl
  | v :: vs, r => by
    have ih := map_addRow w vs r
    unfold addRow at ih ⊢
    rw [List.flatMap_cons, List.map_append, ih, List.map_cons, List.flatMap_cons, List.map_map]
    congr 1
    apply List.map_congr_left
    intro x _
    exact (app_assoc w v x).symm
theorem addRow_assoc : ∀ ws vs r : List Str, addRow ws (addRow vs r) = addRow (addRow ws vs) r
  | [], vs, r => rfl
  | w :: ws, vs, r => by
    have ih := addRow_assoc ws vs r
    have e1 : addRow (w :: ws) (addRow vs r) = (addRow vs r).map (fun x => w ++ x) ++ addRow ws (addRow vs r) := by
      unfold addRow
      rw [List.flatMap_cons]
    have e2 : addRow (w :: ws) vs = vs.map (fun x => w ++ x) ++ addRow ws vs := by
      unfold addRow
      rw [List.flatMap_cons]
    have e3 : ∀ a b : List Str, addRow (a ++ b) r = addRow a r ++ addRow b r := fun a b => by
      unfold addRow
      rw [List.flatMap_append]
    rw [e1, e2, e3, ih, map_addRow]
theorem fold_assoc : ∀ (rs : List (List Str)) (ws vs : List Str), addRow ws (rs.foldl addRow vs) = rs.foldl addRow (addRow ws vs)
  | [], ws, vs => rfl
  | r :: rs, ws, vs => by
    rw [List.foldl_cons, List.foldl_cons, fold_assoc rs, addRow_assoc]
theorem prodW_cons (r : List Str) (S : List (List Str)) : prodW (r :: S) = addRow r (prodW S) := by
  unfold prodW
  rw [List.foldl_cons, addRow_nil, fold_assoc, addRow_one]
theorem cnt_cons (r : List Str) (S : List (List Str)) : cnt (r :: S) = cnt S * r.length := by
  have := Bl.cnt_app [r] S
  rw [List.singleton_append] at this
  rw [this, Nat.mul_comm]
  congr 1
  unfold Bl.cnt
  rw [List.foldl_cons, List.foldl_nil, Nat.one_mul]
theorem getD_mem {r : List Str} {k : Nat} (h : k < r.length) : r.getD k "" ∈ r := by
  rw [List.getD_eq_getElem?_getD, List.getElem?_eq_getElem h]
  exact List.getElem_mem h
theorem drop_one {rs : List (List Str)} {i : Nat} {r : List Str} (h : rs.reverse[i]? = some r) : rs.drop (rs.length - (i + 1)) = r :: rs.drop (rs.length - i) := by
  have hi : i < rs.length := by
    have := (List.getElem?_eq_some_iff.mp h).1
    rw [List.length_reverse] at this
    exact this
  rw [List.getElem?_reverse hi] at h
  have e : rs.length - 1 - i = rs.length - (i + 1) := by omega
  rw [e] at h
  obtain ⟨h1, h2⟩ := List.getElem?_eq_some_iff.mp h
  rw [List.drop_eq_getElem_cons h1, h2]
  congr 2
  omega
theorem atI_last {α : Type} {xs : List α} {v : α} (h1 : 1 ≤ xs.length) (h : xs[xs.length - 1]? = some v) : atI xs (-1) = some v := by
  have e : ixN xs.length (-1) = some (xs.length - 1) := by
    unfold ixN
    rw [if_neg (by decide), if_pos (by omega)]
    congr 1
    omega
  unfold atI
  rw [e]
  exact h
theorem wide_nat {a b n m : Nat} (ha : a < 2 ^ n) (hb : b < 2 ^ m) (h0 : 0 < n) (h1 : 0 < m) (h : n + m ≤ 1000000) : CMulW (a : Int) (b : Int) := wide_mul (by simpa using ha) (by simpa using hb) h0 h1 h
theorem cnt_lt : ∀ {rs : List (List Str)}, (∀ r ∈ rs, r.length ≤ 4000) → cnt rs < 2 ^ (12 * rs.length + 1)
  | [], _ => by decide
  | r :: S, h => by
    have ih := cnt_lt (rs := S) fun q hq => h q (List.mem_cons_of_mem _ hq)
    have hr := h r List.mem_cons_self
    rw [cnt_cons, List.length_cons, show 12 * (S.length + 1) + 1 = (12 * S.length + 1) + 12 from by omega, Nat.pow_add]
    exact Nat.mul_lt_mul_of_lt_of_le ih (by omega) (by decide)
def pts : List (List Str) → Nat → List Str
  | [], _ => []
  | r :: S, n => r.getD (n / cnt S % r.length) "" :: pts S n
theorem cnt_prodW (rs : List (List Str)) : (prodW rs).length = cnt rs := prodW_len rs
theorem join_cons (x : Str) (ys : List Str) : Txt.join "" (x :: ys) = x ++ Txt.join "" ys := by
  rw [join_eq, join_eq]
  apply ext_tl
  have he : tl ("" : Str) = [] := rfl
  rw [tl_append, tl_join, tl_join, List.map_cons, he]
  cases ys with
  | nil => simp [joinL]
  | cons y ys => simp [joinL]
theorem join_pts : ∀ {rs : List (List Str)} (n : Nat), (∀ r ∈ rs, 1 ≤ r.length) → Txt.join "" (pts rs n) = (prodW rs).getD (n % cnt rs) ""
  | [], n, _ => by
    have : n % cnt ([] : List (List Str)) = 0 := Nat.mod_one n
    rw [this]
    rfl
  | r :: S, n, h => by
    have hr := h r List.mem_cons_self
    have hS : ∀ q ∈ S, 1 ≤ q.length := fun q hq => h q (List.mem_cons_of_mem _ hq)
    have pos := cnt_pos hS
    show Txt.join "" (r.getD (n / cnt S % r.length) "" :: pts S n) = _
    rw [join_cons, join_pts n hS, prodW_cons, cnt_cons]
    have e : n % (cnt S * r.length) = n / cnt S % r.length * (prodW S).length + n % cnt S := by
      rw [cnt_prodW, Nat.mod_mul, Nat.mul_comm (n / cnt S % r.length), Nat.add_comm]
    rw [e, add_getD (Nat.mod_lt _ hr) (by rw [cnt_prodW]; exact Nat.mod_lt _ pos)]
theorem pts_len : ∀ (rs : List (List Str)) (n : Nat), (pts rs n).length = rs.length
  | [], _ => rfl
  | r :: S, n => by
    show (_ :: pts S n).length = _
    rw [List.length_cons, List.length_cons, pts_len S n]
theorem pts_ok {b : Nat} : ∀ {rs : List (List Str)} (n : Nat), (∀ r ∈ rs, 1 ≤ r.length ∧ WdsOk b r) → ∀ x ∈ pts rs n, Lets x ∧ x.length ≤ b
  | [], n, _, x, hx => by cases hx
  | r :: S, n, h, x, hx => by
    rcases List.mem_cons.mp hx with z | z
    · have hr := h r List.mem_cons_self
      rw [z]
      exact hr.2 _ (getD_mem (Nat.mod_lt _ hr.1))
    · exact pts_ok n (fun q hq => h q (List.mem_cons_of_mem _ hq)) x z
theorem join_okb {b : Nat} : ∀ ys : List Str, (∀ x ∈ ys, Lets x ∧ x.length ≤ b) → Lets (Txt.join "" ys) ∧ (Txt.join "" ys).length ≤ ys.length * b
  | [], _ => ⟨by unfold Lets; decide +kernel, by rw [List.length_nil, Nat.zero_mul]; decide +kernel⟩
  | y :: ys, hy => by
    obtain ⟨a, d⟩ := join_okb ys fun x hx => hy x (List.mem_cons_of_mem _ hx)
    obtain ⟨c, e⟩ := hy y List.mem_cons_self
    rw [join_cons]
    refine ⟨c.app a, ?_⟩
    rw [len_app, List.length_cons, Nat.succ_mul]
    omega
theorem sum_okb {b : Nat} : ∀ ys : List Str, (∀ x ∈ ys, x.length ≤ b) → (ys.map (·.length)).sum ≤ ys.length * b
  | [], _ => Nat.zero_le _
  | y :: ys, h => by
    have := sum_okb ys fun x hx => h x (List.mem_cons_of_mem _ hx)
    have := h y List.mem_cons_self
    rw [List.map_cons, List.sum_cons, List.length_cons, Nat.succ_mul]
    omega
theorem lets_nth {b : Nat} {rs : List (List Str)} (h : ∀ r ∈ rs, 1 ≤ r.length ∧ WdsOk b r) {n : Nat} (hn : n < cnt rs) : Lets ((prodW rs).getD n "") ∧ ((prodW rs).getD n "").length ≤ rs.length * b := by
  have e := join_pts n fun r hr => (h r hr).1
  rw [Nat.mod_eq_of_lt hn] at e
  rw [← e]
  have z := join_okb (pts rs n) (pts_ok n h)
  rw [pts_len] at z
  exact z
theorem prodW_app : ∀ F T : List (List Str), prodW (F ++ T) = addRow (prodW F) (prodW T)
  | [], T => (addRow_nil _).symm
  | f :: F, T => by rw [List.cons_append, prodW_cons, prodW_cons, prodW_app F T, addRow_assoc]
theorem lets_ch {c : Nat} (h : 97 ≤ c ∧ c ≤ 122) : Lets (⟨#[c]⟩ : Str) := fun d hd => by
  have e : d = c := by simpa [tl] using hd
  rw [e]
  exact h
theorem rng1_at {n i : Nat} {c : Int} {d : PyData} (h : (rngD c n)[i]? = some d) : i < n ∧ d = .int (c + (i : Int)) := by
  unfold rngD at h
  rw [List.getElem?_map] at h
  obtain ⟨j, hj, rfl⟩ := Option.map_eq_some_iff.mp h
  have := (List.getElem?_eq_some_iff.mp hj).1
  rw [List.length_range] at this
  rw [List.getElem?_range this] at hj
  cases hj
  exact ⟨this, rfl⟩
theorem rng_nat (n : Nat) : rngD 0 n = (List.range n).map fun (i : Nat) => PyData.int (0 + (i : Int)) := rfl
structure RowOk (ws : List Str) : Prop where
  ne : 1 ≤ ws.length
  len : ws.length ≤ 4000
  ok : WdsOk 200 ws
theorem RowOk.sh {ws : List Str} (h : RowOk ws) : SeqAt.shaped (rowT ws) = true := shaped_row h.ok
theorem lets_cut {x : Str} (h : Lets x) (lo hi : Option Int) : Lets (cutS x lo hi) := fun c hc => h c (List.mem_of_mem_drop (List.mem_of_mem_take hc))
theorem cut_len (x : Str) (lo hi : Option Int) : (cutS x lo hi).length ≤ x.length := by
  rw [len_tl (cutS x lo hi), len_tl x]
  show (((tl x).drop _).take _).length ≤ _
  rw [List.length_take, List.length_drop]
  omega
theorem sh_lets {x : Str} (hx : Lets x) : SeqAt.shaped (.str x) = true := (selfP (d := .str x) hx (by show 0 ≤ 64; decide)).1
theorem dCut_open {t u : DTS} {D : DEnds} {Γ : DE0} (M : DE0 → Prop) (h1 : t { D with nx := M } Γ) (h2 : ∀ Γ1, M Γ1 → u D Γ1) : dCut t u D Γ := ⟨M, h1, h2⟩
def prodT (rs : List (List Str)) : PyData := .tuple (rs.map rowT)
structure ProdOk (rs : List (List Str)) : Prop where
  ne : 1 ≤ rs.length
  len : rs.length ≤ 100
  row : ∀ r ∈ rs, RowOk r
def stepT (x y : Str) : PyData := .tuple [.str (restL x y), .str (restR x y)]
theorem nat_of {i : Int} (h : 0 ≤ i) : i = ((i.toNat : Nat) : Int) := (Int.toNat_of_nonneg h).symm
theorem wide_nat' {a b : Int} {n m : Nat} (ha : a.natAbs < 2 ^ n) (hb : b.natAbs < 2 ^ m) (h0 : 0 < n) (h1 : 0 < m) (h : n + m ≤ 1000000) : CMulW a b := wide_mul ha hb h0 h1 h
theorem pw {x : Int} {k : Int} (h0 : 0 ≤ x) (h : x < 2 ^ 250) (hk : 0 ≤ k ∧ k ≤ 1000) : CPowW x k :=
  ⟨hk, Nat.lt_of_lt_of_le (m := 2 ^ 250) (by omega) (Nat.pow_le_pow_right (by decide) (by decide))⟩
end Pm
/-! Rows, their steps, and where they can be cut: no program. -/
namespace Pm
open PySem PySem.Spec PyProof.Rows L2 TL Bl Dl
section
variable {W : Nat → List Nat}
def cmn (W : Nat → List Nat) (k : Nat) : Nat := lcp (W (k - 1)) (W k)
def stL (W : Nat → List Nat) (k : Nat) : List Nat := (W (k - 1)).drop (cmn W k)
def stR (W : Nat → List Nat) (k : Nat) : List Nat := (W k).drop (cmn W k)
theorem least_at (f : Nat → Nat) : ∀ m : Nat, 1 ≤ m → ∃ r, r < m ∧ ∀ s, s < m → f r ≤ f s
  | 0, h => absurd h (by omega)
  | 1, _ => ⟨0, by omega, fun s h => by rw [show s = 0 from by omega]; exact Nat.le_refl _⟩
  | m + 2, _ => by
    obtain ⟨r, h1, h2⟩ := least_at f (m + 1) (by omega)
    by_cases h : f r ≤ f (m + 1)
    · refine ⟨r, by omega, fun s hs => ?_⟩
      by_cases e : s = m + 1
      · rw [e]; exact h
      · exact h2 s (by omega)
    · refine ⟨m + 1, by omega, fun s hs => ?_⟩
      by_cases e : s = m + 1
      · rw [e]; exact Nat.le_refl _
      · have := h2 s (by omega)
        omega
theorem take_drop_eq {k l : Nat} {u v : List Nat} (h : k ≤ lcp u v) (hl : l ≤ k) : (u.take k).drop l = (v.take k).drop l := by
  have a := lcp_le u v
  rw [(lcp_take k u v (by omega) (by omega)).mpr h]
/-- forward: where one word of a block is in front and behind, the next is too -/
theorem go_on {l : Nat} {u v u' v' f : List Nat} (hl : l ≤ lcp u v) (e1 : u'.drop (lcp u' v') = u.drop (lcp u v)) (e2 : v'.drop (lcp u' v') = v.drop (lcp u v)) (h : u' = f ++ u.drop l) : v' = f ++ v.drop l := by
  have a := lcp_le u v
  have a' := lcp_le u' v'
  have su : u.drop l = (u.take (lcp u v)).drop l ++ u.drop (lcp u v) := by
    have : u = u.take (lcp u v) ++ u.drop (lcp u v) := (List.take_append_drop _ _).symm
    calc u.drop l = (u.take (lcp u v) ++ u.drop (lcp u v)).drop l := by rw [← this]
      _ = _ := by rw [List.drop_append_of_le_length (by rw [List.length_take]; omega)]
  have sv : v.drop l = (v.take (lcp u v)).drop l ++ v.drop (lcp u v) := by
    have : v = v.take (lcp u v) ++ v.drop (lcp u v) := (List.take_append_drop _ _).symm
    calc v.drop l = (v.take (lcp u v) ++ v.drop (lcp u v)).drop l := by rw [← this]
      _ = _ := by rw [List.drop_append_of_le_length (by rw [List.length_take]; omega)]
  have t : u'.take (lcp u' v') = v'.take (lcp u' v') := (lcp_take _ _ _ a'.1 a'.2).mpr (Nat.le_refl _)
  have t2 := take_drop_eq (u := u) (v := v) (Nat.le_refl _) hl
  have hu' : u' = u'.take (lcp u' v') ++ u.drop (lcp u v) := by rw [← e1, List.take_append_drop]
  have k : u'.take (lcp u' v') = f ++ (u.take (lcp u v)).drop l := by
    rw [su, ← List.append_assoc] at h
    exact List.append_cancel_right (hu'.symm.trans h)
  calc v' = v'.take (lcp u' v') ++ v'.drop (lcp u' v') := (List.take_append_drop _ _).symm
    _ = f ++ v.drop l := by rw [← t, k, e2, sv, t2, List.append_assoc]
theorem go_back {l : Nat} {u v u' v' f : List Nat} (hl : l ≤ lcp u v) (e1 : u'.drop (lcp u' v') = u.drop (lcp u v)) (e2 : v'.drop (lcp u' v') = v.drop (lcp u v)) (h : v' = f ++ v.drop l) : u' = f ++ u.drop l := by
  refine go_on (u := v) (v := u) (u' := v') (v' := u') (by rw [lcp_comm]; exact hl) ?_ ?_ h
  · rw [lcp_comm v' u', lcp_comm v u]; exact e2
  · rw [lcp_comm v' u', lcp_comm v u]; exact e1
/-- equal steps in every block: the row can be cut -/
theorem cut_of_steps {m n : Nat} (hm : 1 ≤ m) (h : ∀ k, m < k → k < n → 0 < k % m → stL W k = stL W (k % m) ∧ stR W k = stR W (k % m)) :
    ∃ l, l ≤ (W 0).length ∧ (∀ r, r < m → (W r).take l = (W 0).take l ∧ l ≤ (W r).length) ∧ ∀ q, (q + 1) * m ≤ n → ∃ f, ∀ r, r < m → W (q * m + r) = f ++ (W r).drop l := by
  by_cases m1 : m = 1
  · subst m1
    refine ⟨(W 0).length, Nat.le_refl _, fun r hr => by rw [show r = 0 from by omega]; exact ⟨rfl, Nat.le_refl _⟩, fun q _ => ⟨W (q * 1), fun r hr => ?_⟩⟩
    rw [show r = 0 from by omega, List.drop_length, List.append_nil, Nat.add_zero]
  obtain ⟨r0, h0, hmin⟩ := least_at (fun r => cmn W (r + 1)) (m - 1) (by omega)
  have hmin : ∀ r, 1 ≤ r → r < m → cmn W (r0 + 1) ≤ cmn W r := fun r h1 h2 => by
    have := hmin (r - 1) (by omega)
    rw [show r - 1 + 1 = r from by omega] at this
    exact this
  generalize hl : cmn W (r0 + 1) = l at hmin
  have len : ∀ r, r < m → l ≤ (W r).length := fun r hr => by
    by_cases z : r = 0
    · subst z
      have a := hmin 1 (by omega) (by omega)
      have b : cmn W 1 ≤ (W 0).length := (lcp_le (W 0) (W 1)).1
      omega
    · have a := hmin r (by omega) hr
      have b : cmn W r ≤ (W r).length := (lcp_le _ _).2
      omega
  have pre : ∀ r, r < m → (W r).take l = (W 0).take l := fun r => by
    induction r with
    | zero => exact fun _ => rfl
    | succ r ih =>
      intro hr
      rw [← ih (by omega)]
      have a := hmin (r + 1) (by omega) hr
      exact ((lcp_take l (W r) (W (r + 1)) (len r (by omega)) (len (r + 1) hr)).mpr a).symm
  refine ⟨l, len 0 (by omega), fun r hr => ⟨pre r hr, len r hr⟩, fun q hq => ?_⟩
  by_cases q0 : q = 0
  · subst q0
    refine ⟨(W 0).take l, fun r hr => ?_⟩
    rw [Nat.zero_mul, Nat.zero_add, ← pre r hr, List.take_append_drop]
  have mq : m ≤ q * m := Nat.le_mul_of_pos_left _ (Nat.pos_of_ne_zero q0)
  have hqn : q * m + m ≤ n := by rw [Nat.succ_mul] at hq; exact hq
  have st : ∀ r, 1 ≤ r → r < m → stL W (q * m + r) = stL W r ∧ stR W (q * m + r) = stR W r := fun r h1 h2 => by
    have e : (q * m + r) % m = r := by rw [Nat.add_comm, Nat.add_mul_mod_self_right, Nat.mod_eq_of_lt h2]
    have z := h (q * m + r) (by omega) (by omega) (by rw [e]; omega)
    rw [e] at z
    exact z
  -- the step at the least place
  have s0 := st (r0 + 1) (by omega) (by omega)
  have fwd : ∀ f r, r + 1 < m → W (q * m + r) = f ++ (W r).drop l → W (q * m + (r + 1)) = f ++ (W (r + 1)).drop l := fun f r hr e => by
    obtain ⟨a, b⟩ := st (r + 1) (by omega) hr
    simp only [stL, stR, cmn] at a b
    rw [show q * m + (r + 1) - 1 = q * m + r from by omega, show r + 1 - 1 = r from by omega] at a b
    have k := hmin (r + 1) (by omega) hr
    unfold cmn at k
    rw [show r + 1 - 1 = r from by omega] at k
    exact go_on k a b e
  have bwd : ∀ f r, r + 1 < m → W (q * m + (r + 1)) = f ++ (W (r + 1)).drop l → W (q * m + r) = f ++ (W r).drop l := fun f r hr e => by
    obtain ⟨a, b⟩ := st (r + 1) (by omega) hr
    simp only [stL, stR, cmn] at a b
    rw [show q * m + (r + 1) - 1 = q * m + r from by omega, show r + 1 - 1 = r from by omega] at a b
    have k := hmin (r + 1) (by omega) hr
    unfold cmn at k
    rw [show r + 1 - 1 = r from by omega] at k
    exact go_back k a b e
  obtain ⟨a, b⟩ := s0
  simp only [stL, stR] at a b
  rw [hl, show q * m + (r0 + 1) - 1 = q * m + r0 from by omega, show r0 + 1 - 1 = r0 from by omega] at a
  rw [hl] at b
  refine ⟨(W (q * m + r0)).take (cmn W (q * m + (r0 + 1))), ?_⟩
  have base : W (q * m + r0) = (W (q * m + r0)).take (cmn W (q * m + (r0 + 1))) ++ (W r0).drop l := by rw [← a, List.take_append_drop]
  generalize (W (q * m + r0)).take (cmn W (q * m + (r0 + 1))) = f at base
  have up : ∀ d, r0 + d < m → W (q * m + (r0 + d)) = f ++ (W (r0 + d)).drop l := fun d => by
    induction d with
    | zero => exact fun _ => base
    | succ d ih => exact fun hd => fwd f (r0 + d) hd (ih (by omega))
  have down : ∀ d, d ≤ r0 → W (q * m + (r0 - d)) = f ++ (W (r0 - d)).drop l := fun d => by
    induction d with
    | zero => exact fun _ => base
    | succ d ih =>
      intro hd
      have e : r0 - d = r0 - (d + 1) + 1 := by omega
      have z := ih (by omega)
      rw [e] at z
      exact bwd f (r0 - (d + 1)) (by omega) z
  intro r hr
  by_cases c : r ≤ r0
  · have z := down (r0 - r) (by omega)
    rw [show r0 - (r0 - r) = r from by omega] at z
    exact z
  · have z := up (r - r0) (by omega)
    rw [show r0 + (r - r0) = r from by omega] at z
    exact z
/-- a row that is cut has equal steps in every block -/
theorem steps_of_cut {m n : Nat} {f b : Nat → List Nat} (hm : 1 ≤ m) (h : ∀ q r, r < m → q * m + r < n → W (q * m + r) = f q ++ b r) {k : Nat} (hk : k < n) (hm2 : m < k) (hr : 0 < k % m) : stL W k = stL W (k % m) ∧ stR W k = stR W (k % m) := by
  have rl := Nat.mod_lt k hm
  have e : k = k / m * m + k % m := by rw [Nat.mul_comm]; exact (Nat.div_add_mod k m).symm
  generalize k / m = q at e
  generalize k % m = r at e hr rl ⊢
  subst e
  have z : ∀ q, q * m + r < n → stL W (q * m + r) = (b (r - 1)).drop (lcp (b (r - 1)) (b r)) ∧ stR W (q * m + r) = (b r).drop (lcp (b (r - 1)) (b r)) := fun q hq => by
    have w1 := h q (r - 1) (by omega) (by omega)
    have w2 := h q r rl hq
    unfold stL stR cmn
    rw [show q * m + r - 1 = q * m + (r - 1) from by omega, w1, w2, lcp_app]
    constructor <;> rw [List.drop_append, List.drop_eq_nil_of_le (by omega), Nat.add_sub_cancel_left, List.nil_append]
  have y := z 0 (by omega)
  rw [Nat.zero_mul, Nat.zero_add] at y
  obtain ⟨z1, z2⟩ := z q hk
  exact ⟨z1.trans y.1.symm, z2.trans y.2.symm⟩
end
end Pm
/-! Rows and their quotients: no program. -/
namespace Pm
open PySem PySem.Spec PyProof.Rows L2 TL Bl Dl
/-! ### the quotients -/
def optT : Option (List Str) → PyData
  | some r => rowT r
  | none => .none
/-- the word without so many of its last letters, as Python counts -/
def offS (x : Str) (n : Nat) : Str := cutS x none (some ((x.length : Int) - (n : Int)))
def rquo0 (ws vs : List Str) : List Str := (stpL ws (vs.length : Int)).map fun x => offS x ((vs.getD 0 "").length)
def rquo (ws vs : List Str) : Option (List Str) := if addRow (rquo0 ws vs) vs = ws then some (rquo0 ws vs) else none
def lquo0 (ws vs : List Str) : List Str := (ws.take (ws.length / vs.length)).map fun x => dropS x ((vs.getD 0 "").length)
def lquo (ws vs : List Str) : Option (List Str) := if addRow vs (lquo0 ws vs) = ws then some (lquo0 ws vs) else none
theorem row0 {vs : List Str} (h : 1 ≤ vs.length) : atI (vs.map PyData.str) 0 = some (.str (vs.getD 0 "")) := by
  cases vs with
  | nil => simp at h
  | cons v r => exact atI_nat (j := 0) rfl
theorem addRow_get {q vs : List Str} {i t : Nat} {x y : Str} (hx : q[i]? = some x) (hy : vs[t]? = some y) : (addRow q vs)[i * vs.length + t]? = some (x ++ y) := by
  unfold addRow
  rw [flat_get (m := vs.length) (fun x => by rw [List.length_map]) hx (List.getElem?_eq_some_iff.mp hy).1, List.getElem?_map, hy]
  rfl
theorem addRow_eq {q vs ws : List Str} (hl : ws.length = q.length * vs.length) (h : ∀ i x, q[i]? = some x → ∀ t y, vs[t]? = some y → ws[i * vs.length + t]? = some (x ++ y)) : addRow q vs = ws := by
  refine List.ext_getElem? fun n => ?_
  rcases Nat.lt_or_ge n ws.length with hn | hn
  · have hm : 0 < vs.length := by
      rcases Nat.eq_zero_or_pos vs.length with z | z
      · rw [z, Nat.mul_zero] at hl
        omega
      · exact z
    have hi : n / vs.length < q.length := (Nat.div_lt_iff_lt_mul hm).mpr (by omega)
    have ht : n % vs.length < vs.length := Nat.mod_lt _ hm
    obtain ⟨x, hx⟩ : ∃ x, q[n / vs.length]? = some x := ⟨_, List.getElem?_eq_getElem hi⟩
    obtain ⟨y, hy⟩ : ∃ y, vs[n % vs.length]? = some y := ⟨_, List.getElem?_eq_getElem ht⟩
    have e : n / vs.length * vs.length + n % vs.length = n := by rw [Nat.mul_comm]; exact Nat.div_add_mod n vs.length
    have h1 := addRow_get hx hy
    have h2 := h _ _ hx _ _ hy
    rw [e] at h1 h2
    rw [h1, h2]
  · rw [List.getElem?_eq_none hn, List.getElem?_eq_none (by rw [addRow_len]; omega)]
theorem stp_get {ws : List Str} {m : Nat} (hm : 0 < m) (i : Nat) : (stpL ws (m : Int))[i]? = ws[i * m]? := by
  have hN : (stpN ws.length (m : Int)) = (0, if 0 < ws.length then (ws.length - 1) / m + 1 else 0) := by
    show (if (m : Int) < 0 then ((ws.length : Nat) : Int) - 1 else 0, (if (m : Int) > 0 then (if (if (m : Int) < 0 then ((ws.length : Nat) : Int) - 1 else 0) < (if (m : Int) < 0 then -1 else ((ws.length : Nat) : Int)) then ((if (m : Int) < 0 then -1 else ((ws.length : Nat) : Int)) - (if (m : Int) < 0 then ((ws.length : Nat) : Int) - 1 else 0) - 1) / (m : Int) + 1 else 0) else (if (if (m : Int) < 0 then ((ws.length : Nat) : Int) - 1 else 0) > (if (m : Int) < 0 then -1 else ((ws.length : Nat) : Int)) then ((if (m : Int) < 0 then ((ws.length : Nat) : Int) - 1 else 0) - (if (m : Int) < 0 then -1 else ((ws.length : Nat) : Int)) - 1) / (-(m : Int)) + 1 else 0)).toNat) = _
    have h1 : ¬ ((m : Int) < 0) := by omega
    have h2 : (m : Int) > 0 := by omega
    simp only [if_neg h1, if_pos h2]
    congr 1
    by_cases h : 0 < ws.length
    · rw [if_pos (by omega), if_pos h]
      have e : ((ws.length : Int) - 0 - 1) = ((ws.length - 1 : Nat) : Int) := by omega
      rw [e]
      have e2 : ((ws.length - 1 : Nat) : Int) / (m : Int) = (((ws.length - 1) / m : Nat) : Int) := rfl
      rw [e2]
      exact Int.toNat_natCast ((ws.length - 1) / m + 1)
    · rw [if_neg (by omega), if_neg h]
      rfl
  unfold stpL
  rw [hN]
  simp only [Int.zero_add]
  have e : ∀ k : Nat, ((k : Int) * (m : Int)).toNat = k * m := fun k => by rw [← Int.natCast_mul, Int.toNat_natCast]
  simp only [e]
  have key : ∀ N : Nat, (∀ k, k < N → k * m < ws.length) → (List.range N).filterMap (fun k => ws[k * m]?) = (List.range N).map (fun k => ws.getD (k * m) "") := by
    intro N h
    induction N with
    | zero => rfl
    | succ N ih =>
      have z := h N (Nat.lt_succ_self N)
      rw [List.range_succ, List.filterMap_append, List.map_append, ih fun k hk => h k (Nat.lt_succ_of_lt hk)]
      simp only [List.filterMap_cons, List.filterMap_nil, List.map_cons, List.map_nil, List.getD_eq_getElem?_getD, List.getElem?_eq_getElem z, Option.getD_some]
  by_cases h : 0 < ws.length
  · rw [if_pos h, key _ fun k hk => ?_]
    · rw [List.getElem?_map]
      rcases Nat.lt_or_ge i ((ws.length - 1) / m + 1) with g | g
      · rw [List.getElem?_range g]
        have : i * m < ws.length := by
          have := (Nat.le_div_iff_mul_le hm).mp (Nat.le_of_lt_succ g)
          omega
        simp only [Option.map_some, List.getD_eq_getElem?_getD, List.getElem?_eq_getElem this, Option.getD_some]
      · rw [List.getElem?_eq_none (by rw [List.length_range]; exact g)]
        have : ws.length - 1 < i * m := (Nat.div_lt_iff_lt_mul hm).mp g
        rw [List.getElem?_eq_none (by omega)]
        rfl
    · have := (Nat.le_div_iff_mul_le hm).mp (Nat.le_of_lt_succ hk)
      omega
  · rw [if_neg h]
    rw [List.getElem?_eq_none (by omega : ws.length ≤ i * m)]
    rfl
theorem off_app (x y : Str) : offS (x ++ y) y.length = x := by
  unfold offS
  have e : ((x ++ y).length : Int) - (y.length : Int) = ((x.length : Nat) : Int) := by rw [len_app]; omega
  rw [e, cut_to]
  refine ext_tl ?_
  rw [tl_takeS]
  rw [tl_append, len_tl, List.take_left]
theorem drop_app (x y : Str) : dropS (x ++ y) x.length = y := by
  refine ext_tl ?_
  rw [tl_dropS, tl_append, len_tl, List.drop_left]
theorem getD0 {vs : List Str} {x : Str} (h : vs[0]? = some x) : vs.getD 0 "" = x := by rw [List.getD_eq_getElem?_getD, h]; rfl
theorem ex0 {vs : List Str} (h : 1 ≤ vs.length) : ∃ x, vs[0]? = some x := ⟨_, List.getElem?_eq_getElem (by omega)⟩
theorem rquo0_get {ws vs : List Str} (hv : 1 ≤ vs.length) (i : Nat) : (rquo0 ws vs)[i]? = (ws[i * vs.length]?).map fun x => offS x (vs.getD 0 "").length := by
  unfold rquo0
  rw [List.getElem?_map, stp_get (by omega)]
theorem rquo0_app {q vs : List Str} (hv : 1 ≤ vs.length) : rquo0 (addRow q vs) vs = q := by
  obtain ⟨y, hy⟩ := ex0 hv
  refine List.ext_getElem? fun i => ?_
  rw [rquo0_get hv, getD0 hy]
  rcases Nat.lt_or_ge i q.length with h | h
  · obtain ⟨x, hx⟩ : ∃ x, q[i]? = some x := ⟨_, List.getElem?_eq_getElem h⟩
    have := addRow_get hx hy
    rw [Nat.add_zero] at this
    rw [this, hx, Option.map_some, off_app]
  · rw [List.getElem?_eq_none (by rw [addRow_len]; exact Nat.mul_le_mul_right _ h), List.getElem?_eq_none h]
    rfl
theorem rquo_app {q vs : List Str} (hv : 1 ≤ vs.length) : rquo (addRow q vs) vs = some q := by
  unfold rquo
  rw [rquo0_app hv, if_pos rfl]
theorem rquo_some {ws vs q : List Str} (h : rquo ws vs = some q) : addRow q vs = ws := by
  unfold rquo at h
  split at h
  · cases h
    assumption
  · cases h
theorem rquo_none {ws vs : List Str} (hv : 1 ≤ vs.length) (h : ∀ q, addRow q vs ≠ ws) : rquo ws vs = none := by
  unfold rquo
  rw [if_neg (h _)]
theorem rquo_rem {ws vs : List Str} (hv : 1 ≤ vs.length) (h : ws.length % vs.length ≠ 0) : rquo ws vs = none := rquo_none hv fun q e => h (by rw [← e, addRow_len]; exact Nat.mul_mod_left _ _)
theorem lquo0_app {q vs : List Str} (hv : 1 ≤ vs.length) (hq : 1 ≤ q.length) : lquo0 (addRow q vs) q = vs := by
  obtain ⟨y, hy⟩ := ex0 hq
  unfold lquo0
  rw [addRow_len, Nat.mul_div_cancel_left _ (by omega), getD0 hy]
  cases q with
  | nil => simp at hq
  | cons a r =>
    cases hy
    unfold addRow
    rw [List.flatMap_cons, List.take_append_of_le_length (by rw [List.length_map]; exact Nat.le_refl _), show vs.length = (List.map (fun z => y ++ z) vs).length from (List.length_map _).symm, List.take_length, List.map_map]
    have : ((fun x => dropS x y.length) ∘ fun z => y ++ z) = id := funext fun z => drop_app y z
    rw [this, List.map_id]
theorem lquo_app {q vs : List Str} (hv : 1 ≤ vs.length) (hq : 1 ≤ q.length) : lquo (addRow q vs) q = some vs := by
  unfold lquo
  rw [lquo0_app hv hq, if_pos rfl]
theorem lquo_some {ws vs q : List Str} (h : lquo ws q = some vs) : addRow q vs = ws := by
  unfold lquo at h
  split at h
  · cases h
    assumption
  · cases h
theorem lquo_none {ws q : List Str} (h : ∀ vs, addRow q vs ≠ ws) : lquo ws q = none := by
  unfold lquo
  rw [if_neg (h _)]
theorem lquo_rem {ws q : List Str} (h : ws.length % q.length ≠ 0) : lquo ws q = none := lquo_none fun vs e => h (by rw [← e, addRow_len]; exact Nat.mul_mod_right _ _)
theorem ends_app (x y : Str) : Txt.endswith (x ++ y) y = true := PySem.W.KT.ends_app x y
end Pm
/-! Where a row of texts can be cut, and its first unequal step: no program. -/
namespace Pm
open PySem PySem.Spec PyProof.Rows L2 TL Bl Dl
def stp (ws : List Str) (k : Nat) : Str × Str := (restL (ws.getD (k - 1) "") (ws.getD k ""), restR (ws.getD (k - 1) "") (ws.getD k ""))
def Bad (ws : List Str) (m k : Nat) : Prop := 0 < k % m ∧ stp ws k ≠ stp ws (k % m)
instance {ws : List Str} {m k : Nat} : Decidable (Bad ws m k) := by unfold Bad; exact inferInstance
def conf (ws : List Str) (m : Nat) : Option (Nat × Nat) := if ws.length % m ≠ 0 then some (0, 0) else ((List.range ws.length).find? fun k => decide (m < k ∧ Bad ws m k)).map fun k => (k, k % m)
def inner (ws : List Str) (m l : Nat) : List Str := (ws.take m).map fun x => dropS x l
def CutAt (ws : List Str) (m l : Nat) : Prop := (∀ x ∈ ws.take m, Txt.startswith x (takeS (ws.getD 0 "") l) = true) ∧ (rquo ws (inner ws m l)).isSome = true
theorem conf_none {ws : List Str} {m : Nat} (h : ws.length % m = 0) : conf ws m = none ↔ ∀ k, m < k → k < ws.length → ¬ Bad ws m k := by
  unfold conf
  rw [if_neg (by simp [h]), Option.map_eq_none_iff, List.find?_eq_none]
  constructor
  · intro z k h1 h2 b
    exact z k (List.mem_range.mpr h2) (decide_eq_true ⟨h1, b⟩)
  · intro z k hk b
    have b := of_decide_eq_true b
    exact z k b.1 (List.mem_range.mp hk) b.2
theorem conf_some {ws : List Str} {m k : Nat} (h : ws.length % m = 0) (hk : k < ws.length) (hm : m < k) (b : Bad ws m k) (before : ∀ j, m < j → j < k → ¬ Bad ws m j) : conf ws m = some (k, k % m) := by
  unfold conf
  rw [if_neg (by simp [h])]
  have z : (List.range ws.length).find? (fun k => decide (m < k ∧ Bad ws m k)) = some k := by
    rw [List.find?_eq_some_iff_append]
    refine ⟨decide_eq_true ⟨hm, b⟩, List.range k, (List.range (ws.length - k - 1)).map fun i => k + 1 + i, ?_, fun j hj => ?_⟩
    · have e : ws.length = k + 1 + (ws.length - k - 1) := by omega
      have a : List.range (k + 1 + (ws.length - k - 1)) = List.range k ++ k :: (List.range (ws.length - k - 1)).map fun i => k + 1 + i := by
        rw [List.range_add, List.range_succ, List.append_assoc]
        rfl
      calc List.range ws.length = List.range (k + 1 + (ws.length - k - 1)) := by rw [← e]
        _ = _ := a
    · have hj := List.mem_range.mp hj
      by_cases c : m < j
      · have := before j c hj
        simp [this]
      · simp [c]
  rw [z]
  rfl
theorem str_of (f : List Nat) : ∃ x : Str, tl x = f := ⟨⟨f.toArray⟩, rfl⟩
theorem getD_at {ws : List Str} {k : Nat} {x : Str} (h : ws[k]? = some x) : ws.getD k "" = x := by rw [List.getD_eq_getElem?_getD, h]; rfl
theorem at_getD {ws : List Str} {k : Nat} (h : k < ws.length) : ws[k]? = some (ws.getD k "") := by
  rw [List.getD_eq_getElem?_getD, List.getElem?_eq_getElem h]
  rfl
theorem take_drop_S (x : Str) (l : Nat) : takeS x l ++ dropS x l = x := ext_tl (by rw [tl_append, tl_takeS, tl_dropS, List.take_append_drop])
theorem inner_len {ws : List Str} {m l : Nat} (h : m ≤ ws.length) : (inner ws m l).length = m := by
  unfold inner
  rw [List.length_map, List.length_take]
  omega
theorem inner_at {ws : List Str} {m l r : Nat} (h : m ≤ ws.length) (hr : r < m) : (inner ws m l)[r]? = some (dropS (ws.getD r "") l) := by
  unfold inner
  rw [List.getElem?_map, List.getElem?_take_of_lt hr, at_getD (by omega)]
  rfl
theorem conf_cut {ws : List Str} {m : Nat} (h1 : 1 ≤ ws.length) (hm : 1 ≤ m) (h : ws.length % m = 0) : conf ws m = none ↔ ∃ l, l ≤ (ws.getD 0 "").length ∧ CutAt ws m l := by
  rw [conf_none h]
  have mn : m ≤ ws.length := Nat.le_of_dvd h1 (Nat.dvd_of_mod_eq_zero h)
  have hq : ws.length / m * m = ws.length := Nat.div_mul_cancel (Nat.dvd_of_mod_eq_zero h)
  constructor
  · intro z
    obtain ⟨l, l0, pre, blk⟩ := cut_of_steps (W := fun k => tl (ws.getD k "")) (m := m) (n := ws.length) hm fun k a b c => by
      have y : stp ws k = stp ws (k % m) := Classical.byContradiction fun n => z k a b ⟨c, n⟩
      unfold stp at y
      have y1 := congrArg Prod.fst y
      have y2 := congrArg Prod.snd y
      exact ⟨congrArg tl y1, congrArg tl y2⟩
    refine ⟨l, by rw [len_tl]; exact l0, fun x hx => ?_, ?_⟩
    · obtain ⟨r, hr, e⟩ := List.mem_iff_getElem?.mp hx |>.imp fun r e => And.intro (List.getElem?_eq_some_iff.mp e).1 e
      rw [List.length_take] at hr
      rw [List.getElem?_take_of_lt (by omega)] at e
      have p := (pre r (by omega)).1
      have p2 : takeS x l = takeS (ws.getD 0 "") l := ext_tl (by
        rw [tl_takeS, tl_takeS, ← getD_at e]
        exact p)
      rw [← p2]
      have := PySem.W.KT.starts_app (takeS x l) (dropS x l)
      rw [take_drop_S] at this
      exact this
    · have ch : ∀ q, q < ws.length / m → ∃ f : Str, ∀ r, r < m → ws.getD (q * m + r) "" = f ++ dropS (ws.getD r "") l := fun q hq2 => by
        obtain ⟨f, hf⟩ := blk q (by rw [← hq]; exact Nat.mul_le_mul_right _ hq2)
        obtain ⟨x, hx⟩ := str_of f
        refine ⟨x, fun r hr => ext_tl ?_⟩
        rw [tl_append, hx, tl_dropS]
        exact hf r hr
      have il := inner_len (l := l) mn
      cases e : rquo ws (inner ws m l) with
      | some q => rfl
      | none =>
        exfalso
        let fs : Nat → Str := fun q => if hq2 : q < ws.length / m then Classical.choose (ch q hq2) else ""
        have hfs : ∀ q r, q < ws.length / m → r < m → ws.getD (q * m + r) "" = fs q ++ dropS (ws.getD r "") l := fun q r a b => by
          have := Classical.choose_spec (ch q a) r b
          show _ = (if hq2 : q < ws.length / m then Classical.choose (ch q hq2) else "") ++ _
          rw [dif_pos a]
          exact this
        have ad : addRow ((List.range (ws.length / m)).map fs) (inner ws m l) = ws := addRow_eq (by rw [List.length_map, List.length_range, il, hq]) fun i x hx t y hy => by
          rw [List.getElem?_map] at hx
          obtain ⟨j, hj, rfl⟩ := Option.map_eq_some_iff.mp hx
          have hi : i < ws.length / m := by
            have := (List.getElem?_eq_some_iff.mp hj).1
            rw [List.length_range] at this
            exact this
          rw [List.getElem?_range hi] at hj
          cases hj
          have ht : t < m := by
            have := (List.getElem?_eq_some_iff.mp hy).1
            omega
          rw [inner_at mn ht] at hy
          cases hy
          rw [il, ← hfs i t hi ht]
          refine at_getD ?_
          calc i * m + t < i * m + m := by omega
            _ = (i + 1) * m := (Nat.succ_mul i m).symm
            _ ≤ ws.length / m * m := Nat.mul_le_mul_right _ hi
            _ = ws.length := hq
        have := rquo_app (q := (List.range (ws.length / m)).map fs) (vs := inner ws m l) (by omega)
        rw [ad, e] at this
        cases this
  · rintro ⟨l, _, _, hc⟩ k hk1 hk2 ⟨b1, b2⟩
    obtain ⟨q, hq2⟩ := Option.isSome_iff_exists.mp hc
    have ad := rquo_some hq2
    have il := inner_len (l := l) mn
    refine b2 ?_
    have ql : q.length * m = ws.length := by rw [← ad, addRow_len, inner_len mn]
    have W := steps_of_cut (W := fun k => tl (ws.getD k "")) (m := m) (n := ws.length) (f := fun i => tl (q.getD i "")) (b := fun r => tl (dropS (ws.getD r "") l)) hm (fun i r hr hn => by
      have hi : i < q.length := by
        refine Classical.byContradiction fun c => ?_
        have : q.length * m ≤ i * m := Nat.mul_le_mul_right _ (by omega)
        omega
      have g := addRow_get (at_getD hi) (inner_at (l := l) mn hr)
      rw [ad, il] at g
      show tl (ws.getD (i * m + r) "") = _
      rw [getD_at g, tl_append]) hk2 hk1 b1
    unfold stp
    exact Prod.ext (ext_tl W.1) (ext_tl W.2)
/-- a product of two rows is cut between them -/
theorem conf_app {q vs : List Str} (hq : 1 ≤ q.length) (hv : 1 ≤ vs.length) : conf (addRow q vs) vs.length = none := by
  have hl : (addRow q vs).length % vs.length = 0 := by rw [addRow_len]; exact Nat.mul_mod_left _ _
  rw [conf_none hl]
  rintro k hk1 hk2 ⟨b1, b2⟩
  refine b2 ?_
  have W := steps_of_cut (W := fun k => tl ((addRow q vs).getD k "")) (m := vs.length) (n := (addRow q vs).length) (f := fun i => tl (q.getD i "")) (b := fun r => tl (vs.getD r "")) hv (fun i r hr hn => by
    have hi : i < q.length := by
      refine Classical.byContradiction fun c => ?_
      have : q.length * vs.length ≤ i * vs.length := Nat.mul_le_mul_right _ (by omega)
      rw [addRow_len] at hn
      omega
    have g := addRow_get (at_getD hi) (at_getD hr)
    show tl ((addRow q vs).getD (i * vs.length + r) "") = _
    rw [getD_at g, tl_append]) hk2 hk1 b1
  unfold stp
  exact Prod.ext (ext_tl W.1) (ext_tl W.2)
/-- the first of two places with the same rest and other steps is found by the place of the rest -/
theorem bad_of {ws : List Str} {m at_ spot : Nat} (hm : 1 ≤ m) (h1 : 1 ≤ spot) (h2 : spot < at_) (e : at_ % m = spot % m) (n0 : at_ % m ≠ 0) (d : stp ws at_ ≠ stp ws spot) (before : ∀ j, m < j → j < at_ → ¬ Bad ws m j) : m < at_ ∧ Bad ws m at_ := by
  have le : spot % m ≤ spot := Nat.mod_le _ _
  have eq : stp ws spot = stp ws (spot % m) := by
    by_cases c : spot < m
    · rw [Nat.mod_eq_of_lt c]
    · have c2 : spot ≠ m := fun z => n0 (by rw [e, z, Nat.mod_self])
      have := before spot (by omega) h2
      refine Classical.byContradiction fun z => this ⟨by omega, z⟩
  have hlt : m < at_ := by
    refine Classical.byContradiction fun c => ?_
    have c : at_ ≤ m := by omega
    by_cases c2 : at_ = m
    · exact n0 (by rw [c2, Nat.mod_self])
    · rw [Nat.mod_eq_of_lt (by omega), Nat.mod_eq_of_lt (by omega)] at e
      omega
  exact ⟨hlt, by omega, by rw [e, ← eq]; exact d⟩
def cutB (ws : List Str) (m l : Nat) : Option (List Str × List Str) := if ((ws.take m).filter fun x => !Txt.startswith x (takeS (ws.getD 0 "") l)) = [] then (rquo ws (inner ws m l)).map fun o => (o, inner ws m l) else none
def cutsL (ws : List Str) (m : Nat) : List (List Str × List Str) := if ws.length % m ≠ 0 then [] else (List.range ((ws.getD 0 "").length + 1)).filterMap (cutB ws m)
theorem cutB_is {ws : List Str} {m l : Nat} : (cutB ws m l).isSome = true ↔ CutAt ws m l := by
  unfold cutB CutAt
  have e : ((ws.take m).filter fun x => !Txt.startswith x (takeS (ws.getD 0 "") l)) = [] ↔ ∀ x ∈ ws.take m, Txt.startswith x (takeS (ws.getD 0 "") l) = true := by
    rw [List.filter_eq_nil_iff]
    simp
  by_cases c : ((ws.take m).filter fun x => !Txt.startswith x (takeS (ws.getD 0 "") l)) = []
  · rw [if_pos c, Option.isSome_map]
    exact ⟨fun h => ⟨e.mp c, h⟩, fun h => h.2⟩
  · rw [if_neg c]
    exact ⟨fun h => (by cases h), fun h => absurd (e.mpr h.1) c⟩
theorem cuts_none {ws : List Str} {m : Nat} (h1 : 1 ≤ ws.length) (hm : 1 ≤ m) : conf ws m = none ↔ cutsL ws m ≠ [] := by
  by_cases h : ws.length % m = 0
  · rw [conf_cut h1 hm h]
    unfold cutsL
    rw [if_neg (by simp [h])]
    constructor
    · rintro ⟨l, hl, c⟩ e
      rw [List.filterMap_eq_nil_iff] at e
      have := e l (List.mem_range.mpr (by omega))
      rw [← cutB_is, this] at c
      cases c
    · intro e
      obtain ⟨p, hp⟩ := List.exists_mem_of_ne_nil _ e
      obtain ⟨l, hl, c⟩ := List.mem_filterMap.mp hp
      exact ⟨l, by have := List.mem_range.mp hl; omega, cutB_is.mp (by rw [c]; rfl)⟩
  · unfold conf cutsL
    rw [if_pos h, if_pos h]
    exact ⟨fun h => (by cases h), fun h => absurd rfl h⟩
end Pm
/-! The right sizes of a product of rows of single letters, and lists in order: no program. -/
namespace Pm
open PySem PySem.Spec PyProof.Rows L2 TL Bl Dl
/-- the row's right sizes -/
def rsz (ws : List Str) : List Nat := ((List.range ws.length).map (· + 1)).filter fun m => decide (conf ws m = none)
/-- strictly up, with the same members: the same list -/
theorem up_ext : ∀ {xs ys : List Nat}, xs.Pairwise (· < ·) → ys.Pairwise (· < ·) → (∀ a, a ∈ xs ↔ a ∈ ys) → xs = ys
  | [], [], _, _, _ => rfl
  | [], y :: ys, _, _, h => absurd ((h y).mpr List.mem_cons_self) List.not_mem_nil
  | x :: xs, [], _, _, h => absurd ((h x).mp List.mem_cons_self) List.not_mem_nil
  | x :: xs, y :: ys, h1, h2, h => by
    obtain ⟨a1, a2⟩ := List.pairwise_cons.mp h1
    obtain ⟨b1, b2⟩ := List.pairwise_cons.mp h2
    have e : x = y := by
      rcases List.mem_cons.mp ((h x).mp List.mem_cons_self) with g | g
      · exact g
      · rcases List.mem_cons.mp ((h y).mpr List.mem_cons_self) with f | f
        · exact f.symm
        · have := a1 y f
          have := b1 x g
          omega
    subst e
    rw [up_ext a2 b2 fun a => ⟨fun m => ?_, fun m => ?_⟩]
    · rcases List.mem_cons.mp ((h a).mp (List.mem_cons_of_mem _ m)) with g | g
      · have := a1 a m
        omega
      · exact g
    · rcases List.mem_cons.mp ((h a).mpr (List.mem_cons_of_mem _ m)) with g | g
      · have := b1 a m
        omega
      · exact g
theorem rsz_up (ws : List Str) : (rsz ws).Pairwise (· < ·) := by
  unfold rsz
  refine List.Pairwise.filter _ ?_
  rw [List.pairwise_map]
  exact List.pairwise_lt_range.imp fun h => by omega
theorem mem_rsz {ws : List Str} {m : Nat} : m ∈ rsz ws ↔ (1 ≤ m ∧ m ≤ ws.length) ∧ conf ws m = none := by
  unfold rsz
  rw [List.mem_filter, decide_eq_true_iff]
  refine and_congr ⟨fun h => ?_, fun h => ?_⟩ Iff.rfl
  · obtain ⟨k, hk, rfl⟩ := List.mem_map.mp h
    have := List.mem_range.mp hk
    exact ⟨by omega, by omega⟩
  · exact List.mem_map.mpr ⟨m - 1, List.mem_range.mpr (by omega), by omega⟩
/-- the sizes of the products of a product's last rows -/
def tails : List (List Str) → List Nat
  | [] => [1]
  | r :: S => tails S ++ [cnt (r :: S)]
/-- rows of different single letters -/
structure LetR (rs : List (List Str)) : Prop where
  two : ∀ r ∈ rs, 2 ≤ r.length
  one : ∀ r ∈ rs, ∀ x ∈ r, x.length = 1
  dif : ∀ r ∈ rs, ∀ i j, i < r.length → j < r.length → r.getD i "" = r.getD j "" → i = j
theorem LetR.tl {r : List Str} {S : List (List Str)} (h : LetR (r :: S)) : LetR S := ⟨fun q hq => h.two q (List.mem_cons_of_mem _ hq), fun q hq => h.one q (List.mem_cons_of_mem _ hq), fun q hq => h.dif q (List.mem_cons_of_mem _ hq)⟩
theorem LetR.pos {rs : List (List Str)} (h : LetR rs) : 0 < cnt rs := Bl.cnt_pos fun r hr => by have := h.two r hr; omega
theorem tails_le : ∀ {rs : List (List Str)}, LetR rs → ∀ m ∈ tails rs, m ≤ cnt rs
  | [], _, m, hm => by
    rcases List.mem_cons.mp hm with e | e
    · exact Nat.le_of_eq e
    · cases e
  | r :: S, h, m, hm => by
    rcases List.mem_append.mp hm with g | g
    · have a := tails_le h.tl m g
      have := h.two r List.mem_cons_self
      rw [cnt_cons]
      exact Nat.le_trans a (Nat.le_mul_of_pos_right _ (by omega))
    · rw [List.mem_singleton] at g
      exact Nat.le_of_eq g
theorem tails_pos : ∀ {rs : List (List Str)}, LetR rs → ∀ m ∈ tails rs, 1 ≤ m
  | [], _, m, hm => by
    rcases List.mem_cons.mp hm with e | e
    · omega
    · cases e
  | r :: S, h, m, hm => by
    rcases List.mem_append.mp hm with g | g
    · exact tails_pos h.tl m g
    · rw [List.mem_singleton] at g
      rw [g]
      exact h.pos
theorem tails_up : ∀ {rs : List (List Str)}, LetR rs → (tails rs).Pairwise (· < ·)
  | [], _ => by simp [tails]
  | r :: S, h => by
    unfold tails
    rw [List.pairwise_append]
    refine ⟨tails_up h.tl, by simp, fun a ha b hb => ?_⟩
    rw [List.mem_singleton] at hb
    subst hb
    have a1 := tails_le h.tl a ha
    have r2 := h.two r List.mem_cons_self
    have p := h.tl.pos
    rw [cnt_cons]
    calc a ≤ cnt S := a1
      _ < cnt S * 2 := by omega
      _ ≤ cnt S * r.length := Nat.mul_le_mul_left _ r2
theorem word_len : ∀ {rs : List (List Str)}, LetR rs → ∀ x ∈ prodW rs, x.length = rs.length
  | [], _, x, hx => by
    have hx : x ∈ ([""] : List Str) := hx
    rw [List.mem_singleton] at hx
    subst hx
    decide +kernel
  | r :: S, h, x, hx => by
    rw [prodW_cons] at hx
    unfold addRow at hx
    obtain ⟨a, ha, hx⟩ := List.mem_flatMap.mp hx
    obtain ⟨b, hb, rfl⟩ := List.mem_map.mp hx
    rw [len_app, h.one r List.mem_cons_self a ha, word_len h.tl b hb, List.length_cons]
    omega
section
variable {r : List Str} {S : List (List Str)}
theorem word_at {q t : Nat} (hq : q < r.length) (ht : t < cnt S) : (prodW (r :: S)).getD (q * cnt S + t) "" = r.getD q "" ++ (prodW S).getD t "" := by
  rw [prodW_cons]
  have hl : (prodW S).length = cnt S := cnt_prodW S
  have z := add_getD (r := r) (W := prodW S) hq (by rw [hl]; exact ht)
  rw [hl] at z
  exact z
theorem stp_low {q t : Nat} (hq : q < r.length) (h0 : 0 < t) (ht : t < cnt S) : stp (prodW (r :: S)) (q * cnt S + t) = stp (prodW S) t := by
  unfold stp
  rw [show q * cnt S + t - 1 = q * cnt S + (t - 1) from by omega, word_at hq ht, word_at hq (by omega)]
  exact Prod.ext (rest_app _ _ _).1 (rest_app _ _ _).2
theorem stp_short {k : Nat} (h : LetR S) (hk : k < cnt S) : (stp (prodW S) k).1.length ≤ S.length := by
  have hl : (prodW S).length = cnt S := cnt_prodW S
  have g : (prodW S).getD (k - 1) "" ∈ prodW S := getD_mem (by omega)
  have := word_len h _ g
  unfold stp
  show (dropS _ _).length ≤ _
  exact Nat.le_trans (Bl.len_drop _ _) (by omega)
theorem one_tl {x : Str} (h : x.length = 1) : ∃ c, tl x = [c] := by
  rw [len_tl] at h
  exact List.length_eq_one_iff.mp h
theorem stp_high (h : LetR (r :: S)) {q : Nat} (h1 : 1 ≤ q) (hq : q < r.length) : (stp (prodW (r :: S)) (q * cnt S)).1 = r.getD (q - 1) "" ++ (prodW S).getD (cnt S - 1) "" := by
  have p := h.tl.pos
  have e1 : q * cnt S - 1 = (q - 1) * cnt S + (cnt S - 1) := by
    have : q * cnt S = (q - 1) * cnt S + cnt S := by
      conv => lhs; rw [show q = q - 1 + 1 from by omega]
      exact Nat.succ_mul _ _
    omega
  have w1 := word_at (r := r) (S := S) (q := q - 1) (t := cnt S - 1) (by omega) (by omega)
  have w2 := word_at (r := r) (S := S) (q := q) (t := 0) hq p
  rw [Nat.add_zero] at w2
  unfold stp
  rw [e1, w1, w2]
  show dropS _ (common _ _) = _
  have c : common (r.getD (q - 1) "" ++ (prodW S).getD (cnt S - 1) "") (r.getD q "" ++ (prodW S).getD 0 "") = 0 := by
    unfold common
    rw [tl_append, tl_append]
    obtain ⟨a, ha⟩ := one_tl (h.one r List.mem_cons_self (r.getD (q - 1) "") (getD_mem (by omega)))
    obtain ⟨b, hb⟩ := one_tl (h.one r List.mem_cons_self (r.getD q "") (getD_mem hq))
    rw [ha, hb]
    show lcp (a :: _) (b :: _) = 0
    rw [lcp_cons, if_neg]
    intro z
    have := h.dif r List.mem_cons_self (q - 1) q (by omega) hq (ext_tl (by rw [ha, hb, z]))
    omega
  rw [c, dropS_zero]
theorem high_len (h : LetR (r :: S)) {q : Nat} (h1 : 1 ≤ q) (hq : q < r.length) : (stp (prodW (r :: S)) (q * cnt S)).1.length = S.length + 1 := by
  rw [stp_high h h1 hq, len_app, h.one r List.mem_cons_self _ (getD_mem (by omega)), word_len h.tl _ (getD_mem (by rw [cnt_prodW]; have := h.tl.pos; omega))]
  omega
/-- a step that is no carry of the first row is short -/
theorem low_len (h : LetR (r :: S)) {k : Nat} (hk : k < cnt (r :: S)) (n : k % cnt S ≠ 0) : (stp (prodW (r :: S)) k).1.length ≤ S.length := by
  have p := h.tl.pos
  have e : k = k / cnt S * cnt S + k % cnt S := by rw [Nat.mul_comm]; exact (Nat.div_add_mod k _).symm
  have ml := Nat.mod_lt k p
  have hq : k / cnt S < r.length := by
    rw [Nat.div_lt_iff_lt_mul p, Nat.mul_comm]
    rw [cnt_cons] at hk
    exact hk
  rw [e, stp_low hq (by omega) ml]
  exact stp_short h.tl ml
end
/-- the right sizes of such a product -/
theorem tails_of : ∀ {rs : List (List Str)}, LetR rs → ∀ {m : Nat}, 1 ≤ m → cnt rs % m = 0 → (∀ k, m < k → k < cnt rs → 0 < k % m → stp (prodW rs) k = stp (prodW rs) (k % m)) → m ∈ tails rs
  | [], _, m, h1, hd, _ => by
    have e : cnt ([] : List (List Str)) = 1 := rfl
    rw [e] at hd
    have : m = 1 := by
      have := Nat.le_of_dvd (by decide) (Nat.dvd_of_mod_eq_zero hd)
      omega
    subst this
    exact List.mem_cons_self
  | r :: S, h, m, h1, hd, hs => by
    have p := h.tl.pos
    have r2 := h.two r List.mem_cons_self
    have en : cnt (r :: S) = cnt S * r.length := cnt_cons r S
    have npos : 0 < cnt (r :: S) := h.pos
    have mn : m ≤ cnt (r :: S) := Nat.le_of_dvd npos (Nat.dvd_of_mod_eq_zero hd)
    have Nn : cnt S * 2 ≤ cnt (r :: S) := by rw [en]; exact Nat.mul_le_mul_left _ r2
    unfold tails
    rw [List.mem_append, List.mem_singleton]
    by_cases c1 : m < cnt S
    · have dv : cnt S % m = 0 := by
        refine Classical.byContradiction fun z => ?_
        have e := hs (cnt S) c1 (by omega) (by omega)
        have a := high_len h (q := 1) (by decide) (by omega)
        rw [Nat.one_mul] at a
        have ml := Nat.mod_lt (cnt S) h1
        have b := low_len h (k := cnt S % m) (by omega) (by rw [Nat.mod_eq_of_lt (by omega)]; exact z)
        rw [← e, a] at b
        omega
      refine .inl (tails_of h.tl h1 dv fun k a b c => ?_)
      have ml := Nat.mod_lt k h1
      have e := hs k a (by omega) c
      have l1 := stp_low (r := r) (S := S) (q := 0) (t := k) (by omega) (by omega) b
      have l2 := stp_low (r := r) (S := S) (q := 0) (t := k % m) (by omega) c (by omega)
      rw [Nat.zero_mul, Nat.zero_add] at l1 l2
      rw [← l1, ← l2]
      exact e
    by_cases c2 : m = cnt S
    · refine .inl ?_
      have z : ∀ {S : List (List Str)}, cnt S ∈ tails S := fun {S} => by
        cases S with
        | nil => exact List.mem_cons_self
        | cons a b => exact List.mem_append_right _ List.mem_cons_self
      rw [c2]
      exact z
    by_cases c3 : m = cnt (r :: S)
    · exact .inr c3
    exfalso
    have m2 : 2 * m ≤ cnt (r :: S) := by
      obtain ⟨d, hd2⟩ := Nat.dvd_of_mod_eq_zero hd
      have : 2 ≤ d := by
        refine Classical.byContradiction fun z => ?_
        have : d = 0 ∨ d = 1 := by omega
        rcases this with e | e
        · rw [e, Nat.mul_zero] at hd2
          omega
        · rw [e, Nat.mul_one] at hd2
          omega
      rw [hd2, Nat.mul_comm 2 m]
      exact Nat.mul_le_mul_left _ this
    have km : (m + cnt S) % m = cnt S := by rw [Nat.add_mod_left, Nat.mod_eq_of_lt (by omega)]
    have e := hs (m + cnt S) (by omega) (by omega) (by rw [km]; exact p)
    rw [km] at e
    have a := high_len h (q := 1) (by decide) (by omega)
    rw [Nat.one_mul] at a
    by_cases c4 : m % cnt S = 0
    · obtain ⟨c, hc⟩ := Nat.dvd_of_mod_eq_zero c4
      have hcm : m = c * cnt S := by rw [hc, Nat.mul_comm]
      have e2 : m + cnt S = (c + 1) * cnt S := by rw [Nat.succ_mul, hcm]
      have c2' : 2 ≤ c := by
        refine Classical.byContradiction fun z => ?_
        have : c = 0 ∨ c = 1 := by omega
        rcases this with e | e
        · rw [e, Nat.zero_mul] at hcm
          omega
        · rw [e, Nat.one_mul] at hcm
          omega
      have hcr : c + 1 < r.length := by
        refine Classical.byContradiction fun z => ?_
        have : cnt S * r.length ≤ cnt S * (c + 1) := Nat.mul_le_mul_left _ (by omega)
        rw [Nat.mul_comm (cnt S) (c + 1), ← e2, ← en] at this
        omega
      have f1 := stp_high h (q := c + 1) (by omega) hcr
      have f2 := stp_high h (q := 1) (by decide) (by omega)
      rw [← e2, e] at f1
      rw [Nat.one_mul] at f2
      rw [f2] at f1
      have g := congrArg tl f1
      rw [tl_append, tl_append] at g
      obtain ⟨x, hx⟩ := one_tl (h.one r List.mem_cons_self (r.getD (1 - 1) "") (getD_mem (by omega)))
      obtain ⟨y, hy⟩ := one_tl (h.one r List.mem_cons_self (r.getD (c + 1 - 1) "") (getD_mem (by omega)))
      rw [hx, hy] at g
      have xy : x = y := by
        have g : x :: tl ((prodW S).getD (cnt S - 1) "") = y :: tl ((prodW S).getD (cnt S - 1) "") := g
        exact (List.cons.inj g).1
      have := h.dif r List.mem_cons_self (1 - 1) (c + 1 - 1) (by omega) (by omega) (ext_tl (by rw [hx, hy, xy]))
      omega
    · have b := low_len h (k := m + cnt S) (by omega) (by rw [Nat.add_mod_right]; exact c4)
      rw [e, a] at b
      omega
theorem tails_right : ∀ (F S : List (List Str)), LetR (F ++ S) → ∀ m ∈ tails S, conf (prodW (F ++ S)) m = none
  | F, [], h, m, hm => by
    have : m = 1 := by
      rcases List.mem_cons.mp hm with e | e
      · exact e
      · cases e
    subst this
    rw [conf_none (Nat.mod_one _)]
    rintro k _ _ ⟨z, _⟩
    rw [Nat.mod_one] at z
    omega
  | F, r :: S, h, m, hm => by
    rcases List.mem_append.mp hm with g | g
    · have e : F ++ r :: S = (F ++ [r]) ++ S := by simp
      rw [e] at h ⊢
      exact tails_right (F ++ [r]) S h m g
    · rw [List.mem_singleton] at g
      subst g
      rw [prodW_app]
      have pos : ∀ T : List (List Str), (∀ q ∈ T, q ∈ F ++ r :: S) → 1 ≤ (prodW T).length := fun T hT => by
        rw [cnt_prodW]
        exact Bl.cnt_pos fun q hq => by have := h.two q (hT q hq); omega
      have z := conf_app (pos F fun q hq => List.mem_append_left _ hq) (pos (r :: S) fun q hq => List.mem_append_right _ hq)
      rw [cnt_prodW] at z
      exact z
theorem rsz_tails {rs : List (List Str)} (h : LetR rs) : rsz (prodW rs) = tails rs := by
  refine up_ext (rsz_up _) (tails_up h) fun m => ?_
  rw [mem_rsz, cnt_prodW]
  constructor
  · rintro ⟨⟨h1, h2⟩, hc⟩
    have hd : (prodW rs).length % m = 0 := by
      refine Classical.byContradiction fun z => ?_
      unfold conf at hc
      rw [if_pos z] at hc
      cases hc
    rw [conf_none hd, cnt_prodW] at hc
    rw [cnt_prodW] at hd
    exact tails_of h h1 hd fun k a b c => Classical.byContradiction fun z => hc k a b ⟨c, z⟩
  · intro hm
    exact ⟨⟨tails_pos h m hm, tails_le h m hm⟩, tails_right [] rs h m hm⟩
end Pm
/-! A slot's own dict, its keys ints or texts. -/
namespace Dl
open PySem PySem.Spec PyProof.Rows L2 TL Bl
def keyP : PyData → Option Key
  | .int i => some (.inl i)
  | .str x => some (.inr x)
  | _ => none
def findD (kvs : List (Key × PyData)) (k : Key) : Option PyData := (kvs.find? fun kv => decide (kv.1 = k)).map (·.2)
def putD (kvs : List (Key × PyData)) (k : Key) (d : PyData) : List (Key × PyData) :=
  if (kvs.any fun kv => decide (kv.1 = k)) = true then kvs.map fun kv => if kv.1 = k then (kv.1, d) else kv else kvs ++ [(k, d)]
section
variable {K : PySem.W.Frag} {H : Hp}
theorem Rp.key {v : V} {y : PyData} {k : Key} (r : Rp K H v y) (h : keyP y = some k) : v = kV k := by
  cases r with
  | int i => cases h; rfl
  | str x => cases h; rfl
  | _ => cases h
theorem RpD.len : ∀ {ws : List (Key × V)} {kvs : List (Key × PyData)}, RpD K H ws kvs → ws.length = kvs.length
  | _, _, .nil => rfl
  | _, _, .cons _ q => by rw [List.length_cons, List.length_cons, RpD.len q]
theorem RpD.any (k : Key) : ∀ {ws : List (Key × V)} {kvs : List (Key × PyData)}, RpD K H ws kvs → (ws.any fun kv => decide (kv.1 = k)) = kvs.any fun kv => decide (kv.1 = k)
  | _, _, .nil => rfl
  | _, _, .cons _ q => by rw [List.any_cons, List.any_cons, RpD.any k q]
theorem RpD.find (k : Key) : ∀ {ws : List (Key × V)} {kvs : List (Key × PyData)}, RpD K H ws kvs → (valV ws k = none ∧ findD kvs k = none) ∨ ∃ v d, valV ws k = some v ∧ findD kvs k = some d ∧ Rp K H v d
  | _, _, .nil => .inl ⟨rfl, rfl⟩
  | _, _, .cons (k := j) (v := v) (d := d) r q => by
    unfold valV findD
    by_cases e : j = k
    · exact .inr ⟨v, d, by simp [List.find?, e], by simp [List.find?, e], r⟩
    · rcases RpD.find k q with ⟨a, b⟩ | ⟨v', d', a, b, c⟩
      · exact .inl ⟨by simp only [List.find?, e, decide_false]; exact a, by simp only [List.find?, e, decide_false]; exact b⟩
      · exact .inr ⟨v', d', by simp only [List.find?, e, decide_false]; exact a, by simp only [List.find?, e, decide_false]; exact b, c⟩
theorem RpD.repl {v : V} {d : PyData} (k : Key) (r : Rp K H v d) : ∀ {ws : List (Key × V)} {kvs : List (Key × PyData)}, RpD K H ws kvs → RpD K H (ws.map fun kv => if kv.1 = k then (kv.1, v) else kv) (kvs.map fun kv => if kv.1 = k then (kv.1, d) else kv)
  | _, _, .nil => .nil
  | _, _, .cons (k := j) h q => by
    rw [List.map_cons, List.map_cons]
    by_cases e : j = k
    · simp only [e, if_true]
      exact .cons r (RpD.repl k r q)
    · simp only [e, if_false]
      exact .cons h (RpD.repl k r q)
theorem RpD.snoc {v : V} {d : PyData} (k : Key) (r : Rp K H v d) : ∀ {ws : List (Key × V)} {kvs : List (Key × PyData)}, RpD K H ws kvs → RpD K H (ws ++ [(k, v)]) (kvs ++ [(k, d)])
  | _, _, .nil => .cons r .nil
  | _, _, .cons h q => .cons h (RpD.snoc k r q)
theorem RpD.put {v : V} {d : PyData} (k : Key) (r : Rp K H v d) {ws : List (Key × V)} {kvs : List (Key × PyData)} (q : RpD K H ws kvs) : RpD K H (putK ws k v) (putD kvs k d) := by
  unfold putK putD
  rw [q.any k]
  split
  · exact q.repl k r
  · exact q.snoc k r
end
/-- what a dict tells of a key, after a store -/
theorem findD_put (kvs : List (Key × PyData)) (k j : Key) (d : PyData) : findD (putD kvs k d) j = if j = k then some d else findD kvs j := by
  unfold putD
  split
  · rename_i h
    induction kvs with
    | nil => simp at h
    | cons kv r ih =>
      obtain ⟨k0, d0⟩ := kv
      by_cases e : k0 = k
      · subst e
        by_cases g : j = k0
        · subst g
          simp [findD, List.find?]
        · rw [if_neg g]
          unfold findD
          simp only [List.map_cons, if_true, List.find?, Ne.symm g, decide_false]
          clear ih h
          induction r with
          | nil => rfl
          | cons kv r ih =>
            by_cases e2 : kv.1 = k0
            · simp only [List.map_cons, e2, if_true, List.find?, Ne.symm g, decide_false]
              exact ih
            · by_cases e3 : kv.1 = j
              · simp [List.map_cons, e2, List.find?, e3, g]
              · simp only [List.map_cons, e2, if_false, List.find?, e3, decide_false]
                exact ih
      · have h : (r.any fun kv => decide (kv.1 = k)) = true := by simpa [List.any_cons, e] using h
        have ih := ih h
        unfold findD at ih ⊢
        by_cases g : k0 = j
        · subst g
          simp [List.find?, e]
        · simp only [List.map_cons, e, if_false, List.find?, g, decide_false]
          exact ih
  · rename_i h0
    have h : ∀ kv ∈ kvs, kv.1 ≠ k := fun kv m e => h0 (by rw [List.any_eq_true]; exact ⟨kv, m, decide_eq_true e⟩)
    clear h0
    induction kvs with
    | nil =>
      unfold findD
      by_cases g : j = k
      · subst g; simp [List.find?]
      · rw [if_neg g]; simp [List.find?, Ne.symm g]
    | cons kv r ih =>
      have ih := ih fun q m => h q (List.mem_cons_of_mem _ m)
      have n := h kv List.mem_cons_self
      unfold findD at ih ⊢
      by_cases g : kv.1 = j
      · subst g
        simp [List.find?, n]
      · simp only [List.cons_append, List.find?, g, decide_false]
        exact ih
theorem putD_len (kvs : List (Key × PyData)) (k : Key) (d : PyData) : (putD kvs k d).length ≤ kvs.length + 1 := by
  unfold putD
  split
  · rw [List.length_map]; omega
  · rw [List.length_append]; exact Nat.le_refl _
section
variable {X : Cx} {e : Expr} {te tv : DTE} {pos : Pos}
/-- {} -/
def dkD : DTK := fun Γ Q => ∀ p, Q (.dic p []) Γ
theorem dk_dic : DK X (.Dict [] [] pos) dkD := by
  refine ⟨pe_of pe_dnewK ?_⟩
  rintro σ H Q ⟨Γ, Hf, Q0, A, h, k⟩ p hp
  have nf : Hf p = none := A.sub.free hp
  have no1 : ¬ Own Γ σ p := fun z => by
    obtain ⟨_, ws, w⟩ := A.noOwn z
    rw [hp] at w
    cases w
  have S := (Stp.refl A).poke (u := .dK []) hp nf no1
  exact k (.dic p []) Γ (.ref p) Hf _ (h p) S ⟨⟨[], rfl, upd_same, nf, .nil⟩, fun q m => by
    rcases List.mem_cons.mp m with e | e
    · subst e
      exact ⟨hp, no1⟩
    · cases e⟩
def dic' (Γ : DE0) (i : Nat) (k : Addr → List (Key × PyData) → Prop) : Prop := match at' Γ i with
  | some (.dic q kvs) => k q kvs
  | _ => False
theorem dic'_eq {Γ : DE0} {i : Nat} {k : Addr → List (Key × PyData) → Prop} (h : dic' Γ i k) : ∃ q kvs, at' Γ i = some (.dic q kvs) ∧ k q kvs := by
  unfold dic' at h
  split at h
  · rename_i q ys e
    exact ⟨q, ys, e, h⟩
  · exact h.elim
def isDic (Γ : DE0) (i : Nat) : Bool := match at' Γ i with
  | some (.dic _ _) => true
  | _ => false
theorem isDic_eq {Γ : DE0} {i : Nat} (h : isDic Γ i = true) : ∃ q kvs, at' Γ i = some (.dic q kvs) := by
  unfold isDic at h
  split at h
  · rename_i q ys e
    exact ⟨q, ys, e⟩
  · cases h
def keyQ (y : PyData) (Q : Key → Prop) : Prop := match keyP y with
  | some k => Q k
  | none => False
theorem keyQ_eq {y : PyData} {Q : Key → Prop} (h : keyQ y Q) : ∃ k, keyP y = some k ∧ Q k := by
  unfold keyQ at h
  split at h
  · rename_i k e
    exact ⟨k, e, h⟩
  · exact h.elim
/-- k in d, k not in d -/
def dInD (i : Nat) (te : DTE) : DTT := fun Γ Q => te Γ fun y Γ1 => keyQ y fun k => dic' Γ1 i fun _ kvs => Q (findD kvs k).isSome Γ1
def dNotInD (i : Nat) (te : DTE) : DTT := fun Γ Q => te Γ fun y Γ1 => keyQ y fun k => dic' Γ1 i fun _ kvs => Q (!(findD kvs k).isSome) Γ1
theorem at_dic {K : PySem.W.Frag} {Γ : DE0} {σ : L2.St} {Hf H : Hp} (A : Abs K Γ σ Hf H) {i : Nat} {q : Addr} {kvs : List (Key × PyData)} (h : at' Γ i = some (.dic q kvs)) : ∃ ws, σ[i]? = some (some (V.ref q)) ∧ H q = some (.dK ws) ∧ Hf q = none ∧ RpD K Hf ws kvs := by
  obtain ⟨v, e, vs, rfl, h1, h2, h3⟩ := A.at_ i _ (at'_eq h)
  exact ⟨vs, e, h1, h2, h3⟩
theorem dt_inD (hu : X.A.units + 1 < cLine) (i : Nat) {y : Str} {np : Pos} (he : DE X e te) (hN : X.N[i]? = some y := by rfl) (hv : Vis X.env.scope y := by first | exact Or.inl rfl | exact Or.inr (Or.inl rfl) | exact Or.inr (Or.inr rfl)) (hd : (y == ("__debug__" : Str)) = false := by decide)
    (hcd : (y == ("__classdict__" : Str)) = false := by decide) (hm : behindInMarks .In (.Name y np) = false := by first | exact nomark _ | rfl) : DT X (.Compare e [.In] [.Name y np] pos) (dInD i te) := by
  refine ⟨pt_of (pt_cmp (pc_din hu he.run (pe_var hN hv hd hcd)) hm) ?_⟩
  rintro σ H Q ⟨Γ, Hf, Q0, A, h, k⟩
  refine ⟨Γ, Hf, _, A, h, fun d Γ1 v Hf1 H1 hq S r => ?_⟩
  obtain ⟨key, ek, hq⟩ := keyQ_eq hq
  obtain ⟨q, kvs, e1, hq⟩ := dic'_eq hq
  obtain ⟨ws, eq, hp, np2, rd⟩ := at_dic S.abs e1
  cases r.key ek
  refine ⟨.ref q, eq, q, _, rfl, DGet.k hp, (valV ws key).isSome, rfl, ?_⟩
  rcases rd.find key with ⟨a, b⟩ | ⟨_, _, a, b, _⟩ <;> (rw [a]; rw [b] at hq; exact k _ Γ1 Hf1 H1 hq S)
theorem dt_notInD (hu : X.A.units + 1 < cLine) (i : Nat) {y : Str} {np : Pos} (he : DE X e te) (hN : X.N[i]? = some y := by rfl) (hv : Vis X.env.scope y := by first | exact Or.inl rfl | exact Or.inr (Or.inl rfl) | exact Or.inr (Or.inr rfl)) (hd : (y == ("__debug__" : Str)) = false := by decide)
    (hcd : (y == ("__classdict__" : Str)) = false := by decide) (hm : behindInMarks .NotIn (.Name y np) = false := by first | exact nomark _ | rfl) : DT X (.Compare e [.NotIn] [.Name y np] pos) (dNotInD i te) := by
  refine ⟨pt_of (pt_cmp (pc_dnotin hu he.run (pe_var hN hv hd hcd)) hm) ?_⟩
  rintro σ H Q ⟨Γ, Hf, Q0, A, h, k⟩
  refine ⟨Γ, Hf, _, A, h, fun d Γ1 v Hf1 H1 hq S r => ?_⟩
  obtain ⟨key, ek, hq⟩ := keyQ_eq hq
  obtain ⟨q, kvs, e1, hq⟩ := dic'_eq hq
  obtain ⟨ws, eq, hp, np2, rd⟩ := at_dic S.abs e1
  cases r.key ek
  refine ⟨.ref q, eq, q, _, rfl, DGet.k hp, !(valV ws key).isSome, rfl, ?_⟩
  rcases rd.find key with ⟨a, b⟩ | ⟨_, _, a, b, _⟩ <;> (rw [a]; rw [b] at hq; exact k _ Γ1 Hf1 H1 hq S)
/-- d[k] -/
def dGetD (i : Nat) (te : DTE) : DTE := fun Γ Q => isDic Γ i = true ∧ te Γ fun y Γ1 => keyQ y fun k => dic' Γ1 i fun _ kvs => ∃ d, findD kvs k = some d ∧ Q d Γ1
theorem de_getD (hu : X.A.units + 1 < cLine) (i : Nat) {y : Str} {np : Pos} (he : DE X e te) (hn : NoSl e := by intro _ _; rfl) (hN : X.N[i]? = some y := by rfl) (hv : Vis X.env.scope y := by first | exact Or.inl rfl | exact Or.inr (Or.inl rfl) | exact Or.inr (Or.inr rfl)) (hd : (y == ("__debug__" : Str)) = false := by decide)
    (hcd : (y == ("__classdict__" : Str)) = false := by decide) : DE X (.Subscript (.Name y np) e pos) (dGetD i te) := by
  refine ⟨pe_of (pe_dget hu (pe_var hN hv hd hcd) he.run hn) ?_⟩
  rintro σ H Q ⟨Γ, Hf, Q0, A, ⟨h0, h⟩, k⟩
  obtain ⟨q0, kv0, e0⟩ := isDic_eq h0
  obtain ⟨_, eq0, _⟩ := at_dic A e0
  refine ⟨.ref q0, eq0, Γ, Hf, _, A, h, fun d Γ1 v Hf1 H1 hq S r => ?_⟩
  obtain ⟨key, ek, hq⟩ := keyQ_eq hq
  obtain ⟨q, kvs, e1, z, ez, hq⟩ := dic'_eq hq
  obtain ⟨ws, eq, hp, np2, rd⟩ := at_dic S.abs e1
  rw [eq0] at eq
  cases eq
  cases r.key ek
  rcases rd.find key with ⟨a, b⟩ | ⟨u, d2, a, b, c⟩
  · rw [b] at ez
    cases ez
  · rw [b] at ez
    cases ez
    exact ⟨q0, u, rfl, by rw [← a]; exact DGet.k hp, k _ Γ1 u Hf1 H1 hq S c⟩
/-- d[k] = v -/
def dPutD (i : Nat) (tv te : DTE) : DTS := fun D Γ => tv Γ fun d Γ1 => isDic Γ1 i = true ∧ te Γ1 fun y Γ2 => keyQ y fun k => dic' Γ2 i fun q kvs => kvs.length < sizeLine ∧ D.nx (Γ2.set i (some (.dic q (putD kvs k d))))
theorem ds_putD (hu : X.A.units + 1 < cLine) (i : Nat) {y : Str} {np spos : Pos} {value : Expr} (hv2 : DE X value tv) (he : DE X e te) (hN : X.N[i]? = some y := by rfl) (hv : Vis X.env.scope y := by first | exact Or.inl rfl | exact Or.inr (Or.inl rfl) | exact Or.inr (Or.inr rfl)) (hd : (y == ("__debug__" : Str)) = false := by decide)
    (hcd : (y == ("__classdict__" : Str)) = false := by decide) (hs : swapsWith value (some (.Subscript (.Name y np) e spos)) pos.line X.env = pure false := by rfl) : DS X (.Assign [.Subscript (.Name y np) e spos] value pos) (dPutD i tv te) := by
  refine ⟨ps_of (ps_dput hu (pe_var hN hv hd hcd) he.run hv2.run hs) ?_⟩
  rintro D σ H ⟨Γ, Hf, D0, A, h, kn, kr, kb, kc⟩
  refine ⟨Γ, Hf, _, A, h, fun d Γ1 v Hf1 H1 ⟨h0, hq⟩ S r => ?_⟩
  obtain ⟨q0, kv0, e0⟩ := isDic_eq h0
  obtain ⟨_, eq0, _⟩ := at_dic S.abs e0
  refine ⟨.ref q0, eq0, Γ1, Hf1, _, S.abs, hq, fun z Γ2 u Hf2 H2 hq2 S2 r2 => ?_⟩
  obtain ⟨key, ek, hq⟩ := keyQ_eq hq2
  obtain ⟨q, kvs, e1, hl, hq⟩ := dic'_eq hq
  obtain ⟨ws, eq, hp, np2, rd⟩ := at_dic S2.abs e1
  rw [eq0] at eq
  cases eq
  cases r2.key ek
  refine ⟨q0, _, rfl, DPut.k hp (by rw [rd.len]; exact hl), kn _ σ Hf2 _ hq ?_⟩
  refine (S.trans S2).trans (S2.abs.storeC e1 rfl (fun b o n g => ?_) (Same.refl _) (fun b o hb => ?_) (fun w ⟨_, e, _⟩ => ⟨_, e, upd_same, np2, rd.put key (r.mono S2.same)⟩) (fun b hb => .inl hb) fun b m => ?_)
  · rw [upd_ne (fun z => n (by subst z; exact List.mem_cons_self))]
    exact g
  · rw [upd_ne (fun z => by subst z; rw [np2] at hb; cases hb)]
    exact S2.abs.sub b o hb
  · rcases List.mem_cons.mp m with e | e
    · subst e
      rw [upd_same]
      simp
    · cases e
end
end Dl
namespace Dl
open PySem PySem.Spec PyProof.Rows L2 TL Bl
section
variable {X : Cx} {a b : Expr} {ta tb : DTE} {pos p p2 pos2 : Pos}
/-- list(range(a, b)) -/
def dLRg (ta tb : DTE) : DTE := fun Γ Q => ta Γ fun x Γ1 => tb Γ1 fun y Γ2 => match x, y with
  | .int i, .int j => (-(2 ^ 62) ≤ i ∧ i < 2 ^ 62 ∧ -(2 ^ 62) ≤ j ∧ j < 2 ^ 62 ∧ (j - i).toNat ≤ 2 ^ 24) ∧ Q (.list (rngD i (j - i).toNat)) Γ2
  | _, _ => False
theorem rp_rng {K : PySem.W.Frag} {H : Hp} (i : Int) : ∀ l : List Nat, RpAll K H (l.map fun (k : Nat) => V.int (i + (k : Int))) (l.map fun (k : Nat) => PyData.int (i + (k : Int)))
  | [] => .nil
  | k :: l => .cons (.int _) (rp_rng i l)
theorem de_listRg2 (hc : X.calm = true) (hl : Gl X "list") (ml : X.mg "list" = none) (hg : Gl X "range") (hm : X.mg "range" = none) (ha : DE X a ta) (hb : DE X b tb)
    (h1 : starEach [a, b] X.env = (false, eval a X.env) :: starEach [b] X.env := by rfl) (h2 : starEach [b] X.env = (false, eval b X.env) :: starEach [] X.env := by rfl) (h3 : ((backTo pos2 (starEach [b] X.env)).any fun x => x.fst) = false := by rfl)
    (h4 : starEach [.Call (.Name "range" p2) [a, b] [] pos2] X.env = (false, eval (.Call (.Name "range" p2) [a, b] [] pos2) X.env) :: starEach [] X.env := by rfl) :
    DE X (.Call (.Name "list" p) [.Call (.Name "range" p2) [a, b] [] pos2] [] pos) (dLRg ta tb) := by
  refine ⟨pe_of (pe_listRg hc hl ml (prg_2 hg hm ha.run hb.run h1 h2 h3) h4) ?_⟩
  rintro σ H Q ⟨Γ, Hf, Q0, A, h, k⟩
  refine ⟨Γ, Hf, _, A, h, fun x Γ1 v Hf1 H1 hx S1 r1 => ?_⟩
  refine ⟨Γ1, Hf1, _, S1.abs, hx, fun y Γ2 u Hf2 H2 hy S2 r2 => ?_⟩
  cases r1 with
  | int i =>
    cases r2 with
    | int j =>
      obtain ⟨hr, hq⟩ := hy
      refine ⟨i, j, rfl, rfl, hr, fun q nq => ?_⟩
      exact k _ Γ2 _ _ _ hq ((S1.trans S2).trans (S2.abs.stp (Ext.new S2.abs.sub nq))) (.lst upd_same (rp_rng i _))
    | _ => exact hy.elim
  | _ => exact hy.elim
end
theorem u1 {k : Nat} {A : Around} (r : Room k A) : A.units + 1 < cLine := by have := r.un; omega
end Dl
/-! New own lists by keyword; an own list of own lists: made, lent, its first list changed. -/
namespace Dl
open PySem PySem.Spec PyProof.Rows L2 TL Bl
section
variable (P : Program) (w : World) (K : PySem.W.Frag) (mg : Str → Option Value) (base : Heap)
structure FNK (x : Str) (ks : List Str) (ix : List Nat) (k n : Nat) (t : GNL) : Prop where
  ex : ∃ f fd ps, FnOk P w K mg base CX0 k f fd ps (spN n t K) ∧ mg x = some (.ref f) ∧ PySem.W.keepIn K (.ref f) = true ∧ KBinds K fd ps ks (gP ix) (gP ix)
end
section
variable {X : Cx} {e : Expr} {es : List Expr} {pos p : Pos} {x : Str} {k n : Nat} {tf : GNL} {t : DTA} {kws : List Keyword}
def dFnNK (ix : List Nat) (n : Nat) (tf : GNL) (t : DTA) : DTA := fun Γ Q => t Γ fun ds Γ1 => (pmL ix ds).length = n ∧ tf (pmL ix ds) fun zs => Q zs Γ1
theorem dl_fnNK {ks : List Str} {ix : List Nat} (F : FNK X.prog X.w X.K X.mg X.base x ks ix k n tf) (hr : Room k X.A) (hg : Gl X x) (hx : ∀ E, Passes CX0 X E) (hkw : DKw X kws t)
    (hall : (backToKw pos (keywordEach kws X.env)).all (·.1.isSome) = true := by rfl) (hks : (backToKw pos (keywordEach kws X.env)).filterMap (·.1) = ks := by rfl) (hdb : (x == ("__debug__" : Str)) = false := by decide)
    (hpl : ((backTo pos (starEach [] X.env)).any (·.1) || (backToKw pos (keywordEach kws X.env)).any (·.1.isNone)) = false := by rfl) : DL X (.Call (.Name x p) [] kws pos) (dFnNK ix n tf t) := by
  obtain ⟨f, fd, ps, O, m, kp, b⟩ := F.ex
  refine ⟨pe_of (pe_callK0 O hr hg m kp b (hx E0) hkw.run hall hks hdb hpl) ?_⟩
  rintro σ H Q ⟨Γ, Hf, Q0, A, h, kk⟩
  refine ⟨Γ, Hf, _, A, h, fun ds Γ1 vs Hf1 H1 hq S r => ?_⟩
  show spN n tf X.K (pmL ix vs) H1 Q E0
  refine ⟨by rw [(r.pm ix).len]; exact hq.1, Hf1, _, _, S.abs.sub, r.pm ix, hq.2, fun zs q us Hf2 H2 hz N => ?_⟩
  obtain ⟨S2, no⟩ := N.stp S.abs
  exact kk zs Γ1 q us Hf2 H2 hz (S.trans S2) (S.there q N.new) N.at_ N.nf no N.rp
theorem FN.kw {P : Program} {w : World} {K : PySem.W.Frag} {mg : Str → Option Value} {base : Heap} {x : Str} {st : Stmt} {ps ks : List Str} {ix : List Nat} {t : GNL} {f : Addr} {fd : FuncData} (F : Fun K x x st f fd) (m : mg x = some (.ref f)) (O : FnOk P w K mg base CX0 k f fd ps (spN n t K)) (hp : ps.length ≠ 0)
    (h : ∀ (kV doc pm : Value) (an : Option Addr) (cdv ct : Value) (ws : List Value), (pmL ix ws).length = ps.length → bindArgs (PySem.W.fnOf x x (defArgs st) (defBody st) (defScope st) .none kV doc pm an cdv ct) ⟨[], ks.zip ws⟩ = pure (ps.zip (pmL ix ws))) : FNK P w K mg base x ks ix k n t := by
  obtain ⟨oc, od, kV, doc, pm, an, cdv, ct, osl, rfl, lk, hcd⟩ := id F.ex
  exact ⟨f, _, ps, O, m, F.kp, kb_of hp (h kV doc pm an cdv ct)⟩
/-! ### an own list of two own lists -/
variable {a b : Expr} {t1 t2 : DTA}
def dkN2 (t1 t2 : DTA) : DTK := fun Γ Q => t1 Γ fun xs Γ1 => t2 Γ1 fun ys Γ2 => 2 ≤ sizeLine ∧ ∀ p q1 q2, Q (.nst p [(q1, xs), (q2, ys)]) Γ2
theorem dk_nst2 (ha : DL X a t1) (hb : DL X b t2) (hsa : starEach [a, b] X.env = (false, eval a X.env) :: starEach [b] X.env := by rfl) (hsb : starEach [b] X.env = (false, eval b X.env) :: starEach [] X.env := by rfl) : DK X (.List [a, b] pos) (dkN2 t1 t2) := by
  refine ⟨pe_of (pe_lst (pa_cons ha.run (pa_cons hb.run pa_nil hsb) hsa)) ?_⟩
  rintro σ H Q ⟨Γ, Hf, Q0, A, h, k⟩
  refine ⟨Γ, Hf, _, A, h, fun xs Γ1 q1 vs Hf1 H1 hq S1 n1 a1 f1 o1 r1 => ?_⟩
  refine ⟨Γ1, Hf1, _, S1.abs, hq, fun ys Γ2 q2 us Hf2 H2 hq2 S2 n2 a2 f2 o2 r2 => ?_⟩
  refine ⟨hq2.1, fun p hp => ?_⟩
  obtain ⟨b1, b2, b3⟩ := S2.apart a1 f1 o1
  have S := S1.trans S2
  have nf : Hf2 p = none := S2.abs.sub.free hp
  have nop : ¬ Own Γ2 σ p := fun z => by
    obtain ⟨_, o, g⟩ := S2.abs.noOwn z
    rw [hp] at g
    cases g
  have S3 : Stp X.K Γ σ Hf H Γ2 σ Hf2 (upd H2 p (.lst [V.ref q1, V.ref q2])) := S.poke (S.there p hp) nf nop
  have e1 : q1 ≠ p := fun z => by subst z; rw [hp] at b1; cases b1
  have e2 : q2 ≠ p := fun z => by subst z; rw [hp] at a2; cases a2
  have e12 : q1 ≠ q2 := fun z => by subst z; rw [n2] at a1; cases a1
  refine k (.nst p [(q1, xs), (q2, ys)]) Γ2 (.ref p) Hf2 _ (hq2.2 p q1 q2) S3 ⟨⟨rfl, upd_same, nf, .cons (by rw [upd_ne e1]; exact b1) b2 (r1.mono S2.same) (.cons (by rw [upd_ne e2]; exact a2) f2 r2 .nil), by simp [e1.symm, e2.symm, e12]⟩, fun q m => ?_⟩
  have m : q = p ∨ q = q1 ∨ q = q2 := by simpa [Cell.adrs] using m
  rcases m with rfl | rfl | rfl
  · exact ⟨S.there q hp, nop⟩
  · exact ⟨n1, b3⟩
  · exact ⟨S1.there q n2, o2⟩
/-! ### lent: read as data, and own again behind -/
/-- own lists of ints, data, the script -/
def flatCl : Option Cell → Prop
  | some (.own _ xs) => ∃ is : List Int, xs = is.map .int
  | some (.dic _ _) => False
  | some (.nst _ _) => False
  | _ => True
def flatO : Nat → DE0 → Prop
  | _, [] => True
  | 0, _ :: r => ∀ c ∈ r, flatCl c
  | i + 1, c :: r => flatCl c ∧ flatO i r
theorem flatO_at : ∀ {i : Nat} {Γ : DE0}, flatO i Γ → ∀ {j : Nat} {c : Option Cell}, i ≠ j → Γ[j]? = some c → flatCl c
  | _, [], _, j, c, _, h => by cases h
  | 0, x :: r, h, 0, c, n, _ => absurd rfl n
  | 0, x :: r, h, j + 1, c, _, e => h c (List.mem_of_getElem? (by simpa using e))
  | i + 1, x :: r, h, 0, c, _, e => by
    have e : some x = some c := e
    cases e
    exact h.1
  | i + 1, x :: r, h, j + 1, c, n, e => flatO_at (i := i) (Γ := r) h.2 (j := j) (fun z => n (by rw [z])) (by simpa using e)
def nstD (ls : List (Addr × List PyData)) : PyData := .list (ls.map fun l => .list l.2)
def dBor (i : Nat) (t : DTE) : DTE := fun Γ Q => match at' Γ i with
  | some (.nst _ ls) => flatO i Γ ∧ t (Γ.set i (some (.d (nstD ls)))) fun d Γ' => Γ' = Γ.set i (some (.d (nstD ls))) ∧ (∃ b, d = .bool b) ∧ Q d Γ
  | _ => False
/-- the objects of own lists, frozen -/
theorem ns_freeze {K : PySem.W.Frag} {Hf H : Hp} : ∀ {ls : List (Addr × List PyData)}, NsAt K Hf H ls → (ls.map (·.1)).Nodup → ∃ Hf', Same Hf Hf' ∧ (∀ b o, Hf' b = some o → Hf b = some o ∨ (b ∈ ls.map (·.1) ∧ H b = some o)) ∧ RpAll K Hf' (ls.map fun l => V.ref l.1) (ls.map fun l => .list l.2) ∧ ∀ b ∈ ls.map (·.1), Hf' b = H b
  | [], _, _ => ⟨Hf, Same.refl _, fun _ _ h => .inl h, .nil, fun _ h => by cases h⟩
  | (q, ys) :: ls, .cons (vs := vs) h1 h2 h3 h4, nd => by
    obtain ⟨n1, n2⟩ := List.nodup_cons.mp nd
    obtain ⟨Hf', S, k, r, e⟩ := ns_freeze h4 n2
    have nq : Hf' q = none := by
      cases c : Hf' q with
      | none => rfl
      | some o =>
        rcases k q o c with z | z
        · rw [h2] at z; cases z
        · exact absurd z.1 n1
    have T : Same Hf' (upd Hf' q (.lst vs)) := same_new nq
    refine ⟨upd Hf' q (.lst vs), S.trans T, fun b o z => ?_, .cons (.lst upd_same ((h3.mono S).mono T)) (r.mono T), fun b m => ?_⟩
    · by_cases c : b = q
      · subst c
        rw [upd_same] at z
        exact .inr ⟨List.mem_cons_self, by rw [h1]; exact z⟩
      · rw [upd_ne c] at z
        rcases k b o z with y | y
        · exact .inl y
        · exact .inr ⟨List.mem_cons_of_mem _ y.1, y.2⟩
    · by_cases c : b = q
      · subst c
        rw [upd_same, h1]
      · rw [upd_ne c]
        rcases List.mem_cons.mp m with z | z
        · exact absurd z c
        · exact e b z
theorem de_bor (i : Nat) {te : DTE} (he : DE X e te) : DE X e (dBor i te) := by
  refine ⟨pe_of he.run ?_⟩
  rintro σ H Q ⟨Γ, Hf, Q0, A, h, k⟩
  unfold dBor at h
  split at h
  case h_2 => exact h.elim
  rename_i p ls e0
  obtain ⟨fl, h⟩ := h
  have e1 := at'_eq e0
  obtain ⟨v, ev, rfl, hp, np, hn, nd⟩ := A.at_ i _ e1
  obtain ⟨n1, n2⟩ := List.nodup_cons.mp nd
  obtain ⟨Hf', S, kf, r, ef⟩ := ns_freeze hn n2
  have nq : Hf' p = none := by
    cases c : Hf' p with
    | none => rfl
    | some o =>
      rcases kf p o c with z | z
      · rw [np] at z; cases z
      · exact absurd z.1 n1
  have T : Same Hf' (upd Hf' p (.lst (ls.map fun l => V.ref l.1))) := same_new nq
  have ST := S.trans T
  have hi : i < Γ.length := (List.getElem?_eq_some_iff.mp e1).1
  have other : ∀ (j : Nat) (q : Addr) (c : Cell), (Γ.set i (some (Cell.d (nstD ls))))[j]? = some (some c) → q ∈ c.adrs → i ≠ j ∧ Γ[j]? = some (some c) := fun j q c z0 m => by
    by_cases z : i = j
    · subst z
      rw [List.getElem?_set_self hi] at z0
      cases z0
      cases m
    · rw [List.getElem?_set_ne z] at z0
      exact ⟨z, z0⟩
  have A1 : Abs X.K (Γ.set i (some (.d (nstD ls)))) σ (upd Hf' p (.lst (ls.map fun l => V.ref l.1))) H := by
    refine ⟨fun b o z => ?_, by simp [A.len], fun j c z => ?_, fun j l c e b g1 g2 m1 m2 => ?_⟩
    · by_cases c : b = p
      · subst c
        rw [upd_same] at z
        rw [hp]
        exact z
      · rw [upd_ne c] at z
        rcases kf b o z with y | y
        · exact A.sub b o y
        · exact y.2
    · by_cases y : i = j
      · subst y
        rw [List.getElem?_set_self hi] at z
        cases z
        exact ⟨.ref p, ev, .lst upd_same (r.mono T)⟩
      · rw [List.getElem?_set_ne y] at z
        obtain ⟨v, q1, q2⟩ := A.at_ j c z
        refine ⟨v, q1, q2.mono ST fun b m o g => ⟨g, fun g2 => ?_⟩⟩
        have nb : b ∉ (Cell.nst p ls).adrs := fun z2 => y (A.sep i j _ _ b e1 z z2 m)
        have b1 : b ≠ p := fun z2 => nb (by rw [z2]; exact List.mem_cons_self)
        rw [upd_ne b1]
        cases c2 : Hf' b with
        | none => rfl
        | some o2 =>
          rcases kf b o2 c2 with y2 | y2
          · rw [g2] at y2; cases y2
          · exact absurd (List.mem_cons_of_mem _ y2.1) nb
    · exact A.sep j l c e b (other j b c g1 m1).2 (other l b e g2 m2).2 m1 m2
  refine ⟨_, _, _, A1, h, fun d Γ' v2 Hf2 H2 hq S2 r2 => ?_⟩
  obtain ⟨eΓ, ⟨bb, rfl⟩, hq⟩ := hq
  subst eΓ
  cases r2
  have sub2 : Same Hf H2 := fun b o z => S2.abs.sub b o (S2.same b o (ST b o z))
  have frz : ∀ b ∈ (Cell.nst p ls).adrs, H2 b = H b := fun b m => by
    rcases List.mem_cons.mp m with z | z
    · subst z
      rw [hp]
      exact S2.abs.sub b _ (S2.same b _ upd_same)
    · have g := ef b z
      obtain ⟨⟨vs, hv⟩, _⟩ := hn.get z
      rw [hv] at g
      rw [hv]
      exact S2.abs.sub b _ (S2.same b _ (T b _ g))
  refine k (.bool bb) Γ (.bl bb) Hf H2 hq ⟨⟨sub2, A.len, fun j c z => ?_, A.sep⟩, Same.refl _, fun b o z n => ?_, fun b z => .inl z, fun b z => .inl z, S2.there⟩ (.bl bb)
  · obtain ⟨v, q1, q2⟩ := A.at_ j c z
    refine ⟨v, q1, ?_⟩
    by_cases y : i = j
    · subst y
      rw [e1] at z
      cases z
      exact q2.mono (Same.refl _) fun b m o g => ⟨by rw [frz b m]; exact g, id⟩
    · have fc := flatO_at fl y z
      cases c with
      | d x => exact q2
      | scr ns =>
        obtain ⟨a, rfl, g⟩ := q2
        exact ⟨a, rfl, g⟩
      | dic q kvs => exact fc.elim
      | nst q l => exact fc.elim
      | own q xs =>
        obtain ⟨is, rfl⟩ := fc
        obtain ⟨vs0, rfl, g1, g2, g3⟩ := q2
        obtain ⟨v', u1, u2⟩ := S2.abs.at_ j (.own q (is.map .int)) (by rw [List.getElem?_set_ne y]; exact z)
        rw [q1] at u1
        cases u1
        obtain ⟨ws, e, w1, w2, w3⟩ := u2
        cases e
        have : ws = vs0 := by rw [w3.ints, g3.ints]
        subst this
        exact ⟨ws, rfl, w1, g2, g3⟩
  · refine S2.fr b o z fun z2 => ?_
    obtain ⟨j, c, g1, m⟩ := z2
    exact n ⟨j, c, (other j b c g1 m).2, m⟩
/-! ### the first of the lists is changed -/
def dN0 (i : Nat) (f : List PyData → Prop → Prop) (g : List PyData → List PyData) : DTS := fun D Γ => match at' Γ i with
  | some (.nst p ((q, ys) :: r)) => f ys (D.nx (Γ.set i (some (.nst p ((q, g ys) :: r)))))
  | _ => False
variable {c : Int} {j : Nat} {y : Str} {np ip sp apos cpos : Pos} {c2 : Int} {j2 : Nat} {ip2 : Pos}
theorem pe_first (i : Nat) (hN : X.N[i]? = some y) (hv : Vis X.env.scope y) (hd : (y == ("__debug__" : Str)) = false) (hcd : (y == ("__classdict__" : Str)) = false) (hs : PlainIx (.Constant (.int 0) j ip)) :
    PE X (.Subscript (.Name y np) (.Constant (.int 0) j ip) sp) (fun σ H Q => ∃ p q qs, σ[i]? = some (some (V.ref p)) ∧ H p = some (.lst (.ref q :: qs)) ∧ Q (.ref q) H) := by
  refine pe_of (pe_ix ix_list (pe_var hN hv hd hcd) pe_int hs) ?_
  rintro σ H Q ⟨p, q, qs, e, hp, k⟩
  exact ⟨.ref p, e, p, _, 0, .ref q, rfl, rfl, SqL.of hp, atI_nat (j := 0) rfl, k⟩
theorem ns_set {K : PySem.W.Frag} {Γ : DE0} {σ : L2.St} {Hf H : Hp} (A : Abs K Γ σ Hf H) {i : Nat} {p q : Addr} {ys zs : List PyData} {r : List (Addr × List PyData)} (e0 : at' Γ i = some (.nst p ((q, ys) :: r))) {us : List V} (hz : RpAll K Hf us zs) : Stp K Γ σ Hf H (Γ.set i (some (.nst p ((q, zs) :: r)))) σ Hf (upd H q (.lst us)) := by
  obtain ⟨v, ev, hh⟩ := A.at_ i _ (at'_eq e0)
  obtain ⟨rfl, hp, np, hn, nd⟩ := hh
  cases hn with
  | cons h1 h2 h3 h4 =>
    have nq : Hf q = none := h2
    refine A.storeC e0 rfl (fun b o n g => ?_) (Same.refl _) (fun b o hb => ?_) (fun w hw => ?_) (fun b hb => .inl hb) fun b m => ?_
    · rw [upd_ne (fun z => n (by rw [z]; exact List.mem_cons_of_mem _ List.mem_cons_self))]
      exact g
    · rw [upd_ne (fun z => by subst z; rw [nq] at hb; cases hb)]
      exact A.sub b o hb
    · obtain ⟨rfl, hp, np, hn, nd⟩ := hw
      have n1 := (List.nodup_cons.mp nd)
      have n2 := (List.nodup_cons.mp n1.2)
      have pq : p ≠ q := fun z => n1.1 (by rw [z]; exact List.mem_cons_self)
      refine ⟨rfl, by rw [upd_ne pq]; exact hp, np, .cons upd_same nq hz (h4.mono (Same.refl _) fun b m vs g => ?_), nd⟩
      have bq : b ≠ q := fun z => n2.1 (by rw [← z]; exact m)
      exact ⟨by rw [upd_ne bq]; exact g, (h4.get m).2⟩
    · by_cases z : b = q
      · subst z
        rw [upd_same]
        simp
      · rw [upd_ne z]
        obtain ⟨_, o, g, _⟩ := CAt.held (K := K) (Hf := Hf) (H := H) (v := .ref p) (c := .nst p ((q, ys) :: r)) ⟨rfl, hp, np, .cons h1 h2 h3 h4, nd⟩ m
        rw [g]
        simp
theorem ns_read {K : PySem.W.Frag} {Γ : DE0} {σ : L2.St} {Hf H : Hp} (A : Abs K Γ σ Hf H) {i : Nat} {p q : Addr} {ys : List PyData} {r : List (Addr × List PyData)} (e0 : at' Γ i = some (.nst p ((q, ys) :: r))) : ∃ us qs, σ[i]? = some (some (V.ref p)) ∧ H p = some (.lst (.ref q :: qs)) ∧ H q = some (.lst us) ∧ RpAll K Hf us ys := by
  obtain ⟨v, ev, rfl, hp, np, hn, nd⟩ := A.at_ i _ (at'_eq e0)
  cases hn with
  | cons h1 h2 h3 h4 => exact ⟨_, _, ev, hp, h1, h3⟩
/-- y[0].append(c) -/
theorem ds_n0app (i : Nat) (hN : X.N[i]? = some y := by rfl) (hv : Vis X.env.scope y := by first | exact Or.inl rfl | exact Or.inr (Or.inl rfl) | exact Or.inr (Or.inr rfl)) (hd : (y == ("__debug__" : Str)) = false := by decide) (hcd : (y == ("__classdict__" : Str)) = false := by decide) (hs : PlainIx (.Constant (.int 0) j ip) := by intro _ _; rfl)
    (hbase : attributeBase (.Subscript (.Name y np) (.Constant (.int 0) j ip) sp) "append" X.env (eval (.Subscript (.Name y np) (.Constant (.int 0) j ip) sp) X.env) = eval (.Subscript (.Name y np) (.Constant (.int 0) j ip) sp) X.env := by rfl)
    (hfew : ((backTo cpos (starEach [.Constant (.int c2) j2 ip2] X.env)).all (fun x => !x.1) && (backToKw cpos (keywordEach [] X.env)).all (fun x => x.1.isSome)
      && decide ([Expr.Constant (.int c2) j2 ip2].length + ([] : List Keyword).length + (if ([] : List Keyword).isEmpty then 0 else 1) < 30)) = true := by rfl)
    (hline : (apos.endLine == cpos.line) = true := by rfl) (hs2 : starEach [.Constant (.int c2) j2 ip2] X.env = (false, eval (.Constant (.int c2) j2 ip2) X.env) :: starEach [] X.env := by rfl) (hplain : (backTo cpos (starEach [] X.env)).any (·.1) = false := by rfl)
    (hsw : swapsWith (.Call (.Attribute (.Subscript (.Name y np) (.Constant (.int 0) j ip) sp) "append" apos) [.Constant (.int c2) j2 ip2] [] cpos) none pos.line X.env = pure false := by rfl) :
    DS X (.Expr (.Call (.Attribute (.Subscript (.Name y np) (.Constant (.int 0) j ip) sp) "append" apos) [.Constant (.int c2) j2 ip2] [] cpos) pos) (dN0 i (fun ys Q => ys.length < sizeLine ∧ Q) fun ys => ys ++ [.int c2]) := by
  refine ⟨ps_of (ps_expr (pe_bm PySem.F.plainAttrs_list PySem.F.slot_list_append PySem.F.type_list_append mt_append (pe_first i hN hv hd hcd hs) (pa_cons pe_int pa_nil hs2) hbase hfew hline hs2 hplain) hsw) ?_⟩
  rintro D σ H ⟨Γ, Hf, D0, A, h, kn, kr, kb, kc⟩
  unfold dN0 at h
  split at h
  case h_2 => exact h.elim
  rename_i p q ys r e0
  obtain ⟨us, qs, e, hp, hq, ru⟩ := ns_read A e0
  refine ⟨p, q, qs, e, hp, .inl ⟨rfl, us, SqL.of hq⟩, q, us, .int c2, rfl, rfl, hq, by rw [ru.len]; exact h.1, ?_⟩
  exact kn _ σ Hf _ h.2 (ns_set A e0 (ru.app (.cons (.int c2) .nil)))
/-- y[0].reverse() -/
theorem ds_n0rev (i : Nat) (hN : X.N[i]? = some y := by rfl) (hv : Vis X.env.scope y := by first | exact Or.inl rfl | exact Or.inr (Or.inl rfl) | exact Or.inr (Or.inr rfl)) (hd : (y == ("__debug__" : Str)) = false := by decide) (hcd : (y == ("__classdict__" : Str)) = false := by decide) (hs : PlainIx (.Constant (.int 0) j ip) := by intro _ _; rfl)
    (hbase : attributeBase (.Subscript (.Name y np) (.Constant (.int 0) j ip) sp) "reverse" X.env (eval (.Subscript (.Name y np) (.Constant (.int 0) j ip) sp) X.env) = eval (.Subscript (.Name y np) (.Constant (.int 0) j ip) sp) X.env := by rfl)
    (hline : (apos.endLine == cpos.line) = true := by rfl)
    (hsw : swapsWith (.Call (.Attribute (.Subscript (.Name y np) (.Constant (.int 0) j ip) sp) "reverse" apos) [] [] cpos) none pos.line X.env = pure false := by rfl) :
    DS X (.Expr (.Call (.Attribute (.Subscript (.Name y np) (.Constant (.int 0) j ip) sp) "reverse" apos) [] [] cpos) pos) (dN0 i (fun _ Q => Q) fun ys => ys.reverse) := by
  refine ⟨ps_of (ps_expr (pe_bm0 PySem.F.plainAttrs_list PySem.F.slot_list_reverse PySem.F.type_list_reverse mt_reverse (pe_first i hN hv hd hcd hs) hbase hline) hsw) ?_⟩
  rintro D σ H ⟨Γ, Hf, D0, A, h, kn, kr, kb, kc⟩
  unfold dN0 at h
  split at h
  case h_2 => exact h.elim
  rename_i p q ys r e0
  obtain ⟨us, qs, e, hp, hq, ru⟩ := ns_read A e0
  refine ⟨p, q, qs, e, hp, .inl ⟨rfl, us, SqL.of hq⟩, q, us, rfl, rfl, hq, ?_⟩
  exact kn _ σ Hf _ h (ns_set A e0 ru.rev)
end
end Dl
namespace C12
open PySem PySem.Spec PyProof.Rows L2 TL Bl Dl Pm
-- DLJ DLK
def top (i : Nat) : Stmt := PySem.Challenge.pw_braceloops_k12_right_sizes_by_all_cuts.main.body.getD i (.Pass ⟨0, 0, 0, 0⟩)
abbrev s_is_word : Stmt := top 6
theorem sc_is_word : FnScope ["value"] ["value"] (defScope s_is_word) := ⟨rfl, rfl, rfl, by decide +kernel, rfl, by decide +kernel, by decide +kernel⟩
abbrev s_is_row : Stmt := top 9
theorem sc_is_row : FnScope ["value", "word"] ["value"] (defScope s_is_row) := ⟨rfl, rfl, rfl, by decide +kernel, rfl, by decide +kernel, by decide +kernel⟩
abbrev s_is_product : Stmt := top 10
theorem sc_is_product : FnScope ["value", "row"] ["value"] (defScope s_is_product) := ⟨rfl, rfl, rfl, by decide +kernel, rfl, by decide +kernel, by decide +kernel⟩
abbrev s_check_row : Stmt := top 11
theorem sc_check_row : FnScope ["row"] ["row"] (defScope s_check_row) := ⟨rfl, rfl, rfl, by decide +kernel, rfl, by decide +kernel, by decide +kernel⟩
abbrev s_check_product : Stmt := top 12
theorem sc_check_product : FnScope ["product"] ["product"] (defScope s_check_product) := ⟨rfl, rfl, rfl, by decide +kernel, rfl, by decide +kernel, by decide +kernel⟩
abbrev s_size_of : Stmt := top 13
theorem sc_size_of : FnScope ["product", "size", "row"] ["product"] (defScope s_size_of) := ⟨rfl, rfl, rfl, by decide +kernel, rfl, by decide +kernel, by decide +kernel⟩
abbrev s_all_words : Stmt := top 14
theorem sc_all_words : FnScope ["product", "words", "row", "word", "other"] ["product"] (defScope s_all_words) := ⟨rfl, rfl, rfl, by decide +kernel, rfl, by decide +kernel, by decide +kernel⟩
abbrev s_written_out : Stmt := top 15
theorem sc_written_out : FnScope ["product"] ["product"] (defScope s_written_out) := ⟨rfl, rfl, rfl, by decide +kernel, rfl, by decide +kernel, by decide +kernel⟩
abbrev s_common_length : Stmt := top 17
theorem sc_common_length : FnScope ["word", "other", "least", "greatest", "middle"] ["word", "other"] (defScope s_common_length) := ⟨rfl, rfl, rfl, by decide +kernel, rfl, by decide +kernel, by decide +kernel⟩
abbrev s_step_between : Stmt := top 18
theorem sc_step_between : FnScope ["word", "other", "length"] ["word", "other"] (defScope s_step_between) := ⟨rfl, rfl, rfl, by decide +kernel, rfl, by decide +kernel, by decide +kernel⟩
abbrev s_steps_of : Stmt := top 19
theorem sc_steps_of : FnScope ["row", "last", "first", "steps", "place"] ["row", "last", "first"] (defScope s_steps_of) := ⟨rfl, rfl, rfl, by decide +kernel, rfl, by decide +kernel, by decide +kernel⟩
abbrev s_right_sizes : Stmt := top 21
theorem sc_right_sizes : FnScope ["row", "steps", "size"] ["row"] (defScope s_right_sizes) := ⟨rfl, rfl, rfl, by decide +kernel, rfl, by decide +kernel, by decide +kernel⟩
abbrev s_conflict : Stmt := top 22
theorem sc_conflict : FnScope ["steps", "size", "number", "first"] ["steps", "size"] (defScope s_conflict) := ⟨rfl, rfl, rfl, by decide +kernel, rfl, by decide +kernel, by decide +kernel⟩
abbrev s__law_cell_at : Stmt := top 24
theorem sc__law_cell_at : FnScope ["script", "k"] ["script", "k"] (defScope s__law_cell_at) := ⟨rfl, rfl, rfl, by decide +kernel, rfl, by decide +kernel, by decide +kernel⟩
abbrev s__law_same : Stmt := top 25
theorem sc__law_same : FnScope ["found", "due", "k"] ["found", "due"] (defScope s__law_same) := ⟨rfl, rfl, rfl, by decide +kernel, rfl, by decide +kernel, by decide +kernel⟩
abbrev s__law_bag : Stmt := top 26
theorem sc__law_bag : FnScope ["cell", "k"] ["cell", "k"] (defScope s__law_bag) := ⟨rfl, rfl, rfl, by decide +kernel, rfl, by decide +kernel, by decide +kernel⟩
abbrev s__law_take : Stmt := top 27
theorem sc__law_take : FnScope ["bag", "bound", "found", "mixed"] ["bag", "bound"] (defScope s__law_take) := ⟨rfl, rfl, rfl, by decide +kernel, rfl, by decide +kernel, by decide +kernel⟩
abbrev s__law_text : Stmt := top 28
theorem sc__law_text : FnScope ["bag", "most", "kinds", "turn"] ["bag", "most"] (defScope s__law_text) := ⟨rfl, rfl, rfl, by decide +kernel, rfl, by decide +kernel, by decide +kernel⟩
abbrev s__law_factor : Stmt := top 29
theorem sc__law_factor : FnScope ["bag", "many", "way", "count", "one", "two", "turn"] ["bag", "many"] (defScope s__law_factor) := ⟨rfl, rfl, rfl, by decide +kernel, rfl, by decide +kernel, by decide +kernel⟩
abbrev s__law_times : Stmt := top 30
theorem sc__law_times : FnScope ["first", "second", "found", "left", "right"] ["first", "second"] (defScope s__law_times) := ⟨rfl, rfl, rfl, by decide +kernel, rfl, by decide +kernel, by decide +kernel⟩
abbrev s__law_factors : Stmt := top 31
theorem sc__law_factors : FnScope ["bag", "most", "found", "whole", "turn", "some", "far_end", "one"] ["bag", "most"] (defScope s__law_factors) := ⟨rfl, rfl, rfl, by decide +kernel, rfl, by decide +kernel, by decide +kernel⟩
abbrev s__law_whole : Stmt := top 32
theorem sc__law_whole : FnScope ["factors", "found", "some"] ["factors"] (defScope s__law_whole) := ⟨rfl, rfl, rfl, by decide +kernel, rfl, by decide +kernel, by decide +kernel⟩
abbrev s__law_bent : Stmt := top 33
theorem sc__law_bent : FnScope ["bag", "line", "way", "at"] ["bag", "line"] (defScope s__law_bent) := ⟨rfl, rfl, rfl, by decide +kernel, rfl, by decide +kernel, by decide +kernel⟩
abbrev s__law_outer : Stmt := top 34
theorem sc__law_outer : FnScope ["line", "inner", "found", "at", "outer", "turn", "end"] ["line", "inner"] (defScope s__law_outer) := ⟨rfl, rfl, rfl, by decide +kernel, rfl, by decide +kernel, by decide +kernel⟩
abbrev s__law_cuts : Stmt := top 35
theorem sc__law_cuts : FnScope ["line", "many", "found", "spot", "start", "inner", "outer", "one"] ["line", "many"] (defScope s__law_cuts) := ⟨rfl, rfl, rfl, by decide +kernel, rfl, by decide +kernel, by decide +kernel⟩
abbrev s__law_due_sizes : Stmt := top 36
theorem sc__law_due_sizes : FnScope ["line", "many"] ["line"] (defScope s__law_due_sizes) := ⟨rfl, rfl, rfl, by decide +kernel, rfl, by decide +kernel, by decide +kernel⟩
abbrev s__law_right : Stmt := top 37
theorem sc__law_right : FnScope ["bag", "most", "line", "due", "told"] ["bag", "most"] (defScope s__law_right) := ⟨rfl, rfl, rfl, by decide +kernel, rfl, by decide +kernel, by decide +kernel⟩
abbrev s__law_big : Stmt := top 38
theorem sc__law_big : FnScope ["bag", "found", "many", "at", "turn", "count"] ["bag"] (defScope s__law_big) := ⟨rfl, rfl, rfl, by decide +kernel, rfl, by decide +kernel, by decide +kernel⟩
abbrev s__law_big_right : Stmt := top 39
theorem sc__law_big_right : FnScope ["bag", "factors", "due", "some"] ["bag"] (defScope s__law_big_right) := ⟨rfl, rfl, rfl, by decide +kernel, rfl, by decide +kernel, by decide +kernel⟩
abbrev s_law : Stmt := top 40
theorem sc_law : FnScope ["script", "k", "bag", "most", "rows", "due", "line"] ["script"] (defScope s_law) := ⟨rfl, rfl, rfl, by decide +kernel, rfl, by decide +kernel, by decide +kernel⟩
structure Names (mg : Str → Option Value) : Prop where
  ValueError : mg "ValueError" = none
  all : mg "all" = none
  bool : mg "bool" = none
  enumerate : mg "enumerate" = none
  isinstance : mg "isinstance" = none
  len : mg "len" = none
  list : mg "list" = none
  max : mg "max" = none
  min : mg "min" = none
  range : mg "range" = none
  str : mg "str" = none
  tuple : mg "tuple" = none
section
variable {P : Program} {w : World} {K : PySem.W.Frag} {mg : Str → Option Value} {base : Heap}
def t_is_word : GN := fun ds Q => ∃ x, ds = [.str x] ∧ Lets x ∧ Q (.bool true)
theorem d_is_word (a : At K mg "is_word" s_is_word ["value"]) (B : Names mg) : FD P w K mg base "is_word" 1 1 t_is_word := by
  obtain ⟨f, fd, F, m, b⟩ := a
  refine ⟨f, fd, _, ok_D F sc_is_word (by decide) (fun cdv A outer s H E hr => (dss_cons (ds_if (dt_not (dt_val (de_isi (T := "str") (by decide) (by rfl) B.isinstance (by rfl) B.str (by decide +kernel) (de_var 0)))) (dss_one (ds_ret de_bl)) dss_nil)
      (dss_one (ds_ret (de_or (de_cmp (op_eqDD hr.units) (de_var 0) de_str) (de_one (de_and (de_mth0 PySem.F.slot_str_isascii PySem.F.type_str_isascii mt_asciiD (de_var 0)) (de_and (de_mth0 PySem.F.slot_str_isalpha PySem.F.type_str_isalpha mt_alphaD (de_var 0)) (de_one (de_mth0 PySem.F.slot_str_islower PySem.F.type_str_islower mt_lowerD (de_var 0))))))))))
      ) (fun ds Q0 hl h => ?_), m, F.kp, b⟩
  obtain ⟨x, rfl, hx, q⟩ := h
  obtain ⟨t1, t2⟩ := word_tests hx
  simp only [dSeq, dCut, dSet, dkE, dkL, dVar, dVarK, at', startD, dC, dOp, dCmp, dVal, dTest, dNot, dAnd, dOr, dAndV, dOrV, dNotV, dIf, dNil, dCons, dTup, dLst, dFrz, dCall, dMth, isStr, dPart0, dPart, dSl, gSlice, dStep, dRevL, dNext, dNever, dRet, dDrop, dIfS, dPar, dPar3, dAsg, dFor, dWhile, dLc, dLc2, gN, gTupD, gNc, gN0, dYes, dSq, dSeqL, dSeqT, dSeqS, dRng1, dRng2, dRng3, dEnum, dEnumT, dZip, dFn, dFnM, dFnK, own', isOwn, dMut, gApp, gExt, dSto, dIxO, dLenO, dLenS, dIxS', dFnS, scr', isScr, dRetN, dSeqN, dFnN, dFnNS, dIsi, dIsi2, dNeg, gAdd, Dl.gSub, gMul, gDiv, gMod, gPow, gEq, gNe, gLt, gLe, gGt, gGe, gIs, gIsNot, isNone, gIx, gLen, gMax, gMin, gSum, gAll, gAbs, gInt, gTuple, gList, gListS, gStrI, gRepr, gJoin, gSw, gEw, gAscii, gAlpha, gLower, List.set, List.map, List.length_cons, List.length_nil, List.cons_append, List.nil_append, List.replicate, dWipe, Nat.reduceAdd, Nat.reduceSub, dChain, gInTup, dFnMN, dkD, dInD, dNotInD, dGetD, dPutD, dic', isDic, keyQ, keyP, dLRg, dkN2, dBor, nstD, dN0, dFnNK, flatO, flatCl, dSortS, gNeS, gIn, gNotIn, gIndex, isLstD, dMthL, gDivmod, sh_non, sh_bl, sh_int, nd_non, nd_bl, nd_int, nd_str, nd_lst, nd_tup, nds_nil, nds_cons, ev_int, ev_str, ev_bl, isi_str_non, isi_str_bl, isi_str_int, isi_str_str, isi_str_lst, isi_str_tup, isi_int_non, isi_int_bl, isi_int_int, isi_int_str, isi_int_lst, isi_int_tup, isi_bool_non, isi_bool_bl, isi_bool_int, isi_bool_str, isi_bool_lst, isi_bool_tup, isi_list_non, isi_list_bl, isi_list_int, isi_list_str, isi_list_lst, isi_list_tup, isi_tuple_non, isi_tuple_bl, isi_tuple_int, isi_tuple_str, isi_tuple_lst, isi_tuple_tup, Bool.not_true, Bool.not_false, Bool.true_or, Bool.false_or, Bool.or_false, Bool.or_true, Bool.true_and, Bool.false_and, Bool.and_true, Bool.and_false, Bool.false_eq_true, if_true, if_false, true_and, and_true, eq_self_iff_true, beq_self_eq_true, atI_0, atI_1, atI_2, atI_3, atI_4, atI_5, atI_6, atI_7, atI_8, atI_9, atI_10, atI_11, atI_12, atI_13, atI_14, ixN_3_0, ixN_3_1, ixN_3_2, Option.some.injEq, exists_eq_left', Int.reduceToNat, Int.reduceNeg, rowT]
  refine ⟨⟨sh_lets hx, by decide +kernel⟩, ?_⟩
  by_cases hz : x.length = 0
  · have : x = "" := by
      cases x with
      | mk cps =>
        have hz : cps.size = 0 := hz
        rw [Array.size_eq_zero_iff] at hz
        subst hz
        rfl
    rw [this]
    exact iteT q
  · rw [if_neg (fun z => hz (by rw [eq_of_beq z]; rfl)), if_pos t1, if_pos (t2 hz).1, (t2 hz).2]
    exact q
def t_is_row : GN := fun ds Q => ∃ ws, ds = [rowT ws] ∧ RowOk ws ∧ Q (.bool true)
theorem d_is_row (a : At K mg "is_row" s_is_row ["value"]) (B : Names mg) (h_is_word : FD P w K mg base "is_word" 1 1 t_is_word) : FD P w K mg base "is_row" 2 1 t_is_row := by
  obtain ⟨f, fd, F, m, b⟩ := a
  refine ⟨f, fd, _, ok_D F sc_is_row (by decide) (fun cdv A outer s H E hr => (dss_cons (ds_if (DW.pt (dw_or (dt_not (dt_val (de_isi (T := "tuple") (by decide) (by rfl) B.isinstance (by rfl) B.tuple (by decide +kernel) (de_var 0)))) (dw_or1 (dt_cmp (op_eqDD hr.units) (de_callB cr_lenD (by rfl) B.len (by decide +kernel) (da_cons (de_var 0) da_nil)) de_int)))) (dss_one (ds_ret de_bl)) dss_nil)
      (dss_one (ds_ret (de_callB (cr_allD rfl) (by rfl) B.all (by decide +kernel) (da_cons (de_frz (dl_lc (own := [("word", 1)]) rfl sc_is_row.nd (di_sq (de_var 0)) (blkOk_by (N := ["value", "word"]) (sc := defScope s_is_row) (by decide +kernel)) (fun _ _ _ _ _ => (dg_name (i := 1) sc_is_row.nd rfl (Or.inl rfl))) (fun _ _ _ _ _ => dq_nil) (fun _ _ _ _ _ => (de_fn h_is_word (hr.mono (by decide)) (by rfl) (fun _ => pass0) (da_cons (de_var 1) da_nil))))) da_nil)))))
      ) (fun ds Q0 hl h => ?_), m, F.kp, b⟩
  obtain ⟨ws, rfl, hw, q⟩ := h
  simp only [dSeq, dCut, dSet, dkE, dkL, dVar, dVarK, at', startD, dC, dOp, dCmp, dVal, dTest, dNot, dAnd, dOr, dAndV, dOrV, dNotV, dIf, dNil, dCons, dTup, dLst, dFrz, dCall, dMth, isStr, dPart0, dPart, dSl, gSlice, dStep, dRevL, dNext, dNever, dRet, dDrop, dIfS, dPar, dPar3, dAsg, dFor, dWhile, dLc, dLc2, gN, gTupD, gNc, gN0, dYes, dSq, dSeqL, dSeqT, dSeqS, dRng1, dRng2, dRng3, dEnum, dEnumT, dZip, dFn, dFnM, dFnK, own', isOwn, dMut, gApp, gExt, dSto, dIxO, dLenO, dLenS, dIxS', dFnS, scr', isScr, dRetN, dSeqN, dFnN, dFnNS, dIsi, dIsi2, dNeg, gAdd, Dl.gSub, gMul, gDiv, gMod, gPow, gEq, gNe, gLt, gLe, gGt, gGe, gIs, gIsNot, isNone, gIx, gLen, gMax, gMin, gSum, gAll, gAbs, gInt, gTuple, gList, gListS, gStrI, gRepr, gJoin, gSw, gEw, gAscii, gAlpha, gLower, List.set, List.map, List.length_cons, List.length_nil, List.cons_append, List.nil_append, List.replicate, dWipe, Nat.reduceAdd, Nat.reduceSub, dChain, gInTup, dFnMN, dkD, dInD, dNotInD, dGetD, dPutD, dic', isDic, keyQ, keyP, dLRg, dkN2, dBor, nstD, dN0, dFnNK, flatO, flatCl, dSortS, gNeS, gIn, gNotIn, gIndex, isLstD, dMthL, gDivmod, sh_non, sh_bl, sh_int, nd_non, nd_bl, nd_int, nd_str, nd_lst, nd_tup, nds_nil, nds_cons, ev_int, ev_str, ev_bl, isi_str_non, isi_str_bl, isi_str_int, isi_str_str, isi_str_lst, isi_str_tup, isi_int_non, isi_int_bl, isi_int_int, isi_int_str, isi_int_lst, isi_int_tup, isi_bool_non, isi_bool_bl, isi_bool_int, isi_bool_str, isi_bool_lst, isi_bool_tup, isi_list_non, isi_list_bl, isi_list_int, isi_list_str, isi_list_lst, isi_list_tup, isi_tuple_non, isi_tuple_bl, isi_tuple_int, isi_tuple_str, isi_tuple_lst, isi_tuple_tup, Bool.not_true, Bool.not_false, Bool.true_or, Bool.false_or, Bool.or_false, Bool.or_true, Bool.true_and, Bool.false_and, Bool.and_true, Bool.and_false, Bool.false_eq_true, if_true, if_false, true_and, and_true, eq_self_iff_true, beq_self_eq_true, atI_0, atI_1, atI_2, atI_3, atI_4, atI_5, atI_6, atI_7, atI_8, atI_9, atI_10, atI_11, atI_12, atI_13, atI_14, ixN_3_0, ixN_3_1, ixN_3_2, Option.some.injEq, exists_eq_left', Int.reduceToNat, Int.reduceNeg, rowT]
  rw [if_neg (by have := hw.ne; simp; intro e; subst e; simp at this)]
  refine lc_map PyData.str (fun _ => .bool true) rfl (sl_le (by have := hw.len; omega)) (fun x hx K hk => ?_) ⟨ws.map fun _ => true, by simp, ?_⟩
  · simp only [dSeq, dCut, dSet, dkE, dkL, dVar, dVarK, at', startD, dC, dOp, dCmp, dVal, dTest, dNot, dAnd, dOr, dAndV, dOrV, dNotV, dIf, dNil, dCons, dTup, dLst, dFrz, dCall, dMth, isStr, dPart0, dPart, dSl, gSlice, dStep, dRevL, dNext, dNever, dRet, dDrop, dIfS, dPar, dPar3, dAsg, dFor, dWhile, dLc, dLc2, gN, gTupD, gNc, gN0, dYes, dSq, dSeqL, dSeqT, dSeqS, dRng1, dRng2, dRng3, dEnum, dEnumT, dZip, dFn, dFnM, dFnK, own', isOwn, dMut, gApp, gExt, dSto, dIxO, dLenO, dLenS, dIxS', dFnS, scr', isScr, dRetN, dSeqN, dFnN, dFnNS, dIsi, dIsi2, dNeg, gAdd, Dl.gSub, gMul, gDiv, gMod, gPow, gEq, gNe, gLt, gLe, gGt, gGe, gIs, gIsNot, isNone, gIx, gLen, gMax, gMin, gSum, gAll, gAbs, gInt, gTuple, gList, gListS, gStrI, gRepr, gJoin, gSw, gEw, gAscii, gAlpha, gLower, List.set, List.map, List.length_cons, List.length_nil, List.cons_append, List.nil_append, List.replicate, dWipe, Nat.reduceAdd, Nat.reduceSub, dChain, gInTup, dFnMN, dkD, dInD, dNotInD, dGetD, dPutD, dic', isDic, keyQ, keyP, dLRg, dkN2, dBor, nstD, dN0, dFnNK, flatO, flatCl, dSortS, gNeS, gIn, gNotIn, gIndex, isLstD, dMthL, gDivmod, sh_non, sh_bl, sh_int, nd_non, nd_bl, nd_int, nd_str, nd_lst, nd_tup, nds_nil, nds_cons, ev_int, ev_str, ev_bl, isi_str_non, isi_str_bl, isi_str_int, isi_str_str, isi_str_lst, isi_str_tup, isi_int_non, isi_int_bl, isi_int_int, isi_int_str, isi_int_lst, isi_int_tup, isi_bool_non, isi_bool_bl, isi_bool_int, isi_bool_str, isi_bool_lst, isi_bool_tup, isi_list_non, isi_list_bl, isi_list_int, isi_list_str, isi_list_lst, isi_list_tup, isi_tuple_non, isi_tuple_bl, isi_tuple_int, isi_tuple_str, isi_tuple_lst, isi_tuple_tup, Bool.not_true, Bool.not_false, Bool.true_or, Bool.false_or, Bool.or_false, Bool.or_true, Bool.true_and, Bool.false_and, Bool.and_true, Bool.and_false, Bool.false_eq_true, if_true, if_false, true_and, and_true, eq_self_iff_true, beq_self_eq_true, atI_0, atI_1, atI_2, atI_3, atI_4, atI_5, atI_6, atI_7, atI_8, atI_9, atI_10, atI_11, atI_12, atI_13, atI_14, ixN_3_0, ixN_3_1, ixN_3_2, Option.some.injEq, exists_eq_left', Int.reduceToNat, Int.reduceNeg]
    exact ⟨x, rfl, (hw.ok x hx).1, hk _ rfl⟩
  · have e : ((ws.map fun _ => true).all id) = true := by simp
    rw [e]
    exact q
def t_is_product : GN := fun ds Q => ∃ rs, ds = [prodT rs] ∧ ProdOk rs ∧ Q (.bool true)
theorem d_is_product (a : At K mg "is_product" s_is_product ["value"]) (B : Names mg) (h_is_row : FD P w K mg base "is_row" 2 1 t_is_row) : FD P w K mg base "is_product" 3 1 t_is_product := by
  obtain ⟨f, fd, F, m, b⟩ := a
  refine ⟨f, fd, _, ok_D F sc_is_product (by decide) (fun cdv A outer s H E hr => (dss_cons (ds_if (DW.pt (dw_or (dt_not (dt_val (de_isi (T := "tuple") (by decide) (by rfl) B.isinstance (by rfl) B.tuple (by decide +kernel) (de_var 0)))) (dw_or1 (dt_cmp (op_eqDD hr.units) (de_callB cr_lenD (by rfl) B.len (by decide +kernel) (da_cons (de_var 0) da_nil)) de_int)))) (dss_one (ds_ret de_bl)) dss_nil)
      (dss_one (ds_ret (de_callB (cr_allD rfl) (by rfl) B.all (by decide +kernel) (da_cons (de_frz (dl_lc (own := [("row", 1)]) rfl sc_is_product.nd (di_sq (de_var 0)) (blkOk_by (N := ["value", "row"]) (sc := defScope s_is_product) (by decide +kernel)) (fun _ _ _ _ _ => (dg_name (i := 1) sc_is_product.nd rfl (Or.inl rfl))) (fun _ _ _ _ _ => dq_nil) (fun _ _ _ _ _ => (de_fn h_is_row (hr.mono (by decide)) (by rfl) (fun _ => pass0) (da_cons (de_var 1) da_nil))))) da_nil)))))
      ) (fun ds Q0 hl h => ?_), m, F.kp, b⟩
  obtain ⟨ws, rfl, hw, q⟩ := h
  simp only [dSeq, dCut, dSet, dkE, dkL, dVar, dVarK, at', startD, dC, dOp, dCmp, dVal, dTest, dNot, dAnd, dOr, dAndV, dOrV, dNotV, dIf, dNil, dCons, dTup, dLst, dFrz, dCall, dMth, isStr, dPart0, dPart, dSl, gSlice, dStep, dRevL, dNext, dNever, dRet, dDrop, dIfS, dPar, dPar3, dAsg, dFor, dWhile, dLc, dLc2, gN, gTupD, gNc, gN0, dYes, dSq, dSeqL, dSeqT, dSeqS, dRng1, dRng2, dRng3, dEnum, dEnumT, dZip, dFn, dFnM, dFnK, own', isOwn, dMut, gApp, gExt, dSto, dIxO, dLenO, dLenS, dIxS', dFnS, scr', isScr, dRetN, dSeqN, dFnN, dFnNS, dIsi, dIsi2, dNeg, gAdd, Dl.gSub, gMul, gDiv, gMod, gPow, gEq, gNe, gLt, gLe, gGt, gGe, gIs, gIsNot, isNone, gIx, gLen, gMax, gMin, gSum, gAll, gAbs, gInt, gTuple, gList, gListS, gStrI, gRepr, gJoin, gSw, gEw, gAscii, gAlpha, gLower, List.set, List.map, List.length_cons, List.length_nil, List.cons_append, List.nil_append, List.replicate, dWipe, Nat.reduceAdd, Nat.reduceSub, dChain, gInTup, dFnMN, dkD, dInD, dNotInD, dGetD, dPutD, dic', isDic, keyQ, keyP, dLRg, dkN2, dBor, nstD, dN0, dFnNK, flatO, flatCl, dSortS, gNeS, gIn, gNotIn, gIndex, isLstD, dMthL, gDivmod, sh_non, sh_bl, sh_int, nd_non, nd_bl, nd_int, nd_str, nd_lst, nd_tup, nds_nil, nds_cons, ev_int, ev_str, ev_bl, isi_str_non, isi_str_bl, isi_str_int, isi_str_str, isi_str_lst, isi_str_tup, isi_int_non, isi_int_bl, isi_int_int, isi_int_str, isi_int_lst, isi_int_tup, isi_bool_non, isi_bool_bl, isi_bool_int, isi_bool_str, isi_bool_lst, isi_bool_tup, isi_list_non, isi_list_bl, isi_list_int, isi_list_str, isi_list_lst, isi_list_tup, isi_tuple_non, isi_tuple_bl, isi_tuple_int, isi_tuple_str, isi_tuple_lst, isi_tuple_tup, Bool.not_true, Bool.not_false, Bool.true_or, Bool.false_or, Bool.or_false, Bool.or_true, Bool.true_and, Bool.false_and, Bool.and_true, Bool.and_false, Bool.false_eq_true, if_true, if_false, true_and, and_true, eq_self_iff_true, beq_self_eq_true, atI_0, atI_1, atI_2, atI_3, atI_4, atI_5, atI_6, atI_7, atI_8, atI_9, atI_10, atI_11, atI_12, atI_13, atI_14, ixN_3_0, ixN_3_1, ixN_3_2, Option.some.injEq, exists_eq_left', Int.reduceToNat, Int.reduceNeg, prodT]
  rw [if_neg (by have := hw.ne; simp; intro e; subst e; simp at this)]
  refine lc_map rowT (fun _ => .bool true) rfl (sl_le (by have := hw.len; omega)) (fun x hx K hk => ?_) ⟨ws.map fun _ => true, by simp, ?_⟩
  · simp only [dSeq, dCut, dSet, dkE, dkL, dVar, dVarK, at', startD, dC, dOp, dCmp, dVal, dTest, dNot, dAnd, dOr, dAndV, dOrV, dNotV, dIf, dNil, dCons, dTup, dLst, dFrz, dCall, dMth, isStr, dPart0, dPart, dSl, gSlice, dStep, dRevL, dNext, dNever, dRet, dDrop, dIfS, dPar, dPar3, dAsg, dFor, dWhile, dLc, dLc2, gN, gTupD, gNc, gN0, dYes, dSq, dSeqL, dSeqT, dSeqS, dRng1, dRng2, dRng3, dEnum, dEnumT, dZip, dFn, dFnM, dFnK, own', isOwn, dMut, gApp, gExt, dSto, dIxO, dLenO, dLenS, dIxS', dFnS, scr', isScr, dRetN, dSeqN, dFnN, dFnNS, dIsi, dIsi2, dNeg, gAdd, Dl.gSub, gMul, gDiv, gMod, gPow, gEq, gNe, gLt, gLe, gGt, gGe, gIs, gIsNot, isNone, gIx, gLen, gMax, gMin, gSum, gAll, gAbs, gInt, gTuple, gList, gListS, gStrI, gRepr, gJoin, gSw, gEw, gAscii, gAlpha, gLower, List.set, List.map, List.length_cons, List.length_nil, List.cons_append, List.nil_append, List.replicate, dWipe, Nat.reduceAdd, Nat.reduceSub, dChain, gInTup, dFnMN, dkD, dInD, dNotInD, dGetD, dPutD, dic', isDic, keyQ, keyP, dLRg, dkN2, dBor, nstD, dN0, dFnNK, flatO, flatCl, dSortS, gNeS, gIn, gNotIn, gIndex, isLstD, dMthL, gDivmod, sh_non, sh_bl, sh_int, nd_non, nd_bl, nd_int, nd_str, nd_lst, nd_tup, nds_nil, nds_cons, ev_int, ev_str, ev_bl, isi_str_non, isi_str_bl, isi_str_int, isi_str_str, isi_str_lst, isi_str_tup, isi_int_non, isi_int_bl, isi_int_int, isi_int_str, isi_int_lst, isi_int_tup, isi_bool_non, isi_bool_bl, isi_bool_int, isi_bool_str, isi_bool_lst, isi_bool_tup, isi_list_non, isi_list_bl, isi_list_int, isi_list_str, isi_list_lst, isi_list_tup, isi_tuple_non, isi_tuple_bl, isi_tuple_int, isi_tuple_str, isi_tuple_lst, isi_tuple_tup, Bool.not_true, Bool.not_false, Bool.true_or, Bool.false_or, Bool.or_false, Bool.or_true, Bool.true_and, Bool.false_and, Bool.and_true, Bool.and_false, Bool.false_eq_true, if_true, if_false, true_and, and_true, eq_self_iff_true, beq_self_eq_true, atI_0, atI_1, atI_2, atI_3, atI_4, atI_5, atI_6, atI_7, atI_8, atI_9, atI_10, atI_11, atI_12, atI_13, atI_14, ixN_3_0, ixN_3_1, ixN_3_2, Option.some.injEq, exists_eq_left', Int.reduceToNat, Int.reduceNeg]
    exact ⟨x, rfl, hw.row x hx, hk _ rfl⟩
  · have e : ((ws.map fun _ => true).all id) = true := by simp
    rw [e]
    exact q
def t_check_product : GN := fun ds Q => ∃ rs, ds = [prodT rs] ∧ ProdOk rs ∧ Q .none
theorem d_check_product (a : At K mg "check_product" s_check_product ["product"]) (B : Names mg) (h_is_product : FD P w K mg base "is_product" 3 1 t_is_product) : FD P w K mg base "check_product" 4 1 t_check_product := by
  obtain ⟨f, fd, F, m, b⟩ := a
  refine ⟨f, fd, _, ok_D F sc_check_product (by decide) (fun cdv A outer s H E hr => (dss_one (ds_if (dt_not (dt_val (de_fn h_is_product (hr.mono (by decide)) (by rfl) (fun _ => pass0) (da_cons (de_var 0) da_nil)))) dss_never dss_nil))
      ) (fun ds Q0 hl h => ?_), m, F.kp, b⟩
  obtain ⟨ws, rfl, hw, q⟩ := h
  simp only [dSeq, dCut, dSet, dkE, dkL, dVar, dVarK, at', startD, dC, dOp, dCmp, dVal, dTest, dNot, dAnd, dOr, dAndV, dOrV, dNotV, dIf, dNil, dCons, dTup, dLst, dFrz, dCall, dMth, isStr, dPart0, dPart, dSl, gSlice, dStep, dRevL, dNext, dNever, dRet, dDrop, dIfS, dPar, dPar3, dAsg, dFor, dWhile, dLc, dLc2, gN, gTupD, gNc, gN0, dYes, dSq, dSeqL, dSeqT, dSeqS, dRng1, dRng2, dRng3, dEnum, dEnumT, dZip, dFn, dFnM, dFnK, own', isOwn, dMut, gApp, gExt, dSto, dIxO, dLenO, dLenS, dIxS', dFnS, scr', isScr, dRetN, dSeqN, dFnN, dFnNS, dIsi, dIsi2, dNeg, gAdd, Dl.gSub, gMul, gDiv, gMod, gPow, gEq, gNe, gLt, gLe, gGt, gGe, gIs, gIsNot, isNone, gIx, gLen, gMax, gMin, gSum, gAll, gAbs, gInt, gTuple, gList, gListS, gStrI, gRepr, gJoin, gSw, gEw, gAscii, gAlpha, gLower, List.set, List.map, List.length_cons, List.length_nil, List.cons_append, List.nil_append, List.replicate, dWipe, Nat.reduceAdd, Nat.reduceSub, dChain, gInTup, dFnMN, dkD, dInD, dNotInD, dGetD, dPutD, dic', isDic, keyQ, keyP, dLRg, dkN2, dBor, nstD, dN0, dFnNK, flatO, flatCl, dSortS, gNeS, gIn, gNotIn, gIndex, isLstD, dMthL, gDivmod, sh_non, sh_bl, sh_int, nd_non, nd_bl, nd_int, nd_str, nd_lst, nd_tup, nds_nil, nds_cons, ev_int, ev_str, ev_bl, isi_str_non, isi_str_bl, isi_str_int, isi_str_str, isi_str_lst, isi_str_tup, isi_int_non, isi_int_bl, isi_int_int, isi_int_str, isi_int_lst, isi_int_tup, isi_bool_non, isi_bool_bl, isi_bool_int, isi_bool_str, isi_bool_lst, isi_bool_tup, isi_list_non, isi_list_bl, isi_list_int, isi_list_str, isi_list_lst, isi_list_tup, isi_tuple_non, isi_tuple_bl, isi_tuple_int, isi_tuple_str, isi_tuple_lst, isi_tuple_tup, Bool.not_true, Bool.not_false, Bool.true_or, Bool.false_or, Bool.or_false, Bool.or_true, Bool.true_and, Bool.false_and, Bool.and_true, Bool.and_false, Bool.false_eq_true, if_true, if_false, true_and, and_true, eq_self_iff_true, beq_self_eq_true, atI_0, atI_1, atI_2, atI_3, atI_4, atI_5, atI_6, atI_7, atI_8, atI_9, atI_10, atI_11, atI_12, atI_13, atI_14, ixN_3_0, ixN_3_1, ixN_3_2, Option.some.injEq, exists_eq_left', Int.reduceToNat, Int.reduceNeg]
  exact ⟨ws, rfl, hw, q⟩
def t_common : GN := fun ds Q => ∃ x y : Str, ds = [.str x, .str y] ∧ (Lets x ∧ x.length ≤ 100000) ∧ (Lets y ∧ y.length ≤ 100000) ∧ Q (.int (common x y : Nat))
theorem d_common_length (a : At K mg "common_length" s_common_length ["word", "other"]) (B : Names mg) : FD P w K mg base "common_length" 1 2 t_common := by
  obtain ⟨f, fd, F, m, b⟩ := a
  refine ⟨f, fd, _, ok_D F sc_common_length (by decide) (fun cdv A outer s H E hr => (dss_cons (ds_set (i := 2) sc_common_length.nd rfl (Or.inl rfl) (dk_e de_int))
      (dss_cons (ds_set (i := 3) sc_common_length.nd rfl (Or.inl rfl) (dk_e (de_callB (cr_minD rfl) (by rfl) B.min (by decide +kernel) (da_cons (de_callB cr_lenD (by rfl) B.len (by decide +kernel) (da_cons (de_var 0) da_nil)) (da_cons (de_callB cr_lenD (by rfl) B.len (by decide +kernel) (da_cons (de_var 1) da_nil)) da_nil)))))
      (dss_cut (ds_while PassesOwn.never (dt_cmp op_ltD (de_var 2) (de_var 3)) (dss_cons (ds_set (i := 4) sc_common_length.nd rfl (Or.inl rfl) (dk_e (de_op op_divD (de_op op_addD (de_op op_addD (de_var 2) (de_var 3)) de_int) de_int)))
      (dss_one (ds_if (dt_cmp (op_eqDD hr.units) (de_slice (de_var 0) do_none (do_some (de_var 4))) (de_slice (de_var 1) do_none (do_some (de_var 4)))) (dss_one (ds_set (i := 2) sc_common_length.nd rfl (Or.inl rfl) (dk_e (de_var 4)))) (dss_one (ds_set (i := 3) sc_common_length.nd rfl (Or.inl rfl) (dk_e (de_op op_subD (de_var 4) de_int))))))))
      (dss_one (ds_ret (de_var 2))))))
      ) (fun ds Q0 hl h => ?_), m, F.kp, b⟩
  obtain ⟨x, y, rfl, ⟨lx, hx⟩, ⟨ly, hy⟩, q⟩ := h
  simp only [dSeq, dSet, dkE, dkL, dVar, dVarK, at', startD, dC, dOp, dCmp, dVal, dTest, dNot, dAnd, dOr, dAndV, dOrV, dNotV, dIf, dNil, dCons, dTup, dLst, dFrz, dCall, dMth, isStr, dPart0, dPart, dSl, gSlice, dStep, dRevL, dNext, dNever, dRet, dDrop, dIfS, dPar, dPar3, dAsg, dFor, dWhile, dLc, dLc2, gN, gTupD, gNc, gN0, dYes, dSq, dSeqL, dSeqT, dSeqS, dRng1, dRng2, dRng3, dEnum, dEnumT, dZip, dFn, dFnM, dFnK, own', isOwn, dMut, gApp, gExt, dSto, dIxO, dLenO, dLenS, dIxS', dFnS, scr', isScr, dRetN, dSeqN, dFnN, dFnNS, dIsi, dIsi2, dNeg, gAdd, Dl.gSub, gMul, gDiv, gMod, gPow, gEq, gNe, gLt, gLe, gGt, gGe, gIs, gIsNot, isNone, gIx, gLen, gMax, gMin, gSum, gAll, gAbs, gInt, gTuple, gList, gListS, gStrI, gRepr, gJoin, gSw, gEw, gAscii, gAlpha, gLower, List.set, List.map, List.length_cons, List.length_nil, List.cons_append, List.nil_append, List.replicate, dWipe, Nat.reduceAdd, Nat.reduceSub, dChain, gInTup, dFnMN, dkD, dInD, dNotInD, dGetD, dPutD, dic', isDic, keyQ, keyP, dLRg, dkN2, dBor, nstD, dN0, dFnNK, flatO, flatCl, dSortS, gNeS, gIn, gNotIn, gIndex, isLstD, dMthL, gDivmod, sh_non, sh_bl, sh_int, nd_non, nd_bl, nd_int, nd_str, nd_lst, nd_tup, nds_nil, nds_cons, ev_int, ev_str, ev_bl, isi_str_non, isi_str_bl, isi_str_int, isi_str_str, isi_str_lst, isi_str_tup, isi_int_non, isi_int_bl, isi_int_int, isi_int_str, isi_int_lst, isi_int_tup, isi_bool_non, isi_bool_bl, isi_bool_int, isi_bool_str, isi_bool_lst, isi_bool_tup, isi_list_non, isi_list_bl, isi_list_int, isi_list_str, isi_list_lst, isi_list_tup, isi_tuple_non, isi_tuple_bl, isi_tuple_int, isi_tuple_str, isi_tuple_lst, isi_tuple_tup, Bool.not_true, Bool.not_false, Bool.true_or, Bool.false_or, Bool.or_false, Bool.or_true, Bool.true_and, Bool.false_and, Bool.and_true, Bool.and_false, Bool.false_eq_true, if_true, if_false, true_and, and_true, eq_self_iff_true, beq_self_eq_true, atI_0, atI_1, atI_2, atI_3, atI_4, atI_5, atI_6, atI_7, atI_8, atI_9, atI_10, atI_11, atI_12, atI_13, atI_14, ixN_3_0, ixN_3_1, ixN_3_2, Option.some.injEq, exists_eq_left', Int.reduceToNat, Int.reduceNeg, rowT]
  have cxy : common x y ≤ x.length ∧ common x y ≤ y.length := by
    rw [len_tl x, len_tl y]
    exact lcp_le _ _
  obtain ⟨g, hg, hgx, hgy⟩ : ∃ g : Nat, (if ((y.length : Nat) : Int) < (x.length : Int) then ((y.length : Nat) : Int) else (x.length : Int)) = (g : Int) ∧ g ≤ x.length ∧ g ≤ y.length ∧ common x y ≤ g := by
    by_cases h : y.length < x.length
    · exact ⟨y.length, by rw [if_pos (by omega)], by omega, by omega, by omega⟩
    · exact ⟨x.length, by rw [if_neg (by omega)], by omega, by omega, by omega⟩
  rw [hg]
  refine ⟨sl_le (by omega), sl_le (by omega), dCut_open (fun Γ => ∃ o, Γ = [some (.d (.str x)), some (.d (.str y)), some (.d (.int (common x y : Nat))), some (.d (.int (common x y : Nat))), o]) ?_ ?_⟩
  · refine ⟨fun m Γ => ∃ (a b : Nat) (o : Option Cell), Γ = [some (.d (.str x)), some (.d (.str y)), some (.d (.int (a : Int))), some (.d (.int (b : Int))), o] ∧ a ≤ common x y ∧ common x y ≤ b ∧ b ≤ x.length ∧ b ≤ y.length ∧ m = b - a, ⟨_, 0, g, none, rfl, by omega, by omega, by omega, by omega, rfl⟩, ?_⟩
    rintro m Γ ⟨a, b, o, rfl, h1, h2, h3, h4, rfl⟩
    simp only [dSeq, dSet, dkE, dkL, dVar, dVarK, at', startD, dC, dOp, dCmp, dVal, dTest, dNot, dAnd, dOr, dAndV, dOrV, dNotV, dIf, dNil, dCons, dTup, dLst, dFrz, dCall, dMth, isStr, dPart0, dPart, dSl, gSlice, dStep, dRevL, dNext, dNever, dRet, dDrop, dIfS, dPar, dPar3, dAsg, dFor, dWhile, dLc, dLc2, gN, gTupD, gNc, gN0, dYes, dSq, dSeqL, dSeqT, dSeqS, dRng1, dRng2, dRng3, dEnum, dEnumT, dZip, dFn, dFnM, dFnK, own', isOwn, dMut, gApp, gExt, dSto, dIxO, dLenO, dLenS, dIxS', dFnS, scr', isScr, dRetN, dSeqN, dFnN, dFnNS, dIsi, dIsi2, dNeg, gAdd, Dl.gSub, gMul, gDiv, gMod, gPow, gEq, gNe, gLt, gLe, gGt, gGe, gIs, gIsNot, isNone, gIx, gLen, gMax, gMin, gSum, gAll, gAbs, gInt, gTuple, gList, gListS, gStrI, gRepr, gJoin, gSw, gEw, gAscii, gAlpha, gLower, List.set, List.map, List.length_cons, List.length_nil, List.cons_append, List.nil_append, List.replicate, dWipe, Nat.reduceAdd, Nat.reduceSub, dChain, gInTup, dFnMN, dkD, dInD, dNotInD, dGetD, dPutD, dic', isDic, keyQ, keyP, dLRg, dkN2, dBor, nstD, dN0, dFnNK, flatO, flatCl, dSortS, gNeS, gIn, gNotIn, gIndex, isLstD, dMthL, gDivmod, sh_non, sh_bl, sh_int, nd_non, nd_bl, nd_int, nd_str, nd_lst, nd_tup, nds_nil, nds_cons, ev_int, ev_str, ev_bl, isi_str_non, isi_str_bl, isi_str_int, isi_str_str, isi_str_lst, isi_str_tup, isi_int_non, isi_int_bl, isi_int_int, isi_int_str, isi_int_lst, isi_int_tup, isi_bool_non, isi_bool_bl, isi_bool_int, isi_bool_str, isi_bool_lst, isi_bool_tup, isi_list_non, isi_list_bl, isi_list_int, isi_list_str, isi_list_lst, isi_list_tup, isi_tuple_non, isi_tuple_bl, isi_tuple_int, isi_tuple_str, isi_tuple_lst, isi_tuple_tup, Bool.not_true, Bool.not_false, Bool.true_or, Bool.false_or, Bool.or_false, Bool.or_true, Bool.true_and, Bool.false_and, Bool.and_true, Bool.and_false, Bool.false_eq_true, if_true, if_false, true_and, and_true, eq_self_iff_true, beq_self_eq_true, atI_0, atI_1, atI_2, atI_3, atI_4, atI_5, atI_6, atI_7, atI_8, atI_9, atI_10, atI_11, atI_12, atI_13, atI_14, ixN_3_0, ixN_3_1, ixN_3_2, Option.some.injEq, exists_eq_left', Int.reduceToNat, Int.reduceNeg, rowT]
    by_cases hab : a < b
    · have em : ((a : Int) + (b : Int) + 1) / 2 = (((a + b + 1) / 2 : Nat) : Int) := by omega
      rw [em]
      generalize hm : (a + b + 1) / 2 = m
      rw [cut_to, cut_to]
      have ok : ∀ z : Str, Lets z → SeqAt.shaped (.str (takeS z m)) = true := fun z hz => sh_lets fun c hc => hz c (List.mem_of_mem_take hc)
      refine if_y (decide_eq_true (by omega)) ⟨wide_div (b := 30) (by decide) (by decide) (by decide) (by decide), sl_le (by omega), sl_le (by omega), ⟨ok x lx, ok y ly⟩, ?_⟩
      have key : (takeS x m = takeS y m) ↔ m ≤ common x y := by
        have z := lcp_take m (tl x) (tl y) (by rw [← len_tl]; omega) (by rw [← len_tl]; omega)
        refine ⟨fun e => z.mp (by have := congrArg tl e; rw [tl_takeS, tl_takeS] at this; exact this), fun e => ext_tl (by rw [tl_takeS, tl_takeS]; exact z.mpr e)⟩
      by_cases hk : m ≤ common x y
      · exact if_y (by rw [key.mpr hk]; simp) ⟨_, by omega, m, b, _, rfl, hk, h2, h3, h4, rfl⟩
      · refine if_n (by simpa using fun e => hk (key.mp e)) ⟨_, ?_, a, m - 1, _, by rw [show ((m : Nat) : Int) - 1 = ((m - 1 : Nat) : Int) from by omega], h1, by omega, by omega, by omega, rfl⟩
        omega
    · have e1 : a = common x y := by omega
      have e2 : b = common x y := by omega
      refine if_n (by simp only [decide_eq_true_eq]; omega) ⟨o, by rw [e1, e2]⟩
  · rintro Γ ⟨o, rfl⟩
    exact q
def t_step : GN := fun ds Q => ∃ x y : Str, ds = [.str x, .str y] ∧ (Lets x ∧ x.length ≤ 100000) ∧ (Lets y ∧ y.length ≤ 100000) ∧ Q (stepT x y)
theorem d_step_between (a : At K mg "step_between" s_step_between ["word", "other"]) (B : Names mg) (h_common_length : FD P w K mg base "common_length" 1 2 t_common) : FD P w K mg base "step_between" 2 2 t_step := by
  obtain ⟨f, fd, F, m, b⟩ := a
  refine ⟨f, fd, _, ok_D F sc_step_between (by decide) (fun cdv A outer s H E hr => (dss_cons (ds_set (i := 2) sc_step_between.nd rfl (Or.inl rfl) (dk_e (de_fn h_common_length (hr.mono (by decide)) (by rfl) (fun _ => pass0) (da_cons (de_var 0) (da_cons (de_var 1) da_nil)))))
      (dss_one (ds_ret (de_tup (da_cons (de_slice (de_var 0) (do_some (de_var 2)) do_none) (da_cons (de_slice (de_var 1) (do_some (de_var 2)) do_none) da_nil))))))
      ) (fun ds Q0 hl h => ?_), m, F.kp, b⟩
  obtain ⟨x, y, rfl, hx, hy, q⟩ := h
  simp only [dSeq, dSet, dkE, dkL, dVar, dVarK, at', startD, dC, dOp, dCmp, dVal, dTest, dNot, dAnd, dOr, dAndV, dOrV, dNotV, dIf, dNil, dCons, dTup, dLst, dFrz, dCall, dMth, isStr, dPart0, dPart, dSl, gSlice, dStep, dRevL, dNext, dNever, dRet, dDrop, dIfS, dPar, dPar3, dAsg, dFor, dWhile, dLc, dLc2, gN, gTupD, gNc, gN0, dYes, dSq, dSeqL, dSeqT, dSeqS, dRng1, dRng2, dRng3, dEnum, dEnumT, dZip, dFn, dFnM, dFnK, own', isOwn, dMut, gApp, gExt, dSto, dIxO, dLenO, dLenS, dIxS', dFnS, scr', isScr, dRetN, dSeqN, dFnN, dFnNS, dIsi, dIsi2, dNeg, gAdd, Dl.gSub, gMul, gDiv, gMod, gPow, gEq, gNe, gLt, gLe, gGt, gGe, gIs, gIsNot, isNone, gIx, gLen, gMax, gMin, gSum, gAll, gAbs, gInt, gTuple, gList, gListS, gStrI, gRepr, gJoin, gSw, gEw, gAscii, gAlpha, gLower, List.set, List.map, List.length_cons, List.length_nil, List.cons_append, List.nil_append, List.replicate, dWipe, Nat.reduceAdd, Nat.reduceSub, dChain, gInTup, dFnMN, dkD, dInD, dNotInD, dGetD, dPutD, dic', isDic, keyQ, keyP, dLRg, dkN2, dBor, nstD, dN0, dFnNK, flatO, flatCl, dSortS, gNeS, gIn, gNotIn, gIndex, isLstD, dMthL, gDivmod, sh_non, sh_bl, sh_int, nd_non, nd_bl, nd_int, nd_str, nd_lst, nd_tup, nds_nil, nds_cons, ev_int, ev_str, ev_bl, isi_str_non, isi_str_bl, isi_str_int, isi_str_str, isi_str_lst, isi_str_tup, isi_int_non, isi_int_bl, isi_int_int, isi_int_str, isi_int_lst, isi_int_tup, isi_bool_non, isi_bool_bl, isi_bool_int, isi_bool_str, isi_bool_lst, isi_bool_tup, isi_list_non, isi_list_bl, isi_list_int, isi_list_str, isi_list_lst, isi_list_tup, isi_tuple_non, isi_tuple_bl, isi_tuple_int, isi_tuple_str, isi_tuple_lst, isi_tuple_tup, Bool.not_true, Bool.not_false, Bool.true_or, Bool.false_or, Bool.or_false, Bool.or_true, Bool.true_and, Bool.false_and, Bool.and_true, Bool.and_false, Bool.false_eq_true, if_true, if_false, true_and, and_true, eq_self_iff_true, beq_self_eq_true, atI_0, atI_1, atI_2, atI_3, atI_4, atI_5, atI_6, atI_7, atI_8, atI_9, atI_10, atI_11, atI_12, atI_13, atI_14, ixN_3_0, ixN_3_1, ixN_3_2, Option.some.injEq, exists_eq_left', Int.reduceToNat, Int.reduceNeg, rowT]
  refine ⟨x, y, rfl, hx, hy, ?_⟩
  simp only [cut_from, dSeq, dSet, dkE, dkL, dVar, dVarK, at', startD, dC, dOp, dCmp, dVal, dTest, dNot, dAnd, dOr, dAndV, dOrV, dNotV, dIf, dNil, dCons, dTup, dLst, dFrz, dCall, dMth, isStr, dPart0, dPart, dSl, gSlice, dStep, dRevL, dNext, dNever, dRet, dDrop, dIfS, dPar, dPar3, dAsg, dFor, dWhile, dLc, dLc2, gN, gTupD, gNc, gN0, dYes, dSq, dSeqL, dSeqT, dSeqS, dRng1, dRng2, dRng3, dEnum, dEnumT, dZip, dFn, dFnM, dFnK, own', isOwn, dMut, gApp, gExt, dSto, dIxO, dLenO, dLenS, dIxS', dFnS, scr', isScr, dRetN, dSeqN, dFnN, dFnNS, dIsi, dIsi2, dNeg, gAdd, Dl.gSub, gMul, gDiv, gMod, gPow, gEq, gNe, gLt, gLe, gGt, gGe, gIs, gIsNot, isNone, gIx, gLen, gMax, gMin, gSum, gAll, gAbs, gInt, gTuple, gList, gListS, gStrI, gRepr, gJoin, gSw, gEw, gAscii, gAlpha, gLower, List.set, List.map, List.length_cons, List.length_nil, List.cons_append, List.nil_append, List.replicate, dWipe, Nat.reduceAdd, Nat.reduceSub, dChain, gInTup, dFnMN, dkD, dInD, dNotInD, dGetD, dPutD, dic', isDic, keyQ, keyP, dLRg, dkN2, dBor, nstD, dN0, dFnNK, flatO, flatCl, dSortS, gNeS, gIn, gNotIn, gIndex, isLstD, dMthL, gDivmod, sh_non, sh_bl, sh_int, nd_non, nd_bl, nd_int, nd_str, nd_lst, nd_tup, nds_nil, nds_cons, ev_int, ev_str, ev_bl, isi_str_non, isi_str_bl, isi_str_int, isi_str_str, isi_str_lst, isi_str_tup, isi_int_non, isi_int_bl, isi_int_int, isi_int_str, isi_int_lst, isi_int_tup, isi_bool_non, isi_bool_bl, isi_bool_int, isi_bool_str, isi_bool_lst, isi_bool_tup, isi_list_non, isi_list_bl, isi_list_int, isi_list_str, isi_list_lst, isi_list_tup, isi_tuple_non, isi_tuple_bl, isi_tuple_int, isi_tuple_str, isi_tuple_lst, isi_tuple_tup, Bool.not_true, Bool.not_false, Bool.true_or, Bool.false_or, Bool.or_false, Bool.or_true, Bool.true_and, Bool.false_and, Bool.and_true, Bool.and_false, Bool.false_eq_true, if_true, if_false, true_and, and_true, eq_self_iff_true, beq_self_eq_true, atI_0, atI_1, atI_2, atI_3, atI_4, atI_5, atI_6, atI_7, atI_8, atI_9, atI_10, atI_11, atI_12, atI_13, atI_14, ixN_3_0, ixN_3_1, ixN_3_2, Option.some.injEq, exists_eq_left', Int.reduceToNat, Int.reduceNeg, rowT]
  exact ⟨sl_le (by have := hx.2; omega), sl_le (by have := hy.2; omega), by decide +kernel, q⟩
end
end C12
namespace C12
open PySem PySem.Spec PyProof.Rows L2 TL Bl Dl Pm
-- DLJ DLK
section
variable {P : Program} {w : World} {K : PySem.W.Frag} {mg : Str → Option Value} {base : Heap}
def t_size_of : GN := fun ds Q => ∃ rs, ds = [prodT rs] ∧ ProdOk rs ∧ Q (.int (cnt rs : Nat))
theorem d_size_of (a : At K mg "size_of" s_size_of ["product"]) (B : Names mg) : FD P w K mg base "size_of" 1 1 t_size_of := by
  obtain ⟨f, fd, F, m, b⟩ := a
  refine ⟨f, fd, _, ok_D F sc_size_of (by decide) (fun cdv A outer s H E hr => (dss_cons (ds_set (i := 1) sc_size_of.nd rfl (Or.inl rfl) (dk_e de_int))
      (dss_cut (ds_for PassesOwn.never rfl (di_sq (de_var 0)) (dg_name (i := 2) sc_size_of.nd rfl (Or.inl rfl)) (dss_one (ds_set (i := 1) sc_size_of.nd rfl (Or.inl rfl) (dk_e (de_op op_mulD (de_var 1) (de_callB cr_lenD (by rfl) B.len (by decide +kernel) (da_cons (de_var 2) da_nil)))))))
      (dss_one (ds_ret (de_var 1)))))
      ) (fun ds Q0 hl h => ?_), m, F.kp, b⟩
  obtain ⟨rs, rfl, hw, q⟩ := h
  simp only [prodT, dSeq, dCut, dSet, dkE, dkL, dVar, dVarK, at', startD, dC, dOp, dCmp, dVal, dTest, dNot, dAnd, dOr, dAndV, dOrV, dNotV, dIf, dNil, dCons, dTup, dLst, dFrz, dCall, dMth, isStr, dPart0, dPart, dSl, gSlice, dStep, dRevL, dNext, dNever, dRet, dDrop, dIfS, dPar, dPar3, dAsg, dFor, dWhile, dLc, dLc2, gN, gTupD, gNc, gN0, dYes, dSq, dSeqL, dSeqT, dSeqS, dRng1, dRng2, dRng3, dEnum, dEnumT, dZip, dFn, dFnM, dFnK, own', isOwn, dMut, gApp, gExt, dSto, dIxO, dLenO, dLenS, dIxS', dFnS, scr', isScr, dRetN, dSeqN, dFnN, dFnNS, dIsi, dIsi2, dNeg, gAdd, Dl.gSub, gMul, gDiv, gMod, gPow, gEq, gNe, gLt, gLe, gGt, gGe, gIs, gIsNot, isNone, gIx, gLen, gMax, gMin, gSum, gAll, gAbs, gInt, gTuple, gList, gListS, gStrI, gRepr, gJoin, gSw, gEw, gAscii, gAlpha, gLower, List.set, List.map, List.length_cons, List.length_nil, List.cons_append, List.nil_append, List.replicate, dWipe, Nat.reduceAdd, Nat.reduceSub, dChain, gInTup, dFnMN, dkD, dInD, dNotInD, dGetD, dPutD, dic', isDic, keyQ, keyP, dLRg, dkN2, dBor, nstD, dN0, dFnNK, flatO, flatCl, dSortS, gNeS, gIn, gNotIn, gIndex, isLstD, dMthL, gDivmod, sh_non, sh_bl, sh_int, nd_non, nd_bl, nd_int, nd_str, nd_lst, nd_tup, nds_nil, nds_cons, ev_int, ev_str, ev_bl, isi_str_non, isi_str_bl, isi_str_int, isi_str_str, isi_str_lst, isi_str_tup, isi_int_non, isi_int_bl, isi_int_int, isi_int_str, isi_int_lst, isi_int_tup, isi_bool_non, isi_bool_bl, isi_bool_int, isi_bool_str, isi_bool_lst, isi_bool_tup, isi_list_non, isi_list_bl, isi_list_int, isi_list_str, isi_list_lst, isi_list_tup, isi_tuple_non, isi_tuple_bl, isi_tuple_int, isi_tuple_str, isi_tuple_lst, isi_tuple_tup, Bool.not_true, Bool.not_false, Bool.true_or, Bool.false_or, Bool.or_false, Bool.or_true, Bool.true_and, Bool.false_and, Bool.and_true, Bool.and_false, Bool.false_eq_true, if_true, if_false, true_and, and_true, eq_self_iff_true, beq_self_eq_true, atI_0, atI_1, atI_2, atI_3, atI_4, atI_5, atI_6, atI_7, atI_8, atI_9, atI_10, atI_11, atI_12, atI_13, atI_14, ixN_3_0, ixN_3_1, ixN_3_2, Option.some.injEq, exists_eq_left', Int.reduceToNat, Int.reduceNeg, rowT]
  refine ⟨fun Γ => ∃ o, Γ = [some (.d (prodT rs)), some (.d (.int (cnt rs : Nat))), o], ?_, ?_⟩
  · refine for_ind (fun i Γ => ∃ o, Γ = [some (.d (prodT rs)), some (.d (.int (cnt (rs.take i) : Nat))), o]) ⟨none, rfl⟩ ?_ fun Γ h => ?_
    · rintro i d Γ hi ⟨o, rfl⟩ K hk
      rw [List.getElem?_map] at hi
      obtain ⟨r, hr, rfl⟩ := Option.map_eq_some_iff.mp hi
      have hm := List.mem_of_getElem? hr
      have hi : i < rs.length := (List.getElem?_eq_some_iff.mp hr).1
      simp only [dSeq, dCut, dSet, dkE, dkL, dVar, dVarK, at', startD, dC, dOp, dCmp, dVal, dTest, dNot, dAnd, dOr, dAndV, dOrV, dNotV, dIf, dNil, dCons, dTup, dLst, dFrz, dCall, dMth, isStr, dPart0, dPart, dSl, gSlice, dStep, dRevL, dNext, dNever, dRet, dDrop, dIfS, dPar, dPar3, dAsg, dFor, dWhile, dLc, dLc2, gN, gTupD, gNc, gN0, dYes, dSq, dSeqL, dSeqT, dSeqS, dRng1, dRng2, dRng3, dEnum, dEnumT, dZip, dFn, dFnM, dFnK, own', isOwn, dMut, gApp, gExt, dSto, dIxO, dLenO, dLenS, dIxS', dFnS, scr', isScr, dRetN, dSeqN, dFnN, dFnNS, dIsi, dIsi2, dNeg, gAdd, Dl.gSub, gMul, gDiv, gMod, gPow, gEq, gNe, gLt, gLe, gGt, gGe, gIs, gIsNot, isNone, gIx, gLen, gMax, gMin, gSum, gAll, gAbs, gInt, gTuple, gList, gListS, gStrI, gRepr, gJoin, gSw, gEw, gAscii, gAlpha, gLower, List.set, List.map, List.length_cons, List.length_nil, List.cons_append, List.nil_append, List.replicate, dWipe, Nat.reduceAdd, Nat.reduceSub, dChain, gInTup, dFnMN, dkD, dInD, dNotInD, dGetD, dPutD, dic', isDic, keyQ, keyP, dLRg, dkN2, dBor, nstD, dN0, dFnNK, flatO, flatCl, dSortS, gNeS, gIn, gNotIn, gIndex, isLstD, dMthL, gDivmod, sh_non, sh_bl, sh_int, nd_non, nd_bl, nd_int, nd_str, nd_lst, nd_tup, nds_nil, nds_cons, ev_int, ev_str, ev_bl, isi_str_non, isi_str_bl, isi_str_int, isi_str_str, isi_str_lst, isi_str_tup, isi_int_non, isi_int_bl, isi_int_int, isi_int_str, isi_int_lst, isi_int_tup, isi_bool_non, isi_bool_bl, isi_bool_int, isi_bool_str, isi_bool_lst, isi_bool_tup, isi_list_non, isi_list_bl, isi_list_int, isi_list_str, isi_list_lst, isi_list_tup, isi_tuple_non, isi_tuple_bl, isi_tuple_int, isi_tuple_str, isi_tuple_lst, isi_tuple_tup, Bool.not_true, Bool.not_false, Bool.true_or, Bool.false_or, Bool.or_false, Bool.or_true, Bool.true_and, Bool.false_and, Bool.and_true, Bool.and_false, Bool.false_eq_true, if_true, if_false, true_and, and_true, eq_self_iff_true, beq_self_eq_true, atI_0, atI_1, atI_2, atI_3, atI_4, atI_5, atI_6, atI_7, atI_8, atI_9, atI_10, atI_11, atI_12, atI_13, atI_14, ixN_3_0, ixN_3_1, ixN_3_2, Option.some.injEq, exists_eq_left', Int.reduceToNat, Int.reduceNeg, rowT]
      have := hw.len
      refine ⟨wide_nat (n := 12 * (rs.take i).length + 1) (m := 13) (cnt_lt fun q hq => (hw.row q (List.mem_of_mem_take hq)).len) (by rw [List.length_map]; have := (hw.row r hm).len; omega) (by omega) (by omega) (by rw [List.length_take]; omega), hk _ ⟨some (.d (rowT r)), ?_⟩⟩
      rw [List.length_map, cnt_more hr, Int.natCast_mul]
      rfl
    · obtain ⟨o, rfl⟩ := h
      rw [List.length_map, List.take_length]
      exact ⟨o, rfl⟩
  · rintro Γ ⟨o, rfl⟩
    exact q
def t_check_row : GN := fun ds Q => ∃ ws, ds = [rowT ws] ∧ RowOk ws ∧ Q .none
theorem d_check_row (a : At K mg "check_row" s_check_row ["row"]) (B : Names mg) (h_is_row : FD P w K mg base "is_row" 2 1 t_is_row) : FD P w K mg base "check_row" 3 1 t_check_row := by
  obtain ⟨f, fd, F, m, b⟩ := a
  refine ⟨f, fd, _, ok_D F sc_check_row (by decide) (fun cdv A outer s H E hr => (dss_one (ds_if (dt_not (dt_val (de_fn h_is_row (hr.mono (by decide)) (by rfl) (fun _ => pass0) (da_cons (de_var 0) da_nil)))) dss_never dss_nil))
      ) (fun ds Q0 hl h => ?_), m, F.kp, b⟩
  obtain ⟨ws, rfl, hw, q⟩ := h
  simp only [dSeq, dCut, dSet, dkE, dkL, dVar, dVarK, at', startD, dC, dOp, dCmp, dVal, dTest, dNot, dAnd, dOr, dAndV, dOrV, dNotV, dIf, dNil, dCons, dTup, dLst, dFrz, dCall, dMth, isStr, dPart0, dPart, dSl, gSlice, dStep, dRevL, dNext, dNever, dRet, dDrop, dIfS, dPar, dPar3, dAsg, dFor, dWhile, dLc, dLc2, gN, gTupD, gNc, gN0, dYes, dSq, dSeqL, dSeqT, dSeqS, dRng1, dRng2, dRng3, dEnum, dEnumT, dZip, dFn, dFnM, dFnK, own', isOwn, dMut, gApp, gExt, dSto, dIxO, dLenO, dLenS, dIxS', dFnS, scr', isScr, dRetN, dSeqN, dFnN, dFnNS, dIsi, dIsi2, dNeg, gAdd, Dl.gSub, gMul, gDiv, gMod, gPow, gEq, gNe, gLt, gLe, gGt, gGe, gIs, gIsNot, isNone, gIx, gLen, gMax, gMin, gSum, gAll, gAbs, gInt, gTuple, gList, gListS, gStrI, gRepr, gJoin, gSw, gEw, gAscii, gAlpha, gLower, List.set, List.map, List.length_cons, List.length_nil, List.cons_append, List.nil_append, List.replicate, dWipe, Nat.reduceAdd, Nat.reduceSub, dChain, gInTup, dFnMN, dkD, dInD, dNotInD, dGetD, dPutD, dic', isDic, keyQ, keyP, dLRg, dkN2, dBor, nstD, dN0, dFnNK, flatO, flatCl, dSortS, gNeS, gIn, gNotIn, gIndex, isLstD, dMthL, gDivmod, sh_non, sh_bl, sh_int, nd_non, nd_bl, nd_int, nd_str, nd_lst, nd_tup, nds_nil, nds_cons, ev_int, ev_str, ev_bl, isi_str_non, isi_str_bl, isi_str_int, isi_str_str, isi_str_lst, isi_str_tup, isi_int_non, isi_int_bl, isi_int_int, isi_int_str, isi_int_lst, isi_int_tup, isi_bool_non, isi_bool_bl, isi_bool_int, isi_bool_str, isi_bool_lst, isi_bool_tup, isi_list_non, isi_list_bl, isi_list_int, isi_list_str, isi_list_lst, isi_list_tup, isi_tuple_non, isi_tuple_bl, isi_tuple_int, isi_tuple_str, isi_tuple_lst, isi_tuple_tup, Bool.not_true, Bool.not_false, Bool.true_or, Bool.false_or, Bool.or_false, Bool.or_true, Bool.true_and, Bool.false_and, Bool.and_true, Bool.and_false, Bool.false_eq_true, if_true, if_false, true_and, and_true, eq_self_iff_true, beq_self_eq_true, atI_0, atI_1, atI_2, atI_3, atI_4, atI_5, atI_6, atI_7, atI_8, atI_9, atI_10, atI_11, atI_12, atI_13, atI_14, ixN_3_0, ixN_3_1, ixN_3_2, Option.some.injEq, exists_eq_left', Int.reduceToNat, Int.reduceNeg]
  exact ⟨ws, rfl, hw, q⟩
theorem prodW_ok2 {rs : List (List Str)} (h : ProdOk rs) (hc : cnt rs ≤ 2000) {b : Nat} (hb : ∀ r ∈ rs, WdsOk b r) : WdsOk (rs.length * b) (prodW rs) := prodW_ok hb
def t_all_words : GN := fun ds Q => ∃ rs, ds = [prodT rs] ∧ ProdOk rs ∧ cnt rs ≤ 2000 ∧ Q (rowT (prodW rs))
theorem d_all_words (a : At K mg "all_words" s_all_words ["product"]) (B : Names mg) (g_MOST_WORDS : GI mg "MOST_WORDS" 2000) (h_size_of : FD P w K mg base "size_of" 1 1 t_size_of) : FD P w K mg base "all_words" 2 1 t_all_words := by
  obtain ⟨f, fd, F, m, b⟩ := a
  refine ⟨f, fd, _, ok_D F sc_all_words (by decide) (fun cdv A outer s H E hr => (dss_cons (ds_if (dt_cmp op_gtD (de_fn h_size_of (hr.mono (by decide)) (by rfl) (fun _ => pass0) (da_cons (de_var 0) da_nil)) (de_gi g_MOST_WORDS (by rfl))) dss_never dss_nil)
      (dss_cons (ds_set (i := 1) sc_all_words.nd rfl (Or.inl rfl) (dk_e (de_frz (dl_lst (da_cons de_str da_nil)))))
      (dss_cut (ds_for PassesOwn.never rfl (di_sq (de_var 0)) (dg_name (i := 2) sc_all_words.nd rfl (Or.inr rfl)) (dss_one (ds_setLc2 (i := 1) (own := [("word", 3), ("other", 4)]) (vs1 := [4]) rfl sc_all_words.nd rfl rfl (sw_true rfl rfl rfl (by decide +kernel)) (di_sq (de_var 1)) (blkOk_by (N := ["product", "words", "row", "word", "other"]) (sc := defScope s_all_words) (by decide +kernel)) (by decide) (fun _ _ _ _ _ => (dg_name (i := 3) sc_all_words.nd rfl (Or.inl rfl))) (fun _ _ _ _ _ => dq_nil) (fun _ _ _ _ _ => (di_sq (de_var 2))) (fun _ _ _ _ _ => (dg_name (i := 4) sc_all_words.nd rfl (Or.inl rfl))) (fun _ _ _ _ _ => dq_nil) (fun _ _ _ _ _ => (de_op op_addD (de_var 3) (de_var 4))) rk_frz)))
      (dss_one (ds_ret (de_callTy cr_tupleD (by rfl) B.tuple (by decide +kernel) (da_cons (de_var 1) da_nil)))))))
      ) (fun ds Q0 hl h => ?_), m, F.kp, b⟩
  obtain ⟨rs, rfl, hw, hc, q⟩ := h
  have hpos : ∀ r ∈ rs, 1 ≤ r.length := fun r hr => (hw.row r hr).ne
  simp only [dSeq, dCut, dSet, dkE, dkL, dVar, dVarK, at', startD, dC, dOp, dCmp, dVal, dTest, dNot, dAnd, dOr, dAndV, dOrV, dNotV, dIf, dNil, dCons, dTup, dLst, dFrz, dCall, dMth, isStr, dPart0, dPart, dSl, gSlice, dStep, dRevL, dNext, dNever, dRet, dDrop, dIfS, dPar, dPar3, dAsg, dFor, dWhile, dLc, dLc2, gN, gTupD, gNc, gN0, dYes, dSq, dSeqL, dSeqT, dSeqS, dRng1, dRng2, dRng3, dEnum, dEnumT, dZip, dFn, dFnM, dFnK, own', isOwn, dMut, gApp, gExt, dSto, dIxO, dLenO, dLenS, dIxS', dFnS, scr', isScr, dRetN, dSeqN, dFnN, dFnNS, dIsi, dIsi2, dNeg, gAdd, Dl.gSub, gMul, gDiv, gMod, gPow, gEq, gNe, gLt, gLe, gGt, gGe, gIs, gIsNot, isNone, gIx, gLen, gMax, gMin, gSum, gAll, gAbs, gInt, gTuple, gList, gListS, gStrI, gRepr, gJoin, gSw, gEw, gAscii, gAlpha, gLower, List.set, List.map, List.length_cons, List.length_nil, List.cons_append, List.nil_append, List.replicate, dWipe, Nat.reduceAdd, Nat.reduceSub, dChain, gInTup, dFnMN, dkD, dInD, dNotInD, dGetD, dPutD, dic', isDic, keyQ, keyP, dLRg, dkN2, dBor, nstD, dN0, dFnNK, flatO, flatCl, dSortS, gNeS, gIn, gNotIn, gIndex, isLstD, dMthL, gDivmod, sh_non, sh_bl, sh_int, nd_non, nd_bl, nd_int, nd_str, nd_lst, nd_tup, nds_nil, nds_cons, ev_int, ev_str, ev_bl, isi_str_non, isi_str_bl, isi_str_int, isi_str_str, isi_str_lst, isi_str_tup, isi_int_non, isi_int_bl, isi_int_int, isi_int_str, isi_int_lst, isi_int_tup, isi_bool_non, isi_bool_bl, isi_bool_int, isi_bool_str, isi_bool_lst, isi_bool_tup, isi_list_non, isi_list_bl, isi_list_int, isi_list_str, isi_list_lst, isi_list_tup, isi_tuple_non, isi_tuple_bl, isi_tuple_int, isi_tuple_str, isi_tuple_lst, isi_tuple_tup, Bool.not_true, Bool.not_false, Bool.true_or, Bool.false_or, Bool.or_false, Bool.or_true, Bool.true_and, Bool.false_and, Bool.and_true, Bool.and_false, Bool.false_eq_true, if_true, if_false, true_and, and_true, eq_self_iff_true, beq_self_eq_true, atI_0, atI_1, atI_2, atI_3, atI_4, atI_5, atI_6, atI_7, atI_8, atI_9, atI_10, atI_11, atI_12, atI_13, atI_14, ixN_3_0, ixN_3_1, ixN_3_2, Option.some.injEq, exists_eq_left', Int.reduceToNat, Int.reduceNeg]
  refine ⟨rs, rfl, hw, ?_⟩
  simp only [dSeq, dCut, dSet, dkE, dkL, dVar, dVarK, at', startD, dC, dOp, dCmp, dVal, dTest, dNot, dAnd, dOr, dAndV, dOrV, dNotV, dIf, dNil, dCons, dTup, dLst, dFrz, dCall, dMth, isStr, dPart0, dPart, dSl, gSlice, dStep, dRevL, dNext, dNever, dRet, dDrop, dIfS, dPar, dPar3, dAsg, dFor, dWhile, dLc, dLc2, gN, gTupD, gNc, gN0, dYes, dSq, dSeqL, dSeqT, dSeqS, dRng1, dRng2, dRng3, dEnum, dEnumT, dZip, dFn, dFnM, dFnK, own', isOwn, dMut, gApp, gExt, dSto, dIxO, dLenO, dLenS, dIxS', dFnS, scr', isScr, dRetN, dSeqN, dFnN, dFnNS, dIsi, dIsi2, dNeg, gAdd, Dl.gSub, gMul, gDiv, gMod, gPow, gEq, gNe, gLt, gLe, gGt, gGe, gIs, gIsNot, isNone, gIx, gLen, gMax, gMin, gSum, gAll, gAbs, gInt, gTuple, gList, gListS, gStrI, gRepr, gJoin, gSw, gEw, gAscii, gAlpha, gLower, List.set, List.map, List.length_cons, List.length_nil, List.cons_append, List.nil_append, List.replicate, dWipe, Nat.reduceAdd, Nat.reduceSub, dChain, gInTup, dFnMN, dkD, dInD, dNotInD, dGetD, dPutD, dic', isDic, keyQ, keyP, dLRg, dkN2, dBor, nstD, dN0, dFnNK, flatO, flatCl, dSortS, gNeS, gIn, gNotIn, gIndex, isLstD, dMthL, gDivmod, sh_non, sh_bl, sh_int, nd_non, nd_bl, nd_int, nd_str, nd_lst, nd_tup, nds_nil, nds_cons, ev_int, ev_str, ev_bl, isi_str_non, isi_str_bl, isi_str_int, isi_str_str, isi_str_lst, isi_str_tup, isi_int_non, isi_int_bl, isi_int_int, isi_int_str, isi_int_lst, isi_int_tup, isi_bool_non, isi_bool_bl, isi_bool_int, isi_bool_str, isi_bool_lst, isi_bool_tup, isi_list_non, isi_list_bl, isi_list_int, isi_list_str, isi_list_lst, isi_list_tup, isi_tuple_non, isi_tuple_bl, isi_tuple_int, isi_tuple_str, isi_tuple_lst, isi_tuple_tup, Bool.not_true, Bool.not_false, Bool.true_or, Bool.false_or, Bool.or_false, Bool.or_true, Bool.true_and, Bool.false_and, Bool.and_true, Bool.and_false, Bool.false_eq_true, if_true, if_false, true_and, and_true, eq_self_iff_true, beq_self_eq_true, atI_0, atI_1, atI_2, atI_3, atI_4, atI_5, atI_6, atI_7, atI_8, atI_9, atI_10, atI_11, atI_12, atI_13, atI_14, ixN_3_0, ixN_3_1, ixN_3_2, Option.some.injEq, exists_eq_left', Int.reduceToNat, Int.reduceNeg, rowT]
  rw [if_neg (by simp; omega)]
  refine ⟨by decide +kernel, ?_⟩
  simp only [prodT]
  refine ⟨fun Γ => ∃ o, Γ = [some (.d (prodT rs)), some (.d (.list ((prodW rs).map .str))), o, none, none], ?_, ?_⟩
  · refine for_ind (fun i Γ => ∃ o, Γ = [some (.d (prodT rs)), some (.d (.list ((prodW (rs.take i)).map .str))), o, none, none]) ⟨none, rfl⟩ ?_ fun Γ h => ?_
    · rintro i d Γ hi ⟨o, rfl⟩ K hk
      rw [List.getElem?_map] at hi
      obtain ⟨r, hr, rfl⟩ := Option.map_eq_some_iff.mp hi
      have hm := List.mem_of_getElem? hr
      have hi : i < rs.length := (List.getElem?_eq_some_iff.mp hr).1
      have hle : cnt (rs.take (i + 1)) ≤ 2000 := Nat.le_trans (cnt_take hpos _) hc
      have hlen := hw.len
      have okw : WdsOk (100 * 200) (prodW (rs.take i)) := fun x hx => by
        have z := prodW_ok (b := 200) (rs := rs.take i) (fun q hq => (hw.row q (List.mem_of_mem_take hq)).ok) x hx
        refine ⟨z.1, Nat.le_trans z.2 (Nat.mul_le_mul_right _ ?_)⟩
        rw [List.length_take]
        omega
      simp only [dSeq, dCut, dSet, dkE, dkL, dVar, dVarK, at', startD, dC, dOp, dCmp, dVal, dTest, dNot, dAnd, dOr, dAndV, dOrV, dNotV, dIf, dNil, dCons, dTup, dLst, dFrz, dCall, dMth, isStr, dPart0, dPart, dSl, gSlice, dStep, dRevL, dNext, dNever, dRet, dDrop, dIfS, dPar, dPar3, dAsg, dFor, dWhile, dLc, dLc2, gN, gTupD, gNc, gN0, dYes, dSq, dSeqL, dSeqT, dSeqS, dRng1, dRng2, dRng3, dEnum, dEnumT, dZip, dFn, dFnM, dFnK, own', isOwn, dMut, gApp, gExt, dSto, dIxO, dLenO, dLenS, dIxS', dFnS, scr', isScr, dRetN, dSeqN, dFnN, dFnNS, dIsi, dIsi2, dNeg, gAdd, Dl.gSub, gMul, gDiv, gMod, gPow, gEq, gNe, gLt, gLe, gGt, gGe, gIs, gIsNot, isNone, gIx, gLen, gMax, gMin, gSum, gAll, gAbs, gInt, gTuple, gList, gListS, gStrI, gRepr, gJoin, gSw, gEw, gAscii, gAlpha, gLower, List.set, List.map, List.length_cons, List.length_nil, List.cons_append, List.nil_append, List.replicate, dWipe, Nat.reduceAdd, Nat.reduceSub, dChain, gInTup, dFnMN, dkD, dInD, dNotInD, dGetD, dPutD, dic', isDic, keyQ, keyP, dLRg, dkN2, dBor, nstD, dN0, dFnNK, flatO, flatCl, dSortS, gNeS, gIn, gNotIn, gIndex, isLstD, dMthL, gDivmod, sh_non, sh_bl, sh_int, nd_non, nd_bl, nd_int, nd_str, nd_lst, nd_tup, nds_nil, nds_cons, ev_int, ev_str, ev_bl, isi_str_non, isi_str_bl, isi_str_int, isi_str_str, isi_str_lst, isi_str_tup, isi_int_non, isi_int_bl, isi_int_int, isi_int_str, isi_int_lst, isi_int_tup, isi_bool_non, isi_bool_bl, isi_bool_int, isi_bool_str, isi_bool_lst, isi_bool_tup, isi_list_non, isi_list_bl, isi_list_int, isi_list_str, isi_list_lst, isi_list_tup, isi_tuple_non, isi_tuple_bl, isi_tuple_int, isi_tuple_str, isi_tuple_lst, isi_tuple_tup, Bool.not_true, Bool.not_false, Bool.true_or, Bool.false_or, Bool.or_false, Bool.or_true, Bool.true_and, Bool.false_and, Bool.and_true, Bool.and_false, Bool.false_eq_true, if_true, if_false, true_and, and_true, eq_self_iff_true, beq_self_eq_true, atI_0, atI_1, atI_2, atI_3, atI_4, atI_5, atI_6, atI_7, atI_8, atI_9, atI_10, atI_11, atI_12, atI_13, atI_14, ixN_3_0, ixN_3_1, ixN_3_2, Option.some.injEq, exists_eq_left', Int.reduceToNat, Int.reduceNeg, rowT]
      refine lc2_map PyData.str PyData.str (fun _ => r) (fun x y => .str (x ++ y)) rfl ?_ (fun x hx K2 hk2 => ?_) ?_
      · rw [flat_len, prodW_len, ← cnt_more hr]
        exact sl_le (by omega)
      · simp only [dSeq, dCut, dSet, dkE, dkL, dVar, dVarK, at', startD, dC, dOp, dCmp, dVal, dTest, dNot, dAnd, dOr, dAndV, dOrV, dNotV, dIf, dNil, dCons, dTup, dLst, dFrz, dCall, dMth, isStr, dPart0, dPart, dSl, gSlice, dStep, dRevL, dNext, dNever, dRet, dDrop, dIfS, dPar, dPar3, dAsg, dFor, dWhile, dLc, dLc2, gN, gTupD, gNc, gN0, dYes, dSq, dSeqL, dSeqT, dSeqS, dRng1, dRng2, dRng3, dEnum, dEnumT, dZip, dFn, dFnM, dFnK, own', isOwn, dMut, gApp, gExt, dSto, dIxO, dLenO, dLenS, dIxS', dFnS, scr', isScr, dRetN, dSeqN, dFnN, dFnNS, dIsi, dIsi2, dNeg, gAdd, Dl.gSub, gMul, gDiv, gMod, gPow, gEq, gNe, gLt, gLe, gGt, gGe, gIs, gIsNot, isNone, gIx, gLen, gMax, gMin, gSum, gAll, gAbs, gInt, gTuple, gList, gListS, gStrI, gRepr, gJoin, gSw, gEw, gAscii, gAlpha, gLower, List.set, List.map, List.length_cons, List.length_nil, List.cons_append, List.nil_append, List.replicate, dWipe, Nat.reduceAdd, Nat.reduceSub, dChain, gInTup, dFnMN, dkD, dInD, dNotInD, dGetD, dPutD, dic', isDic, keyQ, keyP, dLRg, dkN2, dBor, nstD, dN0, dFnNK, flatO, flatCl, dSortS, gNeS, gIn, gNotIn, gIndex, isLstD, dMthL, gDivmod, sh_non, sh_bl, sh_int, nd_non, nd_bl, nd_int, nd_str, nd_lst, nd_tup, nds_nil, nds_cons, ev_int, ev_str, ev_bl, isi_str_non, isi_str_bl, isi_str_int, isi_str_str, isi_str_lst, isi_str_tup, isi_int_non, isi_int_bl, isi_int_int, isi_int_str, isi_int_lst, isi_int_tup, isi_bool_non, isi_bool_bl, isi_bool_int, isi_bool_str, isi_bool_lst, isi_bool_tup, isi_list_non, isi_list_bl, isi_list_int, isi_list_str, isi_list_lst, isi_list_tup, isi_tuple_non, isi_tuple_bl, isi_tuple_int, isi_tuple_str, isi_tuple_lst, isi_tuple_tup, Bool.not_true, Bool.not_false, Bool.true_or, Bool.false_or, Bool.or_false, Bool.or_true, Bool.true_and, Bool.false_and, Bool.and_true, Bool.and_false, Bool.false_eq_true, if_true, if_false, true_and, and_true, eq_self_iff_true, beq_self_eq_true, atI_0, atI_1, atI_2, atI_3, atI_4, atI_5, atI_6, atI_7, atI_8, atI_9, atI_10, atI_11, atI_12, atI_13, atI_14, ixN_3_0, ixN_3_1, ixN_3_2, Option.some.injEq, exists_eq_left', Int.reduceToNat, Int.reduceNeg, rowT]
        refine hk2 _ (fun y hy K3 hk3 => ?_) rfl
        simp only [dSeq, dCut, dSet, dkE, dkL, dVar, dVarK, at', startD, dC, dOp, dCmp, dVal, dTest, dNot, dAnd, dOr, dAndV, dOrV, dNotV, dIf, dNil, dCons, dTup, dLst, dFrz, dCall, dMth, isStr, dPart0, dPart, dSl, gSlice, dStep, dRevL, dNext, dNever, dRet, dDrop, dIfS, dPar, dPar3, dAsg, dFor, dWhile, dLc, dLc2, gN, gTupD, gNc, gN0, dYes, dSq, dSeqL, dSeqT, dSeqS, dRng1, dRng2, dRng3, dEnum, dEnumT, dZip, dFn, dFnM, dFnK, own', isOwn, dMut, gApp, gExt, dSto, dIxO, dLenO, dLenS, dIxS', dFnS, scr', isScr, dRetN, dSeqN, dFnN, dFnNS, dIsi, dIsi2, dNeg, gAdd, Dl.gSub, gMul, gDiv, gMod, gPow, gEq, gNe, gLt, gLe, gGt, gGe, gIs, gIsNot, isNone, gIx, gLen, gMax, gMin, gSum, gAll, gAbs, gInt, gTuple, gList, gListS, gStrI, gRepr, gJoin, gSw, gEw, gAscii, gAlpha, gLower, List.set, List.map, List.length_cons, List.length_nil, List.cons_append, List.nil_append, List.replicate, dWipe, Nat.reduceAdd, Nat.reduceSub, dChain, gInTup, dFnMN, dkD, dInD, dNotInD, dGetD, dPutD, dic', isDic, keyQ, keyP, dLRg, dkN2, dBor, nstD, dN0, dFnNK, flatO, flatCl, dSortS, gNeS, gIn, gNotIn, gIndex, isLstD, dMthL, gDivmod, sh_non, sh_bl, sh_int, nd_non, nd_bl, nd_int, nd_str, nd_lst, nd_tup, nds_nil, nds_cons, ev_int, ev_str, ev_bl, isi_str_non, isi_str_bl, isi_str_int, isi_str_str, isi_str_lst, isi_str_tup, isi_int_non, isi_int_bl, isi_int_int, isi_int_str, isi_int_lst, isi_int_tup, isi_bool_non, isi_bool_bl, isi_bool_int, isi_bool_str, isi_bool_lst, isi_bool_tup, isi_list_non, isi_list_bl, isi_list_int, isi_list_str, isi_list_lst, isi_list_tup, isi_tuple_non, isi_tuple_bl, isi_tuple_int, isi_tuple_str, isi_tuple_lst, isi_tuple_tup, Bool.not_true, Bool.not_false, Bool.true_or, Bool.false_or, Bool.or_false, Bool.or_true, Bool.true_and, Bool.false_and, Bool.and_true, Bool.and_false, Bool.false_eq_true, if_true, if_false, true_and, and_true, eq_self_iff_true, beq_self_eq_true, atI_0, atI_1, atI_2, atI_3, atI_4, atI_5, atI_6, atI_7, atI_8, atI_9, atI_10, atI_11, atI_12, atI_13, atI_14, ixN_3_0, ixN_3_1, ixN_3_2, Option.some.injEq, exists_eq_left', Int.reduceToNat, Int.reduceNeg, rowT]
        refine ⟨?_, hk3 _ rfl⟩
        have h1 := (okw x hx).2
        have h2 := ((hw.row r hm).ok y hy).2
        exact sl_le (by omega)
      · refine hk _ ⟨some (.d (rowT r)), ?_⟩
        rw [prodW_more hr]
        unfold addRow
        rw [List.map_flatMap]
        simp only [List.map_map]
        rfl
    · obtain ⟨o, rfl⟩ := h
      rw [List.length_map, List.take_length]
      exact ⟨o, rfl⟩
  · rintro Γ ⟨o, rfl⟩
    exact q
def t_written_out : GN := t_all_words
theorem d_written_out (a : At K mg "written_out" s_written_out ["product"]) (B : Names mg) (h_check_product : FD P w K mg base "check_product" 4 1 t_check_product) (h_all_words : FD P w K mg base "all_words" 2 1 t_all_words) : FD P w K mg base "written_out" 5 1 t_written_out := by
  obtain ⟨f, fd, F, m, b⟩ := a
  refine ⟨f, fd, _, ok_D F sc_written_out (by decide) (fun cdv A outer s H E hr => (dss_cons (ds_expr (de_fn h_check_product (hr.mono (by decide)) (by rfl) (fun _ => pass0) (da_cons (de_var 0) da_nil)))
      (dss_one (ds_ret (de_fn h_all_words (hr.mono (by decide)) (by rfl) (fun _ => pass0) (da_cons (de_var 0) da_nil)))))
      ) (fun ds Q0 hl h => ?_), m, F.kp, b⟩
  obtain ⟨rs, rfl, hw, hc, q⟩ := h
  simp only [dSeq, dCut, dSet, dkE, dkL, dVar, dVarK, at', startD, dC, dOp, dCmp, dVal, dTest, dNot, dAnd, dOr, dAndV, dOrV, dNotV, dIf, dNil, dCons, dTup, dLst, dFrz, dCall, dMth, isStr, dPart0, dPart, dSl, gSlice, dStep, dRevL, dNext, dNever, dRet, dDrop, dIfS, dPar, dPar3, dAsg, dFor, dWhile, dLc, dLc2, gN, gTupD, gNc, gN0, dYes, dSq, dSeqL, dSeqT, dSeqS, dRng1, dRng2, dRng3, dEnum, dEnumT, dZip, dFn, dFnM, dFnK, own', isOwn, dMut, gApp, gExt, dSto, dIxO, dLenO, dLenS, dIxS', dFnS, scr', isScr, dRetN, dSeqN, dFnN, dFnNS, dIsi, dIsi2, dNeg, gAdd, Dl.gSub, gMul, gDiv, gMod, gPow, gEq, gNe, gLt, gLe, gGt, gGe, gIs, gIsNot, isNone, gIx, gLen, gMax, gMin, gSum, gAll, gAbs, gInt, gTuple, gList, gListS, gStrI, gRepr, gJoin, gSw, gEw, gAscii, gAlpha, gLower, List.set, List.map, List.length_cons, List.length_nil, List.cons_append, List.nil_append, List.replicate, dWipe, Nat.reduceAdd, Nat.reduceSub, dChain, gInTup, dFnMN, dkD, dInD, dNotInD, dGetD, dPutD, dic', isDic, keyQ, keyP, dLRg, dkN2, dBor, nstD, dN0, dFnNK, flatO, flatCl, dSortS, gNeS, gIn, gNotIn, gIndex, isLstD, dMthL, gDivmod, sh_non, sh_bl, sh_int, nd_non, nd_bl, nd_int, nd_str, nd_lst, nd_tup, nds_nil, nds_cons, ev_int, ev_str, ev_bl, isi_str_non, isi_str_bl, isi_str_int, isi_str_str, isi_str_lst, isi_str_tup, isi_int_non, isi_int_bl, isi_int_int, isi_int_str, isi_int_lst, isi_int_tup, isi_bool_non, isi_bool_bl, isi_bool_int, isi_bool_str, isi_bool_lst, isi_bool_tup, isi_list_non, isi_list_bl, isi_list_int, isi_list_str, isi_list_lst, isi_list_tup, isi_tuple_non, isi_tuple_bl, isi_tuple_int, isi_tuple_str, isi_tuple_lst, isi_tuple_tup, Bool.not_true, Bool.not_false, Bool.true_or, Bool.false_or, Bool.or_false, Bool.or_true, Bool.true_and, Bool.false_and, Bool.and_true, Bool.and_false, Bool.false_eq_true, if_true, if_false, true_and, and_true, eq_self_iff_true, beq_self_eq_true, atI_0, atI_1, atI_2, atI_3, atI_4, atI_5, atI_6, atI_7, atI_8, atI_9, atI_10, atI_11, atI_12, atI_13, atI_14, ixN_3_0, ixN_3_1, ixN_3_2, Option.some.injEq, exists_eq_left', Int.reduceToNat, Int.reduceNeg]
  exact ⟨rs, rfl, hw, rs, rfl, hw, hc, q⟩
/-- the steps of a row: place by place -/
def stepsT (ws : List Str) (last first : Str) : PyData := .list (.none :: (List.range (ws.length - 1)).map fun i => stepT (ws.getD i "" ++ last) (ws.getD (i + 1) "" ++ first))
def t_steps : GN := fun ds Q => ∃ (ws : List Str) (last first : Str), ds = [rowT ws, .str last, .str first] ∧ (1 ≤ ws.length ∧ ws.length ≤ 4000 ∧ WdsOk 200 ws) ∧ (Lets last ∧ last.length ≤ 50000) ∧ (Lets first ∧ first.length ≤ 50000) ∧ Q (stepsT ws last first)
theorem d_steps_of (a : At K mg "steps_of" s_steps_of ["row", "last", "first"]) (B : Names mg) (h_step_between : FD P w K mg base "step_between" 2 2 t_step) : FD P w K mg base "steps_of" 3 3 t_steps := by
  obtain ⟨f, fd, F, m, b⟩ := a
  refine ⟨f, fd, _, ok_D F sc_steps_of (by decide) (fun cdv A outer s H E hr => (dss_cons (ds_set (i := 3) sc_steps_of.nd rfl (Or.inl rfl) (dk_l (dl_lst (da_cons de_non da_nil))))
      (dss_cut (ds_for PassesOwn.never rfl (di_range2 (by rfl) B.range (da_cons de_int (da_cons (de_callB cr_lenD (by rfl) B.len (by decide +kernel) (da_cons (de_var 0) da_nil)) da_nil))) (dg_name (i := 4) sc_steps_of.nd rfl (Or.inl rfl)) (dss_one (ds_mut 3 PySem.F.slot_list_append PySem.F.type_list_append mt_appD (da_cons (de_fn h_step_between (hr.mono (by decide)) (by rfl) (fun _ => pass0) (da_cons (de_op op_addD (de_ix ix_D (de_var 0) (de_op op_subD (de_var 4) de_int)) (de_var 1)) (da_cons (de_op op_addD (de_ix ix_D (de_var 0) (de_var 4)) (de_var 2)) da_nil))) da_nil))))
      (dss_one (ds_ret (de_var 3)))))
      ) (fun ds Q0 hl h => ?_), m, F.kp, b⟩
  obtain ⟨ws, last, first, rfl, ⟨hw1, hw2, hw3⟩, hl1, hf1, q⟩ := h
  simp only [dSeq, dSet, dkE, dkL, dVar, dVarK, at', startD, dC, dOp, dCmp, dVal, dTest, dNot, dAnd, dOr, dAndV, dOrV, dNotV, dIf, dNil, dCons, dTup, dLst, dFrz, dCall, dMth, isStr, dPart0, dPart, dSl, gSlice, dStep, dRevL, dNext, dNever, dRet, dDrop, dIfS, dPar, dPar3, dAsg, dFor, dWhile, dLc, dLc2, gN, gTupD, gNc, gN0, dYes, dSq, dSeqL, dSeqT, dSeqS, dRng1, dRng2, dRng3, dEnum, dEnumT, dZip, dFn, dFnM, dFnK, own', isOwn, dMut, gApp, gExt, dSto, dIxO, dLenO, dLenS, dIxS', dFnS, scr', isScr, dRetN, dSeqN, dFnN, dFnNS, dIsi, dIsi2, dNeg, gAdd, Dl.gSub, gMul, gDiv, gMod, gPow, gEq, gNe, gLt, gLe, gGt, gGe, gIs, gIsNot, isNone, gIx, gLen, gMax, gMin, gSum, gAll, gAbs, gInt, gTuple, gList, gListS, gStrI, gRepr, gJoin, gSw, gEw, gAscii, gAlpha, gLower, List.set, List.map, List.length_cons, List.length_nil, List.cons_append, List.nil_append, List.replicate, dWipe, Nat.reduceAdd, Nat.reduceSub, dChain, gInTup, dFnMN, dkD, dInD, dNotInD, dGetD, dPutD, dic', isDic, keyQ, keyP, dLRg, dkN2, dBor, nstD, dN0, dFnNK, flatO, flatCl, dSortS, gNeS, gIn, gNotIn, gIndex, isLstD, dMthL, gDivmod, sh_non, sh_bl, sh_int, nd_non, nd_bl, nd_int, nd_str, nd_lst, nd_tup, nds_nil, nds_cons, ev_int, ev_str, ev_bl, isi_str_non, isi_str_bl, isi_str_int, isi_str_str, isi_str_lst, isi_str_tup, isi_int_non, isi_int_bl, isi_int_int, isi_int_str, isi_int_lst, isi_int_tup, isi_bool_non, isi_bool_bl, isi_bool_int, isi_bool_str, isi_bool_lst, isi_bool_tup, isi_list_non, isi_list_bl, isi_list_int, isi_list_str, isi_list_lst, isi_list_tup, isi_tuple_non, isi_tuple_bl, isi_tuple_int, isi_tuple_str, isi_tuple_lst, isi_tuple_tup, Bool.not_true, Bool.not_false, Bool.true_or, Bool.false_or, Bool.or_false, Bool.or_true, Bool.true_and, Bool.false_and, Bool.and_true, Bool.and_false, Bool.false_eq_true, if_true, if_false, true_and, and_true, eq_self_iff_true, beq_self_eq_true, atI_0, atI_1, atI_2, atI_3, atI_4, atI_5, atI_6, atI_7, atI_8, atI_9, atI_10, atI_11, atI_12, atI_13, atI_14, ixN_3_0, ixN_3_1, ixN_3_2, Option.some.injEq, exists_eq_left', Int.reduceToNat, Int.reduceNeg, rowT]
  refine ⟨by decide +kernel, fun p => ?_⟩
  refine dCut_open (fun Γ => ∃ o, Γ = [some (.d (rowT ws)), some (.d (.str last)), some (.d (.str first)), some (.own p (.none :: (List.range (ws.length - 1)).map fun i => stepT (ws.getD i "" ++ last) (ws.getD (i + 1) "" ++ first))), o]) ?_ ?_
  · simp only [List.length_map, dSeq, dSet, dkE, dkL, dVar, dVarK, at', startD, dC, dOp, dCmp, dVal, dTest, dNot, dAnd, dOr, dAndV, dOrV, dNotV, dIf, dNil, dCons, dTup, dLst, dFrz, dCall, dMth, isStr, dPart0, dPart, dSl, gSlice, dStep, dRevL, dNext, dNever, dRet, dDrop, dIfS, dPar, dPar3, dAsg, dFor, dWhile, dLc, dLc2, gN, gTupD, gNc, gN0, dYes, dSq, dSeqL, dSeqT, dSeqS, dRng1, dRng2, dRng3, dEnum, dEnumT, dZip, dFn, dFnM, dFnK, own', isOwn, dMut, gApp, gExt, dSto, dIxO, dLenO, dLenS, dIxS', dFnS, scr', isScr, dRetN, dSeqN, dFnN, dFnNS, dIsi, dIsi2, dNeg, gAdd, Dl.gSub, gMul, gDiv, gMod, gPow, gEq, gNe, gLt, gLe, gGt, gGe, gIs, gIsNot, isNone, gIx, gLen, gMax, gMin, gSum, gAll, gAbs, gInt, gTuple, gList, gListS, gStrI, gRepr, gJoin, gSw, gEw, gAscii, gAlpha, gLower, List.set, List.map, List.length_cons, List.length_nil, List.cons_append, List.nil_append, List.replicate, dWipe, Nat.reduceAdd, Nat.reduceSub, dChain, gInTup, dFnMN, dkD, dInD, dNotInD, dGetD, dPutD, dic', isDic, keyQ, keyP, dLRg, dkN2, dBor, nstD, dN0, dFnNK, flatO, flatCl, dSortS, gNeS, gIn, gNotIn, gIndex, isLstD, dMthL, gDivmod, sh_non, sh_bl, sh_int, nd_non, nd_bl, nd_int, nd_str, nd_lst, nd_tup, nds_nil, nds_cons, ev_int, ev_str, ev_bl, isi_str_non, isi_str_bl, isi_str_int, isi_str_str, isi_str_lst, isi_str_tup, isi_int_non, isi_int_bl, isi_int_int, isi_int_str, isi_int_lst, isi_int_tup, isi_bool_non, isi_bool_bl, isi_bool_int, isi_bool_str, isi_bool_lst, isi_bool_tup, isi_list_non, isi_list_bl, isi_list_int, isi_list_str, isi_list_lst, isi_list_tup, isi_tuple_non, isi_tuple_bl, isi_tuple_int, isi_tuple_str, isi_tuple_lst, isi_tuple_tup, Bool.not_true, Bool.not_false, Bool.true_or, Bool.false_or, Bool.or_false, Bool.or_true, Bool.true_and, Bool.false_and, Bool.and_true, Bool.and_false, Bool.false_eq_true, if_true, if_false, true_and, and_true, eq_self_iff_true, beq_self_eq_true, atI_0, atI_1, atI_2, atI_3, atI_4, atI_5, atI_6, atI_7, atI_8, atI_9, atI_10, atI_11, atI_12, atI_13, atI_14, ixN_3_0, ixN_3_1, ixN_3_2, Option.some.injEq, exists_eq_left', Int.reduceToNat, Int.reduceNeg, rowT]
    refine ⟨⟨by decide, by decide, by omega, by omega⟩, ?_⟩
    have en : (((ws.length : Nat) : Int) - 1).toNat = ws.length - 1 := by omega
    rw [en]
    refine for_ind (fun i Γ => ∃ o, Γ = [some (.d (rowT ws)), some (.d (.str last)), some (.d (.str first)), some (.own p (.none :: (List.range i).map fun i => stepT (ws.getD i "" ++ last) (ws.getD (i + 1) "" ++ first))), o]) ⟨none, rfl⟩ ?_ fun Γ h => ?_
    · rintro i d Γ hi ⟨o, rfl⟩ K hk
      obtain ⟨hi2, rfl⟩ := rng1_at hi
      obtain ⟨x, hx⟩ : ∃ x, ws[i]? = some x := ⟨_, List.getElem?_eq_getElem (by omega)⟩
      obtain ⟨y, hy⟩ : ∃ y, ws[i + 1]? = some y := ⟨_, List.getElem?_eq_getElem (by omega)⟩
      have e1 : (1 : Int) + (i : Int) - 1 = ((i : Nat) : Int) := by omega
      have e2 : (1 : Int) + (i : Int) = ((i + 1 : Nat) : Int) := by omega
      have h1 : atI (ws.map PyData.str) ((1 : Int) + (i : Int) - 1) = some (.str x) := by rw [e1]; exact atI_map _ (atI_nat hx)
      have h2 : atI (ws.map PyData.str) ((1 : Int) + (i : Int)) = some (.str y) := by rw [e2]; exact atI_map _ (atI_nat hy)
      have ox := hw3 x (List.mem_of_getElem? hx)
      have oy := hw3 y (List.mem_of_getElem? hy)
      simp only [h1, h2, dSeq, dSet, dkE, dkL, dVar, dVarK, at', startD, dC, dOp, dCmp, dVal, dTest, dNot, dAnd, dOr, dAndV, dOrV, dNotV, dIf, dNil, dCons, dTup, dLst, dFrz, dCall, dMth, isStr, dPart0, dPart, dSl, gSlice, dStep, dRevL, dNext, dNever, dRet, dDrop, dIfS, dPar, dPar3, dAsg, dFor, dWhile, dLc, dLc2, gN, gTupD, gNc, gN0, dYes, dSq, dSeqL, dSeqT, dSeqS, dRng1, dRng2, dRng3, dEnum, dEnumT, dZip, dFn, dFnM, dFnK, own', isOwn, dMut, gApp, gExt, dSto, dIxO, dLenO, dLenS, dIxS', dFnS, scr', isScr, dRetN, dSeqN, dFnN, dFnNS, dIsi, dIsi2, dNeg, gAdd, Dl.gSub, gMul, gDiv, gMod, gPow, gEq, gNe, gLt, gLe, gGt, gGe, gIs, gIsNot, isNone, gIx, gLen, gMax, gMin, gSum, gAll, gAbs, gInt, gTuple, gList, gListS, gStrI, gRepr, gJoin, gSw, gEw, gAscii, gAlpha, gLower, List.set, List.map, List.length_cons, List.length_nil, List.cons_append, List.nil_append, List.replicate, dWipe, Nat.reduceAdd, Nat.reduceSub, dChain, gInTup, dFnMN, dkD, dInD, dNotInD, dGetD, dPutD, dic', isDic, keyQ, keyP, dLRg, dkN2, dBor, nstD, dN0, dFnNK, flatO, flatCl, dSortS, gNeS, gIn, gNotIn, gIndex, isLstD, dMthL, gDivmod, sh_non, sh_bl, sh_int, nd_non, nd_bl, nd_int, nd_str, nd_lst, nd_tup, nds_nil, nds_cons, ev_int, ev_str, ev_bl, isi_str_non, isi_str_bl, isi_str_int, isi_str_str, isi_str_lst, isi_str_tup, isi_int_non, isi_int_bl, isi_int_int, isi_int_str, isi_int_lst, isi_int_tup, isi_bool_non, isi_bool_bl, isi_bool_int, isi_bool_str, isi_bool_lst, isi_bool_tup, isi_list_non, isi_list_bl, isi_list_int, isi_list_str, isi_list_lst, isi_list_tup, isi_tuple_non, isi_tuple_bl, isi_tuple_int, isi_tuple_str, isi_tuple_lst, isi_tuple_tup, Bool.not_true, Bool.not_false, Bool.true_or, Bool.false_or, Bool.or_false, Bool.or_true, Bool.true_and, Bool.false_and, Bool.and_true, Bool.and_false, Bool.false_eq_true, if_true, if_false, true_and, and_true, eq_self_iff_true, beq_self_eq_true, atI_0, atI_1, atI_2, atI_3, atI_4, atI_5, atI_6, atI_7, atI_8, atI_9, atI_10, atI_11, atI_12, atI_13, atI_14, ixN_3_0, ixN_3_1, ixN_3_2, Option.some.injEq, exists_eq_left', Int.reduceToNat, Int.reduceNeg, rowT]
      refine ⟨sl_le (by omega), sl_le (by omega), x ++ last, y ++ first, rfl, ⟨ox.1.app hl1.1, by rw [len_app]; omega⟩, ⟨oy.1.app hf1.1, by rw [len_app]; omega⟩, ?_⟩
      have gx : ws.getD i "" = x := by rw [List.getD_eq_getElem?_getD, hx]; rfl
      have gy : ws.getD (i + 1) "" = y := by rw [List.getD_eq_getElem?_getD, hy]; rfl
      have e3 : (.none :: (List.range i).map fun i => stepT (ws.getD i "" ++ last) (ws.getD (i + 1) "" ++ first)) ++ [stepT (x ++ last) (y ++ first)] = .none :: (List.range (i + 1)).map fun i => stepT (ws.getD i "" ++ last) (ws.getD (i + 1) "" ++ first) := by
        rw [List.range_succ, List.map_append, List.cons_append, List.map_cons, List.map_nil, gx, gy]
      rw [← e3] at hk
      refine ⟨?_, hk _ ⟨_, rfl⟩⟩
      rw [List.length_map, List.length_range]
      exact Nat.lt_of_lt_of_le (by omega : i + 1 < 5000) (sl_le (by decide))
    · obtain ⟨o, rfl⟩ := h
      have el : (rngD 1 (ws.length - 1)).length = ws.length - 1 := by unfold rngD; rw [List.length_map, List.length_range]
      rw [el]
      exact ⟨o, rfl⟩
  · rintro Γ ⟨o, rfl⟩
    exact q
end
end C12
namespace C12
open PySem PySem.Spec PyProof.Rows L2 TL Bl Dl Pm
-- DLJ DLK
section
variable {P : Program} {w : World} {K : PySem.W.Frag} {mg : Str → Option Value} {base : Heap}
def stepD (p : Str × Str) : PyData := rowT [p.1, p.2]
def stepsL (ws : List Str) : PyData := .list (.none :: (List.range (ws.length - 1)).map fun i => stepD (stp ws (i + 1)))
theorem steps_eq (ws : List Str) : stepsT ws "" "" = stepsL ws := by
  unfold stepsT stepsL stepD stp
  simp only [app_nil, Nat.add_sub_cancel]
  rfl
theorem steps_len {ws : List Str} (h : 1 ≤ ws.length) : (PyData.none :: (List.range (ws.length - 1)).map fun i => stepD (stp ws (i + 1))).length = ws.length := by
  rw [List.length_cons, List.length_map, List.length_range]
  omega
theorem steps_at {ws : List Str} {k : Nat} (h1 : 1 ≤ k) (h : k < ws.length) : atI (PyData.none :: (List.range (ws.length - 1)).map fun i => stepD (stp ws (i + 1))) (k : Int) = some (stepD (stp ws k)) := by
  refine atI_nat ?_
  rw [show k = (k - 1) + 1 from by omega, List.getElem?_cons_succ, List.getElem?_map, List.getElem?_range (by omega)]
  rfl
theorem stp_ok {b : Nat} {ws : List Str} (h : WdsOk b ws) {k : Nat} (hk : k < ws.length) : WdsOk b [(stp ws k).1, (stp ws k).2] := fun z hz => by
  have g : ∀ j, j < ws.length → Lets (ws.getD j "") ∧ (ws.getD j "").length ≤ b := fun j hj => h _ (List.mem_of_getElem? (at_getD hj))
  simp only [List.mem_cons, List.not_mem_nil, or_false] at hz
  rcases hz with rfl | rfl
  · exact ⟨lets_drop (g _ (by omega)).1 _, Nat.le_trans (Bl.len_drop _ _) (g _ (by omega)).2⟩
  · exact ⟨lets_drop (g _ hk).1 _, Nat.le_trans (Bl.len_drop _ _) (g _ hk).2⟩
theorem step_sh {b : Nat} {ws : List Str} (h : WdsOk b ws) {k : Nat} (hk : k < ws.length) : noDic (stepD (stp ws k)) = true ∧ SeqAt.shaped (stepD (stp ws k)) = true := ⟨rfl, shaped_row (stp_ok h hk)⟩
theorem step_eqv (p q : Str × Str) : PyData.eqv (stepD p) (stepD q) = decide (p = q) := by
  unfold stepD
  rw [eqv_row]
  obtain ⟨a, b⟩ := p
  obtain ⟨c, d⟩ := q
  simp
theorem int_ne {r : Nat} (h : ¬ r = 0) : (!((r : Int) == 0)) = true := by simpa using h
theorem int_eq {r : Nat} (h : r = 0) : ¬ (!((r : Int) == 0)) = true := by simpa using h
theorem int_pos {r : Nat} (h : 0 < r) : decide ((0 : Int) < (r : Int)) = true := by simpa using h
theorem int_npos {r : Nat} (h : ¬ 0 < r) : ¬ decide ((0 : Int) < (r : Int)) = true := by simpa using h
def confT : Option (Nat × Nat) → PyData
  | some (a, b) => .tuple [.int (a : Int), .int (b : Int)]
  | none => .none
def t_conflict : GN := fun ds Q => ∃ (ws : List Str) (m : Nat), ds = [stepsL ws, .int (m : Int)] ∧ RowOk ws ∧ 1 ≤ m ∧ m < 2 ^ 400 ∧ Q (confT (conf ws m))
theorem d_conflict (a : At K mg "conflict" s_conflict ["steps", "size"]) (B : Names mg) : FD P w K mg base "conflict" 1 2 t_conflict := by
  obtain ⟨f, fd, F, m, b⟩ := a
  refine ⟨f, fd, _, ok_D F sc_conflict (by decide) (fun cdv A outer s H E hr => (dss_cons (ds_if (dt_cmp (op_neDD hr.units) (de_op op_modD (de_callB cr_lenD (by rfl) B.len (by decide +kernel) (da_cons (de_var 0) da_nil)) (de_var 1)) de_int) (dss_one (ds_ret (de_tup (da_cons de_int (da_cons de_int da_nil))))) dss_nil)
      (dss_cut (ds_for PassesOwn.never rfl (di_range2 (by rfl) B.range (da_cons (de_op op_addD (de_var 1) de_int) (da_cons (de_callB cr_lenD (by rfl) B.len (by decide +kernel) (da_cons (de_var 0) da_nil)) da_nil))) (dg_name (i := 2) sc_conflict.nd rfl (Or.inl rfl)) (dss_cons (ds_set (i := 3) sc_conflict.nd rfl (Or.inl rfl) (dk_e (de_op op_modD (de_var 2) (de_var 1))))
      (dss_one (ds_if (DW.pt (dw_and (dt_cmp op_gtD (de_var 3) de_int) (dw_and1 (dt_cmp (op_neDD hr.units) (de_ix ix_D (de_var 0) (de_var 2)) (de_ix ix_D (de_var 0) (de_var 3)))))) (dss_one (ds_ret (de_tup (da_cons (de_var 2) (da_cons (de_var 3) da_nil))))) dss_nil))))
      (dss_one (ds_ret de_non))))
      ) (fun ds Q0 hl h => ?_), m, F.kp, b⟩
  obtain ⟨ws, m, rfl, hw, h1, hm, q⟩ := h
  have n1 := hw.ne
  have n4 := hw.len
  simp only [stepsL, steps_len n1, dSeq, dSet, dkE, dkL, dVar, dVarK, at', startD, dC, dOp, dCmp, dVal, dTest, dNot, dAnd, dOr, dAndV, dOrV, dNotV, dIf, dNil, dCons, dTup, dLst, dFrz, dCall, dMth, isStr, dPart0, dPart, dSl, gSlice, dStep, dRevL, dNext, dNever, dRet, dDrop, dIfS, dPar, dPar3, dAsg, dFor, dWhile, dLc, dLc2, gN, gTupD, gNc, gN0, dYes, dSq, dSeqL, dSeqT, dSeqS, dRng1, dRng2, dRng3, dEnum, dEnumT, dZip, dFn, dFnM, dFnK, own', isOwn, dMut, gApp, gExt, dSto, dIxO, dLenO, dLenS, dIxS', dFnS, scr', isScr, dRetN, dSeqN, dFnN, dFnNS, dIsi, dIsi2, dNeg, gAdd, Dl.gSub, gMul, gDiv, gMod, gPow, gEq, gNe, gLt, gLe, gGt, gGe, gIs, gIsNot, isNone, gIx, gLen, gMax, gMin, gSum, gAll, gAbs, gInt, gTuple, gList, gListS, gStrI, gRepr, gJoin, gSw, gEw, gAscii, gAlpha, gLower, List.set, List.map, List.length_cons, List.length_nil, List.cons_append, List.nil_append, List.replicate, dWipe, Nat.reduceAdd, Nat.reduceSub, dChain, gInTup, dFnMN, dkD, dInD, dNotInD, dGetD, dPutD, dic', isDic, keyQ, keyP, dLRg, dkN2, dBor, nstD, dN0, dFnNK, flatO, flatCl, dSortS, gNeS, gIn, gNotIn, gIndex, isLstD, dMthL, gDivmod, sh_non, sh_bl, sh_int, nd_non, nd_bl, nd_int, nd_str, nd_lst, nd_tup, nds_nil, nds_cons, ev_int, ev_str, ev_bl, isi_str_non, isi_str_bl, isi_str_int, isi_str_str, isi_str_lst, isi_str_tup, isi_int_non, isi_int_bl, isi_int_int, isi_int_str, isi_int_lst, isi_int_tup, isi_bool_non, isi_bool_bl, isi_bool_int, isi_bool_str, isi_bool_lst, isi_bool_tup, isi_list_non, isi_list_bl, isi_list_int, isi_list_str, isi_list_lst, isi_list_tup, isi_tuple_non, isi_tuple_bl, isi_tuple_int, isi_tuple_str, isi_tuple_lst, isi_tuple_tup, Bool.not_true, Bool.not_false, Bool.true_or, Bool.false_or, Bool.or_false, Bool.or_true, Bool.true_and, Bool.false_and, Bool.and_true, Bool.and_false, Bool.false_eq_true, if_true, if_false, true_and, and_true, eq_self_iff_true, beq_self_eq_true, atI_0, atI_1, atI_2, atI_3, atI_4, atI_5, atI_6, atI_7, atI_8, atI_9, atI_10, atI_11, atI_12, atI_13, atI_14, ixN_3_0, ixN_3_1, ixN_3_2, Option.some.injEq, exists_eq_left', Int.reduceToNat, Int.reduceNeg, rowT]
  refine ⟨by omega, ?_⟩
  have em : ((ws.length : Nat) : Int) % (m : Int) = ((ws.length % m : Nat) : Int) := rfl
  by_cases hd : ws.length % m = 0
  case neg =>
    have ec : conf ws m = some (0, 0) := by unfold conf; rw [if_pos hd]
    rw [ec] at q
    exact if_y (by rw [em]; exact int_ne hd) ⟨sl_le (by decide), q⟩
  have mn : m ≤ ws.length := Nat.le_of_dvd n1 (Nat.dvd_of_mod_eq_zero hd)
  refine if_n (by rw [em]; exact int_eq hd) ?_
  refine dCut_open (fun Γ => ∃ o2 o3, Γ = [some (.d (stepsL ws)), some (.d (.int (m : Int))), o2, o3] ∧ ∀ k, m < k → k < ws.length → ¬ Bad ws m k) ?_ ?_
  · simp only [steps_len n1, dSeq, dSet, dkE, dkL, dVar, dVarK, at', startD, dC, dOp, dCmp, dVal, dTest, dNot, dAnd, dOr, dAndV, dOrV, dNotV, dIf, dNil, dCons, dTup, dLst, dFrz, dCall, dMth, isStr, dPart0, dPart, dSl, gSlice, dStep, dRevL, dNext, dNever, dRet, dDrop, dIfS, dPar, dPar3, dAsg, dFor, dWhile, dLc, dLc2, gN, gTupD, gNc, gN0, dYes, dSq, dSeqL, dSeqT, dSeqS, dRng1, dRng2, dRng3, dEnum, dEnumT, dZip, dFn, dFnM, dFnK, own', isOwn, dMut, gApp, gExt, dSto, dIxO, dLenO, dLenS, dIxS', dFnS, scr', isScr, dRetN, dSeqN, dFnN, dFnNS, dIsi, dIsi2, dNeg, gAdd, Dl.gSub, gMul, gDiv, gMod, gPow, gEq, gNe, gLt, gLe, gGt, gGe, gIs, gIsNot, isNone, gIx, gLen, gMax, gMin, gSum, gAll, gAbs, gInt, gTuple, gList, gListS, gStrI, gRepr, gJoin, gSw, gEw, gAscii, gAlpha, gLower, List.set, List.map, List.length_cons, List.length_nil, List.cons_append, List.nil_append, List.replicate, dWipe, Nat.reduceAdd, Nat.reduceSub, dChain, gInTup, dFnMN, dkD, dInD, dNotInD, dGetD, dPutD, dic', isDic, keyQ, keyP, dLRg, dkN2, dBor, nstD, dN0, dFnNK, flatO, flatCl, dSortS, gNeS, gIn, gNotIn, gIndex, isLstD, dMthL, gDivmod, sh_non, sh_bl, sh_int, nd_non, nd_bl, nd_int, nd_str, nd_lst, nd_tup, nds_nil, nds_cons, ev_int, ev_str, ev_bl, isi_str_non, isi_str_bl, isi_str_int, isi_str_str, isi_str_lst, isi_str_tup, isi_int_non, isi_int_bl, isi_int_int, isi_int_str, isi_int_lst, isi_int_tup, isi_bool_non, isi_bool_bl, isi_bool_int, isi_bool_str, isi_bool_lst, isi_bool_tup, isi_list_non, isi_list_bl, isi_list_int, isi_list_str, isi_list_lst, isi_list_tup, isi_tuple_non, isi_tuple_bl, isi_tuple_int, isi_tuple_str, isi_tuple_lst, isi_tuple_tup, Bool.not_true, Bool.not_false, Bool.true_or, Bool.false_or, Bool.or_false, Bool.or_true, Bool.true_and, Bool.false_and, Bool.and_true, Bool.and_false, Bool.false_eq_true, if_true, if_false, true_and, and_true, eq_self_iff_true, beq_self_eq_true, atI_0, atI_1, atI_2, atI_3, atI_4, atI_5, atI_6, atI_7, atI_8, atI_9, atI_10, atI_11, atI_12, atI_13, atI_14, ixN_3_0, ixN_3_1, ixN_3_2, Option.some.injEq, exists_eq_left', Int.reduceToNat, Int.reduceNeg, rowT]
    refine ⟨⟨by omega, by omega, by omega, by omega⟩, ?_⟩
    have en : (((ws.length : Nat) : Int) - ((m : Int) + 1)).toNat = ws.length - (m + 1) := by omega
    rw [en]
    refine for_ind (fun i Γ => ∃ o2 o3, Γ = [some (.d (stepsL ws)), some (.d (.int (m : Int))), o2, o3] ∧ ∀ k, m < k → k < m + 1 + i → ¬ Bad ws m k) ⟨none, none, rfl, fun k a b => by omega⟩ ?_ fun Γ h => ?_
    · rintro i d Γ hi ⟨o2, o3, rfl, hb⟩ K hk
      obtain ⟨hi2, rfl⟩ := rng1_at hi
      have ek : (m : Int) + 1 + (i : Int) = ((m + 1 + i : Nat) : Int) := by omega
      rw [ek]
      have er : ((m + 1 + i : Nat) : Int) % (m : Int) = (((m + 1 + i) % m : Nat) : Int) := rfl
      simp only [stepsL, steps_len n1, dSeq, dSet, dkE, dkL, dVar, dVarK, at', startD, dC, dOp, dCmp, dVal, dTest, dNot, dAnd, dOr, dAndV, dOrV, dNotV, dIf, dNil, dCons, dTup, dLst, dFrz, dCall, dMth, isStr, dPart0, dPart, dSl, gSlice, dStep, dRevL, dNext, dNever, dRet, dDrop, dIfS, dPar, dPar3, dAsg, dFor, dWhile, dLc, dLc2, gN, gTupD, gNc, gN0, dYes, dSq, dSeqL, dSeqT, dSeqS, dRng1, dRng2, dRng3, dEnum, dEnumT, dZip, dFn, dFnM, dFnK, own', isOwn, dMut, gApp, gExt, dSto, dIxO, dLenO, dLenS, dIxS', dFnS, scr', isScr, dRetN, dSeqN, dFnN, dFnNS, dIsi, dIsi2, dNeg, gAdd, Dl.gSub, gMul, gDiv, gMod, gPow, gEq, gNe, gLt, gLe, gGt, gGe, gIs, gIsNot, isNone, gIx, gLen, gMax, gMin, gSum, gAll, gAbs, gInt, gTuple, gList, gListS, gStrI, gRepr, gJoin, gSw, gEw, gAscii, gAlpha, gLower, List.set, List.map, List.length_cons, List.length_nil, List.cons_append, List.nil_append, List.replicate, dWipe, Nat.reduceAdd, Nat.reduceSub, dChain, gInTup, dFnMN, dkD, dInD, dNotInD, dGetD, dPutD, dic', isDic, keyQ, keyP, dLRg, dkN2, dBor, nstD, dN0, dFnNK, flatO, flatCl, dSortS, gNeS, gIn, gNotIn, gIndex, isLstD, dMthL, gDivmod, sh_non, sh_bl, sh_int, nd_non, nd_bl, nd_int, nd_str, nd_lst, nd_tup, nds_nil, nds_cons, ev_int, ev_str, ev_bl, isi_str_non, isi_str_bl, isi_str_int, isi_str_str, isi_str_lst, isi_str_tup, isi_int_non, isi_int_bl, isi_int_int, isi_int_str, isi_int_lst, isi_int_tup, isi_bool_non, isi_bool_bl, isi_bool_int, isi_bool_str, isi_bool_lst, isi_bool_tup, isi_list_non, isi_list_bl, isi_list_int, isi_list_str, isi_list_lst, isi_list_tup, isi_tuple_non, isi_tuple_bl, isi_tuple_int, isi_tuple_str, isi_tuple_lst, isi_tuple_tup, Bool.not_true, Bool.not_false, Bool.true_or, Bool.false_or, Bool.or_false, Bool.or_true, Bool.true_and, Bool.false_and, Bool.and_true, Bool.and_false, Bool.false_eq_true, if_true, if_false, true_and, and_true, eq_self_iff_true, beq_self_eq_true, atI_0, atI_1, atI_2, atI_3, atI_4, atI_5, atI_6, atI_7, atI_8, atI_9, atI_10, atI_11, atI_12, atI_13, atI_14, ixN_3_0, ixN_3_1, ixN_3_2, Option.some.injEq, exists_eq_left', Int.reduceToNat, Int.reduceNeg, rowT]
      refine ⟨by omega, ?_⟩
      rw [er]
      have rl := Nat.mod_lt (m + 1 + i) h1
      have a1 := steps_at (ws := ws) (k := m + 1 + i) (by omega) (by omega)
      by_cases r0 : 0 < (m + 1 + i) % m
      case neg =>
        refine if_n (int_npos r0) (hk _ ⟨_, _, rfl, fun k c1 c2 => ?_⟩)
        by_cases e : k = m + 1 + i
        · exact fun z => r0 (by rw [← e]; exact z.1)
        · exact hb k c1 (by omega)
      have a2 := steps_at (ws := ws) (k := (m + 1 + i) % m) (by omega) (by omega)
      have s1 := step_sh hw.ok (k := m + 1 + i) (by omega)
      have s2 := step_sh hw.ok (k := (m + 1 + i) % m) (by omega)
      refine if_y (int_pos r0) ⟨_, a1, _, a2, ⟨s1.1, s2.1, s1.2, s2.2⟩, ?_⟩
      rw [step_eqv]
      by_cases e : stp ws (m + 1 + i) = stp ws ((m + 1 + i) % m)
      · refine if_n (by simpa using e) (hk _ ⟨_, _, rfl, fun k c1 c2 => ?_⟩)
        by_cases e2 : k = m + 1 + i
        · exact fun z => z.2 (by rw [e2]; exact e)
        · exact hb k c1 (by omega)
      · rw [conf_some hd (by omega) (by omega) ⟨r0, e⟩ fun j c1 c2 => hb j c1 c2] at q
        exact if_y (by simpa using e) ⟨sl_le (by decide), q⟩
    · obtain ⟨o2, o3, rfl, hb⟩ := h
      have el : (rngD ((m : Int) + 1) (ws.length - (m + 1))).length = ws.length - (m + 1) := by unfold rngD; rw [List.length_map, List.length_range]
      rw [el] at hb
      exact ⟨o2, o3, rfl, fun k c1 c2 => hb k c1 (by omega)⟩
  rintro Γ ⟨o2, o3, rfl, hb⟩
  rw [(conf_none hd).mpr hb] at q
  exact q
def natsL (ms : List Nat) : List PyData := ms.map fun (m : Nat) => PyData.int (m : Int)
def t_rsz : GNL := fun ds Q => ∃ ws : List Str, ds = [rowT ws] ∧ RowOk ws ∧ Q (natsL (rsz ws))
theorem o_right_sizes {f : Addr} {fd : FuncData} (F : Fun K "right_sizes" "right_sizes" s_right_sizes f fd) (B : Names mg) (h_check_row : FD P w K mg base "check_row" 3 1 t_check_row) (h_steps_of : FD P w K mg base "steps_of" 3 3 t_steps) (h_conflict : FD P w K mg base "conflict" 1 2 t_conflict) : FnOk P w K mg base CX0 4 f fd ["row"] (spN 1 t_rsz K) := by
  refine ok_N F sc_right_sizes (by decide) (fun cdv A outer s H E hr => (dsn_cons (ds_expr (de_fn h_check_row (hr.mono (by decide)) (by rfl) (fun _ => pass0) (da_cons (de_var 0) da_nil))) (dsn_cons (ds_set (i := 1) sc_right_sizes.nd rfl (Or.inr rfl) (dk_e (de_fn h_steps_of (hr.mono (by decide)) (by rfl) (fun _ => pass0) (da_cons (de_var 0) (da_cons de_str (da_cons de_str da_nil)))))) (dsn_ret (dl_lc (own := [("size", 2)]) rfl sc_right_sizes.nd (di_range2 (by rfl) B.range (da_cons de_int (da_cons (de_op op_addD (de_callB cr_lenD (by rfl) B.len (by decide +kernel) (da_cons (de_var 0) da_nil)) de_int) da_nil))) (blkOk_by (N := ["row", "steps", "size"]) (sc := defScope s_right_sizes) (by decide +kernel)) (fun _ _ _ _ _ => (dg_name (i := 2) sc_right_sizes.nd rfl (Or.inl rfl))) (fun _ _ _ _ _ => (dq_one (dt_cmp op_isD (de_fn h_conflict (hr.mono (by decide)) (by rfl) (fun _ => pass0) (da_cons (de_var 1) (da_cons (de_var 2) da_nil))) de_non))) (fun _ _ _ _ _ => (de_var 2))))))
      ) (fun ds Q0 hl h => ?_)
  obtain ⟨ws, rfl, hw, q⟩ := h
  simp only [dSeq, dSet, dkE, dkL, dVar, dVarK, at', startD, dC, dOp, dCmp, dVal, dTest, dNot, dAnd, dOr, dAndV, dOrV, dNotV, dIf, dNil, dCons, dTup, dLst, dFrz, dCall, dMth, isStr, dPart0, dPart, dSl, gSlice, dStep, dRevL, dNext, dNever, dRet, dDrop, dIfS, dPar, dPar3, dAsg, dFor, dWhile, dLc, dLc2, gN, gTupD, gNc, gN0, dYes, dSq, dSeqL, dSeqT, dSeqS, dRng1, dRng2, dRng3, dEnum, dEnumT, dZip, dFn, dFnM, dFnK, own', isOwn, dMut, gApp, gExt, dSto, dIxO, dLenO, dLenS, dIxS', dFnS, scr', isScr, dRetN, dSeqN, dFnN, dFnNS, dIsi, dIsi2, dNeg, gAdd, Dl.gSub, gMul, gDiv, gMod, gPow, gEq, gNe, gLt, gLe, gGt, gGe, gIs, gIsNot, isNone, gIx, gLen, gMax, gMin, gSum, gAll, gAbs, gInt, gTuple, gList, gListS, gStrI, gRepr, gJoin, gSw, gEw, gAscii, gAlpha, gLower, List.set, List.map, List.length_cons, List.length_nil, List.cons_append, List.nil_append, List.replicate, dWipe, Nat.reduceAdd, Nat.reduceSub, dChain, gInTup, dFnMN, dkD, dInD, dNotInD, dGetD, dPutD, dic', isDic, keyQ, keyP, dLRg, dkN2, dBor, nstD, dN0, dFnNK, flatO, flatCl, dSortS, gNeS, gIn, gNotIn, gIndex, isLstD, dMthL, gDivmod, sh_non, sh_bl, sh_int, nd_non, nd_bl, nd_int, nd_str, nd_lst, nd_tup, nds_nil, nds_cons, ev_int, ev_str, ev_bl, isi_str_non, isi_str_bl, isi_str_int, isi_str_str, isi_str_lst, isi_str_tup, isi_int_non, isi_int_bl, isi_int_int, isi_int_str, isi_int_lst, isi_int_tup, isi_bool_non, isi_bool_bl, isi_bool_int, isi_bool_str, isi_bool_lst, isi_bool_tup, isi_list_non, isi_list_bl, isi_list_int, isi_list_str, isi_list_lst, isi_list_tup, isi_tuple_non, isi_tuple_bl, isi_tuple_int, isi_tuple_str, isi_tuple_lst, isi_tuple_tup, Bool.not_true, Bool.not_false, Bool.true_or, Bool.false_or, Bool.or_false, Bool.or_true, Bool.true_and, Bool.false_and, Bool.and_true, Bool.and_false, Bool.false_eq_true, if_true, if_false, true_and, and_true, eq_self_iff_true, beq_self_eq_true, atI_0, atI_1, atI_2, atI_3, atI_4, atI_5, atI_6, atI_7, atI_8, atI_9, atI_10, atI_11, atI_12, atI_13, atI_14, ixN_3_0, ixN_3_1, ixN_3_2, Option.some.injEq, exists_eq_left', Int.reduceToNat, Int.reduceNeg, rowT]
  refine ⟨ws, rfl, hw, ws, _, _, rfl, ⟨hw.ne, hw.len, hw.ok⟩, ⟨Lets.nil, by decide⟩, ⟨Lets.nil, by decide⟩, ?_⟩
  have n1 := hw.ne
  have n4 := hw.len
  rw [steps_eq, List.length_map]
  refine ⟨⟨by decide, by decide, by omega, by omega⟩, ?_⟩
  have en : (((ws.length : Nat) : Int) + 1 - 1).toNat = ws.length := by omega
  rw [en]
  refine lc_filter (fun (i : Nat) => PyData.int (1 + (i : Int))) (fun (i : Nat) => PyData.int (1 + (i : Int))) (fun i => decide (conf ws (i + 1) = none)) rfl (sl_le (by rw [List.length_range]; omega)) (fun i hi K2 K0 hk2 hk0 => ?_) ?_
  · have hi := List.mem_range.mp hi
    have e1 : (1 : Int) + (i : Int) = ((i + 1 : Nat) : Int) := by omega
    simp only [dSeq, dSet, dkE, dkL, dVar, dVarK, at', startD, dC, dOp, dCmp, dVal, dTest, dNot, dAnd, dOr, dAndV, dOrV, dNotV, dIf, dNil, dCons, dTup, dLst, dFrz, dCall, dMth, isStr, dPart0, dPart, dSl, gSlice, dStep, dRevL, dNext, dNever, dRet, dDrop, dIfS, dPar, dPar3, dAsg, dFor, dWhile, dLc, dLc2, gN, gTupD, gNc, gN0, dYes, dSq, dSeqL, dSeqT, dSeqS, dRng1, dRng2, dRng3, dEnum, dEnumT, dZip, dFn, dFnM, dFnK, own', isOwn, dMut, gApp, gExt, dSto, dIxO, dLenO, dLenS, dIxS', dFnS, scr', isScr, dRetN, dSeqN, dFnN, dFnNS, dIsi, dIsi2, dNeg, gAdd, Dl.gSub, gMul, gDiv, gMod, gPow, gEq, gNe, gLt, gLe, gGt, gGe, gIs, gIsNot, isNone, gIx, gLen, gMax, gMin, gSum, gAll, gAbs, gInt, gTuple, gList, gListS, gStrI, gRepr, gJoin, gSw, gEw, gAscii, gAlpha, gLower, List.set, List.map, List.length_cons, List.length_nil, List.cons_append, List.nil_append, List.replicate, dWipe, Nat.reduceAdd, Nat.reduceSub, dChain, gInTup, dFnMN, dkD, dInD, dNotInD, dGetD, dPutD, dic', isDic, keyQ, keyP, dLRg, dkN2, dBor, nstD, dN0, dFnNK, flatO, flatCl, dSortS, gNeS, gIn, gNotIn, gIndex, isLstD, dMthL, gDivmod, sh_non, sh_bl, sh_int, nd_non, nd_bl, nd_int, nd_str, nd_lst, nd_tup, nds_nil, nds_cons, ev_int, ev_str, ev_bl, isi_str_non, isi_str_bl, isi_str_int, isi_str_str, isi_str_lst, isi_str_tup, isi_int_non, isi_int_bl, isi_int_int, isi_int_str, isi_int_lst, isi_int_tup, isi_bool_non, isi_bool_bl, isi_bool_int, isi_bool_str, isi_bool_lst, isi_bool_tup, isi_list_non, isi_list_bl, isi_list_int, isi_list_str, isi_list_lst, isi_list_tup, isi_tuple_non, isi_tuple_bl, isi_tuple_int, isi_tuple_str, isi_tuple_lst, isi_tuple_tup, Bool.not_true, Bool.not_false, Bool.true_or, Bool.false_or, Bool.or_false, Bool.or_true, Bool.true_and, Bool.false_and, Bool.and_true, Bool.and_false, Bool.false_eq_true, if_true, if_false, true_and, and_true, eq_self_iff_true, beq_self_eq_true, atI_0, atI_1, atI_2, atI_3, atI_4, atI_5, atI_6, atI_7, atI_8, atI_9, atI_10, atI_11, atI_12, atI_13, atI_14, ixN_3_0, ixN_3_1, ixN_3_2, Option.some.injEq, exists_eq_left', Int.reduceToNat, Int.reduceNeg, rowT]
    refine ⟨ws, i + 1, by rw [e1], hw, by omega, Nat.lt_of_le_of_lt (by omega : i + 1 ≤ 5000) (by decide), ?_⟩
    cases hc : conf ws (i + 1) with
    | none => exact if_y rfl (hk2 (by rw [hc]; rfl) _ rfl)
    | some p => exact if_n (by simp [confT]) (hk0 (by rw [hc]; rfl) _ rfl)
  · have e : ((List.range ws.length).filter fun i => decide (conf ws (i + 1) = none)).map (fun (i : Nat) => PyData.int (1 + (i : Int))) = natsL (rsz ws) := by
      unfold natsL rsz
      rw [List.filter_map, List.map_map]
      refine List.map_congr_left fun i _ => ?_
      show PyData.int (1 + (i : Int)) = PyData.int ((i + 1 : Nat) : Int)
      rw [show (1 : Int) + (i : Int) = ((i + 1 : Nat) : Int) from by omega]
    rw [e]
    exact q
theorem d_right_sizes (a : At K mg "right_sizes" s_right_sizes ["row"]) (B : Names mg) (h_check_row : FD P w K mg base "check_row" 3 1 t_check_row) (h_steps_of : FD P w K mg base "steps_of" 3 3 t_steps) (h_conflict : FD P w K mg base "conflict" 1 2 t_conflict) : FN P w K mg base "right_sizes" 4 1 t_rsz := by
  obtain ⟨f, fd, F, m, b⟩ := a
  exact ⟨f, fd, _, o_right_sizes F B h_check_row h_steps_of h_conflict, m, F.kp, b⟩
theorem k_right_sizes (a : At K mg "right_sizes" s_right_sizes ["row"]) (B : Names mg) (h_check_row : FD P w K mg base "check_row" 3 1 t_check_row) (h_steps_of : FD P w K mg base "steps_of" 3 3 t_steps) (h_conflict : FD P w K mg base "conflict" 1 2 t_conflict) : FNK P w K mg base "right_sizes" ["row"] [0] 4 1 t_rsz := by
  obtain ⟨f, fd, F, m, b⟩ := a
  exact FN.kw F m (o_right_sizes F B h_check_row h_steps_of h_conflict) (by decide) fun _ _ _ _ _ _ ws hl => match ws, hl with
    | [], h => by simp [pmL] at h
    | w0 :: r, _ => rfl
end
end C12
namespace C12
open PySem PySem.Spec PyProof.Rows L2 TL Bl Dl Pm
-- DLJ DLK
theorem cnt_pos {rs : List (List Str)} (h : ∀ r ∈ rs, 1 ≤ r.length) : 0 < cnt rs := by
  have e : ∀ (rs : List (List Str)) (n : Nat), (∀ r ∈ rs, 1 ≤ r.length) → 0 < n → 0 < rs.foldl (fun n r => n * r.length) n := by
    intro rs
    induction rs with
    | nil => intro n _ h; exact h
    | cons r rs ih => intro n h hn; exact ih _ (fun q hq => h q (List.mem_cons_of_mem _ hq)) (Nat.mul_pos hn (h r List.mem_cons_self))
  exact e rs 1 h (by decide)
theorem sum_ones : ∀ {xs : List Str}, (∀ x ∈ xs, x.length = 1) → (xs.map (·.length)).sum = xs.length
  | [], _ => rfl
  | x :: r, h => by
    rw [List.map_cons, List.sum_cons, List.length_cons, sum_ones fun y hy => h y (List.mem_cons_of_mem _ hy), h x List.mem_cons_self, Nat.add_comm]
section
variable {P : Program} {w : World} {K : PySem.W.Frag} {mg : Str → Option Value} {base : Heap}
/-! ### the drawing -/
def t_cell_at : GNS := fun ns ds Q => ∃ k : Nat, ds = [.int (k : Int)] ∧ ∀ c : Int, Q (.int c)
theorem d_cell_at (a : At K mg "_law_cell_at" s__law_cell_at ["script", "k"]) (B : Names mg) : FS P w K mg base "_law_cell_at" 1 2 t_cell_at := by
  obtain ⟨f, fd, F, m, b⟩ := a
  refine ⟨f, fd, _, ok_S F sc__law_cell_at (by decide) (fun cdv A outer s H E hr => (dss_cons (ds_if (dt_cmp op_ltD (de_var 1) (de_lenS 0 (by rfl) B.len)) (dss_one (ds_ret (de_ixS 0 (de_var 1)))) dss_nil)
      (dss_one (ds_ret de_int)))
      ) (fun ns ds Q0 hl h => ?_), m, F.kp, b⟩
  obtain ⟨k, rfl, q⟩ := h
  simp only [dSeq, dCut, dSet, dkE, dkL, dVar, dVarK, at', startD, dC, dOp, dCmp, dVal, dTest, dNot, dAnd, dOr, dAndV, dOrV, dNotV, dIf, dNil, dCons, dTup, dLst, dFrz, dCall, dMth, isStr, dPart0, dPart, dSl, gSlice, dStep, dRevL, dNext, dNever, dRet, dDrop, dIfS, dPar, dPar3, dAsg, dFor, dWhile, dLc, dLc2, gN, gTupD, gNc, gN0, dYes, dSq, dSeqL, dSeqT, dSeqS, dRng1, dRng2, dRng3, dEnum, dEnumT, dZip, dFn, dFnM, dFnK, own', isOwn, dMut, gApp, gExt, dSto, dIxO, dLenO, dLenS, dIxS', dFnS, scr', isScr, dRetN, dSeqN, dFnN, dFnNS, dIsi, dIsi2, dNeg, gAdd, Dl.gSub, gMul, gDiv, gMod, gPow, gEq, gNe, gLt, gLe, gGt, gGe, gIs, gIsNot, isNone, gIx, gLen, gMax, gMin, gSum, gAll, gAbs, gInt, gTuple, gList, gListS, gStrI, gRepr, gJoin, gSw, gEw, gAscii, gAlpha, gLower, List.set, List.map, List.length_cons, List.length_nil, List.cons_append, List.nil_append, List.replicate, dWipe, Nat.reduceAdd, Nat.reduceSub, dChain, gInTup, dFnMN, dkD, dInD, dNotInD, dGetD, dPutD, dic', isDic, keyQ, keyP, dLRg, dkN2, dBor, nstD, dN0, dFnNK, flatO, flatCl, dSortS, gNeS, gIn, gNotIn, gIndex, isLstD, dMthL, gDivmod, sh_non, sh_bl, sh_int, nd_non, nd_bl, nd_int, nd_str, nd_lst, nd_tup, nds_nil, nds_cons, ev_int, ev_str, ev_bl, isi_str_non, isi_str_bl, isi_str_int, isi_str_str, isi_str_lst, isi_str_tup, isi_int_non, isi_int_bl, isi_int_int, isi_int_str, isi_int_lst, isi_int_tup, isi_bool_non, isi_bool_bl, isi_bool_int, isi_bool_str, isi_bool_lst, isi_bool_tup, isi_list_non, isi_list_bl, isi_list_int, isi_list_str, isi_list_lst, isi_list_tup, isi_tuple_non, isi_tuple_bl, isi_tuple_int, isi_tuple_str, isi_tuple_lst, isi_tuple_tup, Bool.not_true, Bool.not_false, Bool.true_or, Bool.false_or, Bool.or_false, Bool.or_true, Bool.true_and, Bool.false_and, Bool.and_true, Bool.and_false, Bool.false_eq_true, if_true, if_false, true_and, and_true, eq_self_iff_true, beq_self_eq_true, atI_0, atI_1, atI_2, atI_3, atI_4, atI_5, atI_6, atI_7, atI_8, atI_9, atI_10, atI_11, atI_12, atI_13, atI_14, ixN_3_0, ixN_3_1, ixN_3_2, Option.some.injEq, exists_eq_left', Int.reduceToNat, Int.reduceNeg, rowT]
  by_cases hk : k < ns.length
  · rw [if_pos (by simpa using hk)]
    exact ⟨ns[k], atI_nat (List.getElem?_eq_getElem hk), q _⟩
  · rw [if_neg (by simpa using hk)]
    exact q 0
def BagOk (n : Nat) (ys : List PyData) : Prop := ∃ a b c : Int, ys = [.int a, .int b, .int c] ∧ 0 ≤ a ∧ 0 ≤ b ∧ b < 2 ^ 200 ∧ 0 ≤ c ∧ c ≤ (n : Int)
theorem BagOk.mono {n m : Nat} {ys : List PyData} (h : BagOk n ys) (hm : n ≤ m) : BagOk m ys := by
  obtain ⟨a, b, c, e, h1, h2, h3, h4, h5⟩ := h
  exact ⟨a, b, c, e, h1, h2, h3, h4, by omega⟩
def t_bag : GNL := fun ds Q => ∃ (c : Int) (k : Nat), ds = [.int c, .int (k : Int)] ∧ k ≤ 100 ∧ ∀ ys, BagOk 0 ys → Q ys
theorem d_bag (a : At K mg "_law_bag" s__law_bag ["cell", "k"]) (B : Names mg) : FN P w K mg base "_law_bag" 1 2 t_bag := by
  obtain ⟨f, fd, F, m, b⟩ := a
  refine ⟨f, fd, _, ok_N F sc__law_bag (by decide) (fun cdv A outer s H E hr => (dsn_ret (dl_lst (da_cons (de_callB (cr_maxD rfl) (by rfl) B.max (by decide +kernel) (da_cons de_int (da_cons (de_op op_subD (de_var 0) (de_op op_powD de_int de_int)) da_nil))) (da_cons (de_op op_addD (de_op op_modD (de_var 0) de_int) (de_op op_mulD de_int (de_op op_addD (de_var 1) de_int))) (da_cons de_int da_nil)))))
      ) (fun ds Q0 hl h => ?_), m, F.kp, b⟩
  obtain ⟨c, k, rfl, hk, q⟩ := h
  simp only [dSeq, dCut, dSet, dkE, dkL, dVar, dVarK, at', startD, dC, dOp, dCmp, dVal, dTest, dNot, dAnd, dOr, dAndV, dOrV, dNotV, dIf, dNil, dCons, dTup, dLst, dFrz, dCall, dMth, isStr, dPart0, dPart, dSl, gSlice, dStep, dRevL, dNext, dNever, dRet, dDrop, dIfS, dPar, dPar3, dAsg, dFor, dWhile, dLc, dLc2, gN, gTupD, gNc, gN0, dYes, dSq, dSeqL, dSeqT, dSeqS, dRng1, dRng2, dRng3, dEnum, dEnumT, dZip, dFn, dFnM, dFnK, own', isOwn, dMut, gApp, gExt, dSto, dIxO, dLenO, dLenS, dIxS', dFnS, scr', isScr, dRetN, dSeqN, dFnN, dFnNS, dIsi, dIsi2, dNeg, gAdd, Dl.gSub, gMul, gDiv, gMod, gPow, gEq, gNe, gLt, gLe, gGt, gGe, gIs, gIsNot, isNone, gIx, gLen, gMax, gMin, gSum, gAll, gAbs, gInt, gTuple, gList, gListS, gStrI, gRepr, gJoin, gSw, gEw, gAscii, gAlpha, gLower, List.set, List.map, List.length_cons, List.length_nil, List.cons_append, List.nil_append, List.replicate, dWipe, Nat.reduceAdd, Nat.reduceSub, dChain, gInTup, dFnMN, dkD, dInD, dNotInD, dGetD, dPutD, dic', isDic, keyQ, keyP, dLRg, dkN2, dBor, nstD, dN0, dFnNK, flatO, flatCl, dSortS, gNeS, gIn, gNotIn, gIndex, isLstD, dMthL, gDivmod, sh_non, sh_bl, sh_int, nd_non, nd_bl, nd_int, nd_str, nd_lst, nd_tup, nds_nil, nds_cons, ev_int, ev_str, ev_bl, isi_str_non, isi_str_bl, isi_str_int, isi_str_str, isi_str_lst, isi_str_tup, isi_int_non, isi_int_bl, isi_int_int, isi_int_str, isi_int_lst, isi_int_tup, isi_bool_non, isi_bool_bl, isi_bool_int, isi_bool_str, isi_bool_lst, isi_bool_tup, isi_list_non, isi_list_bl, isi_list_int, isi_list_str, isi_list_lst, isi_list_tup, isi_tuple_non, isi_tuple_bl, isi_tuple_int, isi_tuple_str, isi_tuple_lst, isi_tuple_tup, Bool.not_true, Bool.not_false, Bool.true_or, Bool.false_or, Bool.or_false, Bool.or_true, Bool.true_and, Bool.false_and, Bool.and_true, Bool.and_false, Bool.false_eq_true, if_true, if_false, true_and, and_true, eq_self_iff_true, beq_self_eq_true, atI_0, atI_1, atI_2, atI_3, atI_4, atI_5, atI_6, atI_7, atI_8, atI_9, atI_10, atI_11, atI_12, atI_13, atI_14, ixN_3_0, ixN_3_1, ixN_3_2, Option.some.injEq, exists_eq_left', Int.reduceToNat, Int.reduceNeg, rowT]
  refine ⟨⟨⟨by decide, by decide⟩, by decide⟩, by decide, wide_nat' (n := 13) (m := 8) (by decide) (by omega) (by omega) (by omega) (by omega), by decide +kernel, q _ ⟨_, _, _, rfl, ?_, ?_, ?_, by decide, by decide⟩⟩
  · split <;> omega
  · omega
  · omega
def t_take : GNM := fun ys ds Q => ∃ n bound : Nat, BagOk n ys ∧ n ≤ 10 ^ 8 ∧ ds = [.int (bound : Int)] ∧ 1 ≤ bound ∧ bound < 2 ^ 4000 ∧ ∀ (v : Nat) ys', v < bound → BagOk (n + 1) ys' → Q (.int (v : Int)) ys'
theorem d_take (a : At K mg "_law_take" s__law_take ["bag", "bound"]) (B : Names mg) : FM P w K mg base "_law_take" 1 2 t_take := by
  obtain ⟨f, fd, F, m, b⟩ := a
  refine ⟨f, fd, _, ok_M F sc__law_take (by decide) (fun cdv A outer s H E hr => (dss_cons (ds_if (dt_cmp op_gtD (de_ixO 0 de_int) de_int) (dss_cons (ds_set (i := 2) sc__law_take.nd rfl (Or.inl rfl) (dk_e (de_op op_modD (de_ixO 0 de_int) (de_var 1))))
      (dss_cons (ds_sto 0 (de_op op_divD (de_ixO 0 de_int) (de_var 1)) de_int)
      (dss_one (ds_ret (de_var 2))))) dss_nil)
      (dss_cons (ds_sto 0 (de_op op_addD (de_ixO 0 de_int) de_int) de_int)
      (dss_cons (ds_set (i := 3) sc__law_take.nd rfl (Or.inl rfl) (dk_e (de_op op_modD (de_op op_powD (de_op op_addD (de_ixO 0 de_int) (de_op op_mulD de_int (de_ixO 0 de_int))) de_int) de_int)))
      (dss_cons (ds_set (i := 3) sc__law_take.nd rfl (Or.inl rfl) (dk_e (de_op op_modD (de_op op_powD (de_op op_addD (de_var 3) (de_op op_mulD de_int (de_ixO 0 de_int))) de_int) de_int)))
      (dss_one (ds_ret (de_op op_modD (de_op op_divD (de_var 3) de_int) (de_var 1))))))))
      ) (fun p ys ds Q0 hl h => ?_), m, F.kp, b⟩
  obtain ⟨n, bound, ⟨a, b, c, rfl, ha, hb0, hb, hc0, hc⟩, hn, rfl, h1, h2, q⟩ := h
  simp only [dSeq, dCut, dSet, dkE, dkL, dVar, dVarK, at', startD, dC, dOp, dCmp, dVal, dTest, dNot, dAnd, dOr, dAndV, dOrV, dNotV, dIf, dNil, dCons, dTup, dLst, dFrz, dCall, dMth, isStr, dPart0, dPart, dSl, gSlice, dStep, dRevL, dNext, dNever, dRet, dDrop, dIfS, dPar, dPar3, dAsg, dFor, dWhile, dLc, dLc2, gN, gTupD, gNc, gN0, dYes, dSq, dSeqL, dSeqT, dSeqS, dRng1, dRng2, dRng3, dEnum, dEnumT, dZip, dFn, dFnM, dFnK, own', isOwn, dMut, gApp, gExt, dSto, dIxO, dLenO, dLenS, dIxS', dFnS, scr', isScr, dRetN, dSeqN, dFnN, dFnNS, dIsi, dIsi2, dNeg, gAdd, Dl.gSub, gMul, gDiv, gMod, gPow, gEq, gNe, gLt, gLe, gGt, gGe, gIs, gIsNot, isNone, gIx, gLen, gMax, gMin, gSum, gAll, gAbs, gInt, gTuple, gList, gListS, gStrI, gRepr, gJoin, gSw, gEw, gAscii, gAlpha, gLower, List.set, List.map, List.length_cons, List.length_nil, List.cons_append, List.nil_append, List.replicate, dWipe, Nat.reduceAdd, Nat.reduceSub, dChain, gInTup, dFnMN, dkD, dInD, dNotInD, dGetD, dPutD, dic', isDic, keyQ, keyP, dLRg, dkN2, dBor, nstD, dN0, dFnNK, flatO, flatCl, dSortS, gNeS, gIn, gNotIn, gIndex, isLstD, dMthL, gDivmod, sh_non, sh_bl, sh_int, nd_non, nd_bl, nd_int, nd_str, nd_lst, nd_tup, nds_nil, nds_cons, ev_int, ev_str, ev_bl, isi_str_non, isi_str_bl, isi_str_int, isi_str_str, isi_str_lst, isi_str_tup, isi_int_non, isi_int_bl, isi_int_int, isi_int_str, isi_int_lst, isi_int_tup, isi_bool_non, isi_bool_bl, isi_bool_int, isi_bool_str, isi_bool_lst, isi_bool_tup, isi_list_non, isi_list_bl, isi_list_int, isi_list_str, isi_list_lst, isi_list_tup, isi_tuple_non, isi_tuple_bl, isi_tuple_int, isi_tuple_str, isi_tuple_lst, isi_tuple_tup, Bool.not_true, Bool.not_false, Bool.true_or, Bool.false_or, Bool.or_false, Bool.or_true, Bool.true_and, Bool.false_and, Bool.and_true, Bool.and_false, Bool.false_eq_true, if_true, if_false, true_and, and_true, eq_self_iff_true, beq_self_eq_true, atI_0, atI_1, atI_2, atI_3, atI_4, atI_5, atI_6, atI_7, atI_8, atI_9, atI_10, atI_11, atI_12, atI_13, atI_14, ixN_3_0, ixN_3_1, ixN_3_2, Option.some.injEq, exists_eq_left', Int.reduceToNat, Int.reduceNeg, rowT]
  by_cases hp : 1 < a
  · rw [if_pos (decide_eq_true hp)]
    have e := nat_of (Int.emod_nonneg a (by omega : (bound : Int) ≠ 0))
    have l := Int.emod_lt_of_pos a (by omega : (0 : Int) < bound)
    refine ⟨by omega, wide_div (b := 4000) (by omega) (by simpa using h2) (by decide) (by decide), ?_⟩
    rw [e]
    exact q _ _ (by omega) ⟨_, _, _, rfl, Int.ediv_nonneg ha (by omega), hb0, hb, hc0, by omega⟩
  · rw [if_neg (by simpa using hp)]
    generalize hx : (b + 1300223 * (c + 1)) ^ 3 % 162259276829213363391578010288127 + 15486253 * (c + 1) = x
    have hx0 : 0 ≤ (b + 1300223 * (c + 1)) ^ 3 % 162259276829213363391578010288127 := Int.emod_nonneg _ (by decide)
    have hx1 : (b + 1300223 * (c + 1)) ^ 3 % 162259276829213363391578010288127 < 162259276829213363391578010288127 := Int.emod_lt_of_pos _ (by decide)
    have hn' : (n : Int) ≤ 10 ^ 8 := by omega
    refine ⟨wide_nat' (n := 30) (m := 40) (by decide) (by omega) (by decide) (by decide) (by decide), pw (by omega) (by omega) (by decide), by decide, wide_nat' (n := 30) (m := 40) (by decide) (by omega) (by decide) (by decide) (by decide), pw (by omega) (by omega) (by decide), by decide, wide_div (b := 30) (by decide) (by decide) (by decide) (by decide), by omega, ?_⟩
    have l0 : 0 ≤ x ^ 5 % 618970019642690137449562111 / 1048576 % (bound : Int) := Int.emod_nonneg _ (by omega)
    have l1 : x ^ 5 % 618970019642690137449562111 / 1048576 % (bound : Int) < bound := Int.emod_lt_of_pos _ (by omega)
    rw [nat_of l0]
    exact q _ _ (by omega) ⟨_, _, _, rfl, ha, hb0, hb, by omega, by omega⟩
def t_text : GNM := fun ys ds Q => ∃ n most : Nat, BagOk n ys ∧ n ≤ 10 ^ 7 ∧ ds = [.int (most : Int)] ∧ most ≤ 1000 ∧ ∀ x ys', Lets x → x.length ≤ most → BagOk (n + most + 2) ys' → Q (.str x) ys'
theorem abc_at {v : Nat} (h : v < 3) : ∃ c, 97 ≤ c ∧ c ≤ 122 ∧ atI ("abc" : Str).cps.toList (v : Int) = some c := by
  refine ⟨97 + v, by omega, by omega, ?_⟩
  have e : ("abc" : Str).cps.toList = [97, 98, 99] := by decide +kernel
  rw [e]
  match v, h with
  | 0, _ => rfl
  | 1, _ => rfl
  | 2, _ => rfl
theorem d_text (a : At K mg "_law_text" s__law_text ["bag", "most"]) (B : Names mg) (h__law_take : FM P w K mg base "_law_take" 1 2 t_take) : FM P w K mg base "_law_text" 2 2 t_text := by
  obtain ⟨f, fd, F, m, b⟩ := a
  refine ⟨f, fd, _, ok_M F sc__law_text (by decide) (fun cdv A outer s H E hr => (dss_cons (ds_set (i := 2) sc__law_text.nd rfl (Or.inr rfl) (dk_e (de_op op_addD de_int (de_fnM 0 h__law_take (hr.mono (by decide)) (by rfl) (fun _ => pass0) (da_cons de_int da_nil)))))
      (dss_one (ds_ret (de_mth PySem.F.slot_str_join PySem.F.type_str_join mt_joinD de_str (da_cons (de_frz (dl_lc (own := [("turn", 3)]) rfl sc__law_text.nd (di_range1 (by rfl) B.range (da_cons (de_fnM 0 h__law_take (hr.mono (by decide)) (by rfl) (fun _ => pass0) (da_cons (de_op op_addD (de_var 1) de_int) da_nil)) da_nil)) (blkOk_by (N := ["bag", "most", "kinds", "turn"]) (sc := defScope s__law_text) (by decide +kernel)) (fun _ _ _ _ _ => (dg_name (i := 3) sc__law_text.nd rfl (Or.inl rfl))) (fun _ _ _ _ _ => dq_nil) (fun _ _ _ _ _ => (de_ix ix_D de_str (de_fnM 0 h__law_take (hr.mono (by decide)) (by rfl) (fun _ => pass0) (da_cons (de_var 2) da_nil)))))) da_nil)))))
      ) (fun p ys ds Q0 hl h => ?_), m, F.kp, b⟩
  obtain ⟨n, most, hb, hn, rfl, hm, q⟩ := h
  simp only [dSeq, dCut, dSet, dkE, dkL, dVar, dVarK, at', startD, dC, dOp, dCmp, dVal, dTest, dNot, dAnd, dOr, dAndV, dOrV, dNotV, dIf, dNil, dCons, dTup, dLst, dFrz, dCall, dMth, isStr, dPart0, dPart, dSl, gSlice, dStep, dRevL, dNext, dNever, dRet, dDrop, dIfS, dPar, dPar3, dAsg, dFor, dWhile, dLc, dLc2, gN, gTupD, gNc, gN0, dYes, dSq, dSeqL, dSeqT, dSeqS, dRng1, dRng2, dRng3, dEnum, dEnumT, dZip, dFn, dFnM, dFnK, own', isOwn, dMut, gApp, gExt, dSto, dIxO, dLenO, dLenS, dIxS', dFnS, scr', isScr, dRetN, dSeqN, dFnN, dFnNS, dIsi, dIsi2, dNeg, gAdd, Dl.gSub, gMul, gDiv, gMod, gPow, gEq, gNe, gLt, gLe, gGt, gGe, gIs, gIsNot, isNone, gIx, gLen, gMax, gMin, gSum, gAll, gAbs, gInt, gTuple, gList, gListS, gStrI, gRepr, gJoin, gSw, gEw, gAscii, gAlpha, gLower, List.set, List.map, List.length_cons, List.length_nil, List.cons_append, List.nil_append, List.replicate, dWipe, Nat.reduceAdd, Nat.reduceSub, dChain, gInTup, dFnMN, dkD, dInD, dNotInD, dGetD, dPutD, dic', isDic, keyQ, keyP, dLRg, dkN2, dBor, nstD, dN0, dFnNK, flatO, flatCl, dSortS, gNeS, gIn, gNotIn, gIndex, isLstD, dMthL, gDivmod, sh_non, sh_bl, sh_int, nd_non, nd_bl, nd_int, nd_str, nd_lst, nd_tup, nds_nil, nds_cons, ev_int, ev_str, ev_bl, isi_str_non, isi_str_bl, isi_str_int, isi_str_str, isi_str_lst, isi_str_tup, isi_int_non, isi_int_bl, isi_int_int, isi_int_str, isi_int_lst, isi_int_tup, isi_bool_non, isi_bool_bl, isi_bool_int, isi_bool_str, isi_bool_lst, isi_bool_tup, isi_list_non, isi_list_bl, isi_list_int, isi_list_str, isi_list_lst, isi_list_tup, isi_tuple_non, isi_tuple_bl, isi_tuple_int, isi_tuple_str, isi_tuple_lst, isi_tuple_tup, Bool.not_true, Bool.not_false, Bool.true_or, Bool.false_or, Bool.or_false, Bool.or_true, Bool.true_and, Bool.false_and, Bool.and_true, Bool.and_false, Bool.false_eq_true, if_true, if_false, true_and, and_true, eq_self_iff_true, beq_self_eq_true, atI_0, atI_1, atI_2, atI_3, atI_4, atI_5, atI_6, atI_7, atI_8, atI_9, atI_10, atI_11, atI_12, atI_13, atI_14, ixN_3_0, ixN_3_1, ixN_3_2, Option.some.injEq, exists_eq_left', Int.reduceToNat, Int.reduceNeg, rowT]
  refine ⟨n, 3, hb, by omega, rfl, by decide, by decide, fun v ys1 hv hb1 => ?_⟩
  simp only [dSeq, dCut, dSet, dkE, dkL, dVar, dVarK, at', startD, dC, dOp, dCmp, dVal, dTest, dNot, dAnd, dOr, dAndV, dOrV, dNotV, dIf, dNil, dCons, dTup, dLst, dFrz, dCall, dMth, isStr, dPart0, dPart, dSl, gSlice, dStep, dRevL, dNext, dNever, dRet, dDrop, dIfS, dPar, dPar3, dAsg, dFor, dWhile, dLc, dLc2, gN, gTupD, gNc, gN0, dYes, dSq, dSeqL, dSeqT, dSeqS, dRng1, dRng2, dRng3, dEnum, dEnumT, dZip, dFn, dFnM, dFnK, own', isOwn, dMut, gApp, gExt, dSto, dIxO, dLenO, dLenS, dIxS', dFnS, scr', isScr, dRetN, dSeqN, dFnN, dFnNS, dIsi, dIsi2, dNeg, gAdd, Dl.gSub, gMul, gDiv, gMod, gPow, gEq, gNe, gLt, gLe, gGt, gGe, gIs, gIsNot, isNone, gIx, gLen, gMax, gMin, gSum, gAll, gAbs, gInt, gTuple, gList, gListS, gStrI, gRepr, gJoin, gSw, gEw, gAscii, gAlpha, gLower, List.set, List.map, List.length_cons, List.length_nil, List.cons_append, List.nil_append, List.replicate, dWipe, Nat.reduceAdd, Nat.reduceSub, dChain, gInTup, dFnMN, dkD, dInD, dNotInD, dGetD, dPutD, dic', isDic, keyQ, keyP, dLRg, dkN2, dBor, nstD, dN0, dFnNK, flatO, flatCl, dSortS, gNeS, gIn, gNotIn, gIndex, isLstD, dMthL, gDivmod, sh_non, sh_bl, sh_int, nd_non, nd_bl, nd_int, nd_str, nd_lst, nd_tup, nds_nil, nds_cons, ev_int, ev_str, ev_bl, isi_str_non, isi_str_bl, isi_str_int, isi_str_str, isi_str_lst, isi_str_tup, isi_int_non, isi_int_bl, isi_int_int, isi_int_str, isi_int_lst, isi_int_tup, isi_bool_non, isi_bool_bl, isi_bool_int, isi_bool_str, isi_bool_lst, isi_bool_tup, isi_list_non, isi_list_bl, isi_list_int, isi_list_str, isi_list_lst, isi_list_tup, isi_tuple_non, isi_tuple_bl, isi_tuple_int, isi_tuple_str, isi_tuple_lst, isi_tuple_tup, Bool.not_true, Bool.not_false, Bool.true_or, Bool.false_or, Bool.or_false, Bool.or_true, Bool.true_and, Bool.false_and, Bool.and_true, Bool.and_false, Bool.false_eq_true, if_true, if_false, true_and, and_true, eq_self_iff_true, beq_self_eq_true, atI_0, atI_1, atI_2, atI_3, atI_4, atI_5, atI_6, atI_7, atI_8, atI_9, atI_10, atI_11, atI_12, atI_13, atI_14, ixN_3_0, ixN_3_1, ixN_3_2, Option.some.injEq, exists_eq_left', Int.reduceToNat, Int.reduceNeg, rowT]
  refine ⟨n + 1, most + 1, hb1, by omega, rfl, by omega, by omega, fun v2 ys2 hv2 hb2 => ?_⟩
  simp only [dSeq, dCut, dSet, dkE, dkL, dVar, dVarK, at', startD, dC, dOp, dCmp, dVal, dTest, dNot, dAnd, dOr, dAndV, dOrV, dNotV, dIf, dNil, dCons, dTup, dLst, dFrz, dCall, dMth, isStr, dPart0, dPart, dSl, gSlice, dStep, dRevL, dNext, dNever, dRet, dDrop, dIfS, dPar, dPar3, dAsg, dFor, dWhile, dLc, dLc2, gN, gTupD, gNc, gN0, dYes, dSq, dSeqL, dSeqT, dSeqS, dRng1, dRng2, dRng3, dEnum, dEnumT, dZip, dFn, dFnM, dFnK, own', isOwn, dMut, gApp, gExt, dSto, dIxO, dLenO, dLenS, dIxS', dFnS, scr', isScr, dRetN, dSeqN, dFnN, dFnNS, dIsi, dIsi2, dNeg, gAdd, Dl.gSub, gMul, gDiv, gMod, gPow, gEq, gNe, gLt, gLe, gGt, gGe, gIs, gIsNot, isNone, gIx, gLen, gMax, gMin, gSum, gAll, gAbs, gInt, gTuple, gList, gListS, gStrI, gRepr, gJoin, gSw, gEw, gAscii, gAlpha, gLower, List.set, List.map, List.length_cons, List.length_nil, List.cons_append, List.nil_append, List.replicate, dWipe, Nat.reduceAdd, Nat.reduceSub, dChain, gInTup, dFnMN, dkD, dInD, dNotInD, dGetD, dPutD, dic', isDic, keyQ, keyP, dLRg, dkN2, dBor, nstD, dN0, dFnNK, flatO, flatCl, dSortS, gNeS, gIn, gNotIn, gIndex, isLstD, dMthL, gDivmod, sh_non, sh_bl, sh_int, nd_non, nd_bl, nd_int, nd_str, nd_lst, nd_tup, nds_nil, nds_cons, ev_int, ev_str, ev_bl, isi_str_non, isi_str_bl, isi_str_int, isi_str_str, isi_str_lst, isi_str_tup, isi_int_non, isi_int_bl, isi_int_int, isi_int_str, isi_int_lst, isi_int_tup, isi_bool_non, isi_bool_bl, isi_bool_int, isi_bool_str, isi_bool_lst, isi_bool_tup, isi_list_non, isi_list_bl, isi_list_int, isi_list_str, isi_list_lst, isi_list_tup, isi_tuple_non, isi_tuple_bl, isi_tuple_int, isi_tuple_str, isi_tuple_lst, isi_tuple_tup, Bool.not_true, Bool.not_false, Bool.true_or, Bool.false_or, Bool.or_false, Bool.or_true, Bool.true_and, Bool.false_and, Bool.and_true, Bool.and_false, Bool.false_eq_true, if_true, if_false, true_and, and_true, eq_self_iff_true, beq_self_eq_true, atI_0, atI_1, atI_2, atI_3, atI_4, atI_5, atI_6, atI_7, atI_8, atI_9, atI_10, atI_11, atI_12, atI_13, atI_14, ixN_3_0, ixN_3_1, ixN_3_2, Option.some.injEq, exists_eq_left', Int.reduceToNat, Int.reduceNeg, rowT]
  refine ⟨⟨by omega, by omega⟩, ?_⟩
  refine lc_ind (fun i acc Γ => ∃ xs ys3, Γ = [some (.own p ys3), some (.d (.int (most : Int))), some (.d (.int (1 + (v : Int)))), none] ∧ BagOk (n + 2 + i) ys3 ∧ acc = xs.map .str ∧ xs.length = i ∧ ∀ x ∈ xs, Lets x ∧ x.length = 1) ⟨[], ys2, rfl, hb2, rfl, rfl, fun x hx => by cases hx⟩ ?_ ?_
  · rintro i d acc Γ hi ⟨xs, ys3, rfl, hb3, rfl, hlen, hxs⟩ K K0 hk hk0
    have hi2 : i < v2 := by
      have := (List.getElem?_eq_some_iff.mp hi).1
      unfold rngD at this
      rw [List.length_map, List.length_range] at this
      exact this
    simp only [dSeq, dCut, dSet, dkE, dkL, dVar, dVarK, at', startD, dC, dOp, dCmp, dVal, dTest, dNot, dAnd, dOr, dAndV, dOrV, dNotV, dIf, dNil, dCons, dTup, dLst, dFrz, dCall, dMth, isStr, dPart0, dPart, dSl, gSlice, dStep, dRevL, dNext, dNever, dRet, dDrop, dIfS, dPar, dPar3, dAsg, dFor, dWhile, dLc, dLc2, gN, gTupD, gNc, gN0, dYes, dSq, dSeqL, dSeqT, dSeqS, dRng1, dRng2, dRng3, dEnum, dEnumT, dZip, dFn, dFnM, dFnK, own', isOwn, dMut, gApp, gExt, dSto, dIxO, dLenO, dLenS, dIxS', dFnS, scr', isScr, dRetN, dSeqN, dFnN, dFnNS, dIsi, dIsi2, dNeg, gAdd, Dl.gSub, gMul, gDiv, gMod, gPow, gEq, gNe, gLt, gLe, gGt, gGe, gIs, gIsNot, isNone, gIx, gLen, gMax, gMin, gSum, gAll, gAbs, gInt, gTuple, gList, gListS, gStrI, gRepr, gJoin, gSw, gEw, gAscii, gAlpha, gLower, List.set, List.map, List.length_cons, List.length_nil, List.cons_append, List.nil_append, List.replicate, dWipe, Nat.reduceAdd, Nat.reduceSub, dChain, gInTup, dFnMN, dkD, dInD, dNotInD, dGetD, dPutD, dic', isDic, keyQ, keyP, dLRg, dkN2, dBor, nstD, dN0, dFnNK, flatO, flatCl, dSortS, gNeS, gIn, gNotIn, gIndex, isLstD, dMthL, gDivmod, sh_non, sh_bl, sh_int, nd_non, nd_bl, nd_int, nd_str, nd_lst, nd_tup, nds_nil, nds_cons, ev_int, ev_str, ev_bl, isi_str_non, isi_str_bl, isi_str_int, isi_str_str, isi_str_lst, isi_str_tup, isi_int_non, isi_int_bl, isi_int_int, isi_int_str, isi_int_lst, isi_int_tup, isi_bool_non, isi_bool_bl, isi_bool_int, isi_bool_str, isi_bool_lst, isi_bool_tup, isi_list_non, isi_list_bl, isi_list_int, isi_list_str, isi_list_lst, isi_list_tup, isi_tuple_non, isi_tuple_bl, isi_tuple_int, isi_tuple_str, isi_tuple_lst, isi_tuple_tup, Bool.not_true, Bool.not_false, Bool.true_or, Bool.false_or, Bool.or_false, Bool.or_true, Bool.true_and, Bool.false_and, Bool.and_true, Bool.and_false, Bool.false_eq_true, if_true, if_false, true_and, and_true, eq_self_iff_true, beq_self_eq_true, atI_0, atI_1, atI_2, atI_3, atI_4, atI_5, atI_6, atI_7, atI_8, atI_9, atI_10, atI_11, atI_12, atI_13, atI_14, ixN_3_0, ixN_3_1, ixN_3_2, Option.some.injEq, exists_eq_left', Int.reduceToNat, Int.reduceNeg, rowT]
    refine ⟨n + 2 + i, 1 + v, hb3, by omega, rfl, by omega, Nat.lt_trans (by omega : 1 + v < 2 ^ 10) (Nat.pow_lt_pow_right (by decide) (by decide)), fun v3 ys4 hv3 hb4 => ?_⟩
    obtain ⟨c, c1, c2, hc⟩ := abc_at (by omega : v3 < 3)
    simp only [dSeq, dCut, dSet, dkE, dkL, dVar, dVarK, at', startD, dC, dOp, dCmp, dVal, dTest, dNot, dAnd, dOr, dAndV, dOrV, dNotV, dIf, dNil, dCons, dTup, dLst, dFrz, dCall, dMth, isStr, dPart0, dPart, dSl, gSlice, dStep, dRevL, dNext, dNever, dRet, dDrop, dIfS, dPar, dPar3, dAsg, dFor, dWhile, dLc, dLc2, gN, gTupD, gNc, gN0, dYes, dSq, dSeqL, dSeqT, dSeqS, dRng1, dRng2, dRng3, dEnum, dEnumT, dZip, dFn, dFnM, dFnK, own', isOwn, dMut, gApp, gExt, dSto, dIxO, dLenO, dLenS, dIxS', dFnS, scr', isScr, dRetN, dSeqN, dFnN, dFnNS, dIsi, dIsi2, dNeg, gAdd, Dl.gSub, gMul, gDiv, gMod, gPow, gEq, gNe, gLt, gLe, gGt, gGe, gIs, gIsNot, isNone, gIx, gLen, gMax, gMin, gSum, gAll, gAbs, gInt, gTuple, gList, gListS, gStrI, gRepr, gJoin, gSw, gEw, gAscii, gAlpha, gLower, List.set, List.map, List.length_cons, List.length_nil, List.cons_append, List.nil_append, List.replicate, dWipe, Nat.reduceAdd, Nat.reduceSub, dChain, gInTup, dFnMN, dkD, dInD, dNotInD, dGetD, dPutD, dic', isDic, keyQ, keyP, dLRg, dkN2, dBor, nstD, dN0, dFnNK, flatO, flatCl, dSortS, gNeS, gIn, gNotIn, gIndex, isLstD, dMthL, gDivmod, sh_non, sh_bl, sh_int, nd_non, nd_bl, nd_int, nd_str, nd_lst, nd_tup, nds_nil, nds_cons, ev_int, ev_str, ev_bl, isi_str_non, isi_str_bl, isi_str_int, isi_str_str, isi_str_lst, isi_str_tup, isi_int_non, isi_int_bl, isi_int_int, isi_int_str, isi_int_lst, isi_int_tup, isi_bool_non, isi_bool_bl, isi_bool_int, isi_bool_str, isi_bool_lst, isi_bool_tup, isi_list_non, isi_list_bl, isi_list_int, isi_list_str, isi_list_lst, isi_list_tup, isi_tuple_non, isi_tuple_bl, isi_tuple_int, isi_tuple_str, isi_tuple_lst, isi_tuple_tup, Bool.not_true, Bool.not_false, Bool.true_or, Bool.false_or, Bool.or_false, Bool.or_true, Bool.true_and, Bool.false_and, Bool.and_true, Bool.and_false, Bool.false_eq_true, if_true, if_false, true_and, and_true, eq_self_iff_true, beq_self_eq_true, atI_0, atI_1, atI_2, atI_3, atI_4, atI_5, atI_6, atI_7, atI_8, atI_9, atI_10, atI_11, atI_12, atI_13, atI_14, ixN_3_0, ixN_3_1, ixN_3_2, Option.some.injEq, exists_eq_left', Int.reduceToNat, Int.reduceNeg, rowT]
    refine ⟨by decide +kernel, c, hc, hk _ _ ⟨?_, xs ++ [⟨#[c]⟩], ys4, rfl, hb4, by simp, by simp [hlen], fun x hx => ?_⟩⟩
    · rw [List.length_map, hlen]
      exact Nat.lt_of_lt_of_le (by omega : i < 2000) (sl_le (by decide))
    · rcases List.mem_append.mp hx with z | z
      · exact hxs x z
      · rw [List.mem_singleton] at z
        subst z
        exact ⟨lets_ch ⟨c1, c2⟩, rfl⟩
  · rintro acc Γ ⟨xs, ys3, rfl, hb3, rfl, hlen, hxs⟩
    have hlen : xs.length = v2 := by
      rw [hlen]
      unfold rngD
      rw [List.length_map, List.length_range]
      rfl
    obtain ⟨j1, j2⟩ := join_lets xs hxs
    refine ⟨xs, rfl, ?_, ?_⟩
    · have : (xs.map (·.length)).sum = xs.length := sum_ones fun x hx => (hxs x hx).2
      rw [this]
      show xs.length + xs.length * 0 ≤ 16777216
      omega
    · simp only [dSeq, dCut, dSet, dkE, dkL, dVar, dVarK, at', startD, dC, dOp, dCmp, dVal, dTest, dNot, dAnd, dOr, dAndV, dOrV, dNotV, dIf, dNil, dCons, dTup, dLst, dFrz, dCall, dMth, isStr, dPart0, dPart, dSl, gSlice, dStep, dRevL, dNext, dNever, dRet, dDrop, dIfS, dPar, dPar3, dAsg, dFor, dWhile, dLc, dLc2, gN, gTupD, gNc, gN0, dYes, dSq, dSeqL, dSeqT, dSeqS, dRng1, dRng2, dRng3, dEnum, dEnumT, dZip, dFn, dFnM, dFnK, own', isOwn, dMut, gApp, gExt, dSto, dIxO, dLenO, dLenS, dIxS', dFnS, scr', isScr, dRetN, dSeqN, dFnN, dFnNS, dIsi, dIsi2, dNeg, gAdd, Dl.gSub, gMul, gDiv, gMod, gPow, gEq, gNe, gLt, gLe, gGt, gGe, gIs, gIsNot, isNone, gIx, gLen, gMax, gMin, gSum, gAll, gAbs, gInt, gTuple, gList, gListS, gStrI, gRepr, gJoin, gSw, gEw, gAscii, gAlpha, gLower, List.set, List.map, List.length_cons, List.length_nil, List.cons_append, List.nil_append, List.replicate, dWipe, Nat.reduceAdd, Nat.reduceSub, dChain, gInTup, dFnMN, dkD, dInD, dNotInD, dGetD, dPutD, dic', isDic, keyQ, keyP, dLRg, dkN2, dBor, nstD, dN0, dFnNK, flatO, flatCl, dSortS, gNeS, gIn, gNotIn, gIndex, isLstD, dMthL, gDivmod, sh_non, sh_bl, sh_int, nd_non, nd_bl, nd_int, nd_str, nd_lst, nd_tup, nds_nil, nds_cons, ev_int, ev_str, ev_bl, isi_str_non, isi_str_bl, isi_str_int, isi_str_str, isi_str_lst, isi_str_tup, isi_int_non, isi_int_bl, isi_int_int, isi_int_str, isi_int_lst, isi_int_tup, isi_bool_non, isi_bool_bl, isi_bool_int, isi_bool_str, isi_bool_lst, isi_bool_tup, isi_list_non, isi_list_bl, isi_list_int, isi_list_str, isi_list_lst, isi_list_tup, isi_tuple_non, isi_tuple_bl, isi_tuple_int, isi_tuple_str, isi_tuple_lst, isi_tuple_tup, Bool.not_true, Bool.not_false, Bool.true_or, Bool.false_or, Bool.or_false, Bool.or_true, Bool.true_and, Bool.false_and, Bool.and_true, Bool.and_false, Bool.false_eq_true, if_true, if_false, true_and, and_true, eq_self_iff_true, beq_self_eq_true, atI_0, atI_1, atI_2, atI_3, atI_4, atI_5, atI_6, atI_7, atI_8, atI_9, atI_10, atI_11, atI_12, atI_13, atI_14, ixN_3_0, ixN_3_1, ixN_3_2, Option.some.injEq, exists_eq_left', Int.reduceToNat, Int.reduceNeg, rowT]
      refine q _ _ j1 (by omega) (hb3.mono ?_)
      unfold rngD
      rw [List.length_map, List.length_range]
      show n + 2 + v2 ≤ _
      omega
/-- texts in a list or a tuple -/
def SeqOf (d : PyData) (ws : List Str) : Prop := d = .list (ws.map .str) ∨ d = .tuple (ws.map .str)
def t_times : GN := fun ds Q => ∃ a b ws vs, ds = [a, b] ∧ SeqOf a ws ∧ SeqOf b vs ∧ (ws.length ≤ 4000 ∧ vs.length ≤ 4000 ∧ ws.length * vs.length ≤ 1000000) ∧ WdsOk 100000 ws ∧ WdsOk 100000 vs ∧ Q (.list ((addRow ws vs).map .str))
theorem addRow_take {ws vs : List Str} {i : Nat} {x : Str} (h : ws[i]? = some x) : addRow (ws.take (i + 1)) vs = addRow (ws.take i) vs ++ vs.map fun y => x ++ y := by
  rw [Bl.take_more h]
  unfold addRow
  rw [List.flatMap_append]
  simp
theorem d_times (a : At K mg "_law_times" s__law_times ["first", "second"]) (B : Names mg) : FD P w K mg base "_law_times" 1 2 t_times := by
  obtain ⟨f, fd, F, m, b⟩ := a
  refine ⟨f, fd, _, ok_D F sc__law_times (by decide) (fun cdv A outer s H E hr => (dss_cons (ds_set (i := 2) sc__law_times.nd rfl (Or.inl rfl) (dk_l (dl_lst da_nil)))
      (dss_cut (ds_for PassesOwn.never rfl (di_sq (de_var 0)) (dg_name (i := 3) sc__law_times.nd rfl (Or.inr rfl)) (dss_one (ds_mut 2 PySem.F.slot_list_extend PySem.F.type_list_extend mt_extD (da_cons (de_frz (dl_lc (own := [("right", 4)]) rfl sc__law_times.nd (di_sq (de_var 1)) (blkOk_by (N := ["first", "second", "found", "left", "right"]) (sc := defScope s__law_times) (by decide +kernel)) (fun _ _ _ _ _ => (dg_name (i := 4) sc__law_times.nd rfl (Or.inl rfl))) (fun _ _ _ _ _ => dq_nil) (fun _ _ _ _ _ => (de_op op_addD (de_var 3) (de_var 4))))) da_nil))))
      (dss_one (ds_ret (de_var 2)))))
      ) (fun ds Q0 hl h => ?_), m, F.kp, b⟩
  obtain ⟨d1, d2, ws, vs, rfl, h1, h2, ⟨l1, l2, l3⟩, ok1, ok2, q⟩ := h
  simp only [dSeq, dCut, dSet, dkE, dkL, dVar, dVarK, at', startD, dC, dOp, dCmp, dVal, dTest, dNot, dAnd, dOr, dAndV, dOrV, dNotV, dIf, dNil, dCons, dTup, dLst, dFrz, dCall, dMth, isStr, dPart0, dPart, dSl, gSlice, dStep, dRevL, dNext, dNever, dRet, dDrop, dIfS, dPar, dPar3, dAsg, dFor, dWhile, dLc, dLc2, gN, gTupD, gNc, gN0, dYes, dSq, dSeqL, dSeqT, dSeqS, dRng1, dRng2, dRng3, dEnum, dEnumT, dZip, dFn, dFnM, dFnK, own', isOwn, dMut, gApp, gExt, dSto, dIxO, dLenO, dLenS, dIxS', dFnS, scr', isScr, dRetN, dSeqN, dFnN, dFnNS, dIsi, dIsi2, dNeg, gAdd, Dl.gSub, gMul, gDiv, gMod, gPow, gEq, gNe, gLt, gLe, gGt, gGe, gIs, gIsNot, isNone, gIx, gLen, gMax, gMin, gSum, gAll, gAbs, gInt, gTuple, gList, gListS, gStrI, gRepr, gJoin, gSw, gEw, gAscii, gAlpha, gLower, List.set, List.map, List.length_cons, List.length_nil, List.cons_append, List.nil_append, List.replicate, dWipe, Nat.reduceAdd, Nat.reduceSub, dChain, gInTup, dFnMN, dkD, dInD, dNotInD, dGetD, dPutD, dic', isDic, keyQ, keyP, dLRg, dkN2, dBor, nstD, dN0, dFnNK, flatO, flatCl, dSortS, gNeS, gIn, gNotIn, gIndex, isLstD, dMthL, gDivmod, sh_non, sh_bl, sh_int, nd_non, nd_bl, nd_int, nd_str, nd_lst, nd_tup, nds_nil, nds_cons, ev_int, ev_str, ev_bl, isi_str_non, isi_str_bl, isi_str_int, isi_str_str, isi_str_lst, isi_str_tup, isi_int_non, isi_int_bl, isi_int_int, isi_int_str, isi_int_lst, isi_int_tup, isi_bool_non, isi_bool_bl, isi_bool_int, isi_bool_str, isi_bool_lst, isi_bool_tup, isi_list_non, isi_list_bl, isi_list_int, isi_list_str, isi_list_lst, isi_list_tup, isi_tuple_non, isi_tuple_bl, isi_tuple_int, isi_tuple_str, isi_tuple_lst, isi_tuple_tup, Bool.not_true, Bool.not_false, Bool.true_or, Bool.false_or, Bool.or_false, Bool.or_true, Bool.true_and, Bool.false_and, Bool.and_true, Bool.and_false, Bool.false_eq_true, if_true, if_false, true_and, and_true, eq_self_iff_true, beq_self_eq_true, atI_0, atI_1, atI_2, atI_3, atI_4, atI_5, atI_6, atI_7, atI_8, atI_9, atI_10, atI_11, atI_12, atI_13, atI_14, ixN_3_0, ixN_3_1, ixN_3_2, Option.some.injEq, exists_eq_left', Int.reduceToNat, Int.reduceNeg, rowT]
  refine ⟨by decide +kernel, fun p => ⟨fun Γ => ∃ o, Γ = [some (.d d1), some (.d d2), some (.own p ((addRow ws vs).map .str)), o, none], ?_, ?_⟩⟩
  · have go : dLoop (gN 3) (dMut 2 gExt (dCons (dFrz (dLc (dSq (dVar 1)) (gN 4) dYes (dOp gAdd (dVar 3) (dVar 4)) [4])) dNil)) { nx := fun Γ => ∃ o, Γ = [some (.d d1), some (.d d2), some (.own p ((addRow ws vs).map .str)), o, none], rt := fun d _ => Q0 d } (ws.map .str) [some (.d d1), some (.d d2), some (.own p []), none, none] := by
      refine for_ind (fun i Γ => ∃ o, Γ = [some (.d d1), some (.d d2), some (.own p ((addRow (ws.take i) vs).map .str)), o, none]) ⟨none, rfl⟩ ?_ fun Γ h => ?_
      · rintro i d Γ hi ⟨o, rfl⟩ K hk
        rw [List.getElem?_map] at hi
        obtain ⟨x, hx, rfl⟩ := Option.map_eq_some_iff.mp hi
        have hm := List.mem_of_getElem? hx
        simp only [dSeq, dCut, dSet, dkE, dkL, dVar, dVarK, at', startD, dC, dOp, dCmp, dVal, dTest, dNot, dAnd, dOr, dAndV, dOrV, dNotV, dIf, dNil, dCons, dTup, dLst, dFrz, dCall, dMth, isStr, dPart0, dPart, dSl, gSlice, dStep, dRevL, dNext, dNever, dRet, dDrop, dIfS, dPar, dPar3, dAsg, dFor, dWhile, dLc, dLc2, gN, gTupD, gNc, gN0, dYes, dSq, dSeqL, dSeqT, dSeqS, dRng1, dRng2, dRng3, dEnum, dEnumT, dZip, dFn, dFnM, dFnK, own', isOwn, dMut, gApp, gExt, dSto, dIxO, dLenO, dLenS, dIxS', dFnS, scr', isScr, dRetN, dSeqN, dFnN, dFnNS, dIsi, dIsi2, dNeg, gAdd, Dl.gSub, gMul, gDiv, gMod, gPow, gEq, gNe, gLt, gLe, gGt, gGe, gIs, gIsNot, isNone, gIx, gLen, gMax, gMin, gSum, gAll, gAbs, gInt, gTuple, gList, gListS, gStrI, gRepr, gJoin, gSw, gEw, gAscii, gAlpha, gLower, List.set, List.map, List.length_cons, List.length_nil, List.cons_append, List.nil_append, List.replicate, dWipe, Nat.reduceAdd, Nat.reduceSub, dChain, gInTup, dFnMN, dkD, dInD, dNotInD, dGetD, dPutD, dic', isDic, keyQ, keyP, dLRg, dkN2, dBor, nstD, dN0, dFnNK, flatO, flatCl, dSortS, gNeS, gIn, gNotIn, gIndex, isLstD, dMthL, gDivmod, sh_non, sh_bl, sh_int, nd_non, nd_bl, nd_int, nd_str, nd_lst, nd_tup, nds_nil, nds_cons, ev_int, ev_str, ev_bl, isi_str_non, isi_str_bl, isi_str_int, isi_str_str, isi_str_lst, isi_str_tup, isi_int_non, isi_int_bl, isi_int_int, isi_int_str, isi_int_lst, isi_int_tup, isi_bool_non, isi_bool_bl, isi_bool_int, isi_bool_str, isi_bool_lst, isi_bool_tup, isi_list_non, isi_list_bl, isi_list_int, isi_list_str, isi_list_lst, isi_list_tup, isi_tuple_non, isi_tuple_bl, isi_tuple_int, isi_tuple_str, isi_tuple_lst, isi_tuple_tup, Bool.not_true, Bool.not_false, Bool.true_or, Bool.false_or, Bool.or_false, Bool.or_true, Bool.true_and, Bool.false_and, Bool.and_true, Bool.and_false, Bool.false_eq_true, if_true, if_false, true_and, and_true, eq_self_iff_true, beq_self_eq_true, atI_0, atI_1, atI_2, atI_3, atI_4, atI_5, atI_6, atI_7, atI_8, atI_9, atI_10, atI_11, atI_12, atI_13, atI_14, ixN_3_0, ixN_3_1, ixN_3_2, Option.some.injEq, exists_eq_left', Int.reduceToNat, Int.reduceNeg, rowT]
        have inner : dLc1 (gN 4) dYes (dOp gAdd (dVar 3) (dVar 4)) [4] (fun xs Γ1 => own' Γ1 2 fun q ys => ys.length + xs.length ≤ sizeLine ∧ K (Γ1.set 2 (some (.own q (ys ++ xs))))) (vs.map .str) [] [some (.d d1), some (.d d2), some (.own p ((addRow (ws.take i) vs).map .str)), some (.d (.str x)), none] := by
          refine lc_map PyData.str (fun y => .str (x ++ y)) rfl (sl_le (by omega)) (fun y hy K2 hk2 => ?_) ?_
          · simp only [dSeq, dCut, dSet, dkE, dkL, dVar, dVarK, at', startD, dC, dOp, dCmp, dVal, dTest, dNot, dAnd, dOr, dAndV, dOrV, dNotV, dIf, dNil, dCons, dTup, dLst, dFrz, dCall, dMth, isStr, dPart0, dPart, dSl, gSlice, dStep, dRevL, dNext, dNever, dRet, dDrop, dIfS, dPar, dPar3, dAsg, dFor, dWhile, dLc, dLc2, gN, gTupD, gNc, gN0, dYes, dSq, dSeqL, dSeqT, dSeqS, dRng1, dRng2, dRng3, dEnum, dEnumT, dZip, dFn, dFnM, dFnK, own', isOwn, dMut, gApp, gExt, dSto, dIxO, dLenO, dLenS, dIxS', dFnS, scr', isScr, dRetN, dSeqN, dFnN, dFnNS, dIsi, dIsi2, dNeg, gAdd, Dl.gSub, gMul, gDiv, gMod, gPow, gEq, gNe, gLt, gLe, gGt, gGe, gIs, gIsNot, isNone, gIx, gLen, gMax, gMin, gSum, gAll, gAbs, gInt, gTuple, gList, gListS, gStrI, gRepr, gJoin, gSw, gEw, gAscii, gAlpha, gLower, List.set, List.map, List.length_cons, List.length_nil, List.cons_append, List.nil_append, List.replicate, dWipe, Nat.reduceAdd, Nat.reduceSub, dChain, gInTup, dFnMN, dkD, dInD, dNotInD, dGetD, dPutD, dic', isDic, keyQ, keyP, dLRg, dkN2, dBor, nstD, dN0, dFnNK, flatO, flatCl, dSortS, gNeS, gIn, gNotIn, gIndex, isLstD, dMthL, gDivmod, sh_non, sh_bl, sh_int, nd_non, nd_bl, nd_int, nd_str, nd_lst, nd_tup, nds_nil, nds_cons, ev_int, ev_str, ev_bl, isi_str_non, isi_str_bl, isi_str_int, isi_str_str, isi_str_lst, isi_str_tup, isi_int_non, isi_int_bl, isi_int_int, isi_int_str, isi_int_lst, isi_int_tup, isi_bool_non, isi_bool_bl, isi_bool_int, isi_bool_str, isi_bool_lst, isi_bool_tup, isi_list_non, isi_list_bl, isi_list_int, isi_list_str, isi_list_lst, isi_list_tup, isi_tuple_non, isi_tuple_bl, isi_tuple_int, isi_tuple_str, isi_tuple_lst, isi_tuple_tup, Bool.not_true, Bool.not_false, Bool.true_or, Bool.false_or, Bool.or_false, Bool.or_true, Bool.true_and, Bool.false_and, Bool.and_true, Bool.and_false, Bool.false_eq_true, if_true, if_false, true_and, and_true, eq_self_iff_true, beq_self_eq_true, atI_0, atI_1, atI_2, atI_3, atI_4, atI_5, atI_6, atI_7, atI_8, atI_9, atI_10, atI_11, atI_12, atI_13, atI_14, ixN_3_0, ixN_3_1, ixN_3_2, Option.some.injEq, exists_eq_left', Int.reduceToNat, Int.reduceNeg, rowT]
            have z1 := (ok1 x hm).2
            have z2 := (ok2 y hy).2
            exact ⟨sl_le (by omega), hk2 _ rfl⟩
          · simp only [dSeq, dCut, dSet, dkE, dkL, dVar, dVarK, at', startD, dC, dOp, dCmp, dVal, dTest, dNot, dAnd, dOr, dAndV, dOrV, dNotV, dIf, dNil, dCons, dTup, dLst, dFrz, dCall, dMth, isStr, dPart0, dPart, dSl, gSlice, dStep, dRevL, dNext, dNever, dRet, dDrop, dIfS, dPar, dPar3, dAsg, dFor, dWhile, dLc, dLc2, gN, gTupD, gNc, gN0, dYes, dSq, dSeqL, dSeqT, dSeqS, dRng1, dRng2, dRng3, dEnum, dEnumT, dZip, dFn, dFnM, dFnK, own', isOwn, dMut, gApp, gExt, dSto, dIxO, dLenO, dLenS, dIxS', dFnS, scr', isScr, dRetN, dSeqN, dFnN, dFnNS, dIsi, dIsi2, dNeg, gAdd, Dl.gSub, gMul, gDiv, gMod, gPow, gEq, gNe, gLt, gLe, gGt, gGe, gIs, gIsNot, isNone, gIx, gLen, gMax, gMin, gSum, gAll, gAbs, gInt, gTuple, gList, gListS, gStrI, gRepr, gJoin, gSw, gEw, gAscii, gAlpha, gLower, List.set, List.map, List.length_cons, List.length_nil, List.cons_append, List.nil_append, List.replicate, dWipe, Nat.reduceAdd, Nat.reduceSub, dChain, gInTup, dFnMN, dkD, dInD, dNotInD, dGetD, dPutD, dic', isDic, keyQ, keyP, dLRg, dkN2, dBor, nstD, dN0, dFnNK, flatO, flatCl, dSortS, gNeS, gIn, gNotIn, gIndex, isLstD, dMthL, gDivmod, sh_non, sh_bl, sh_int, nd_non, nd_bl, nd_int, nd_str, nd_lst, nd_tup, nds_nil, nds_cons, ev_int, ev_str, ev_bl, isi_str_non, isi_str_bl, isi_str_int, isi_str_str, isi_str_lst, isi_str_tup, isi_int_non, isi_int_bl, isi_int_int, isi_int_str, isi_int_lst, isi_int_tup, isi_bool_non, isi_bool_bl, isi_bool_int, isi_bool_str, isi_bool_lst, isi_bool_tup, isi_list_non, isi_list_bl, isi_list_int, isi_list_str, isi_list_lst, isi_list_tup, isi_tuple_non, isi_tuple_bl, isi_tuple_int, isi_tuple_str, isi_tuple_lst, isi_tuple_tup, Bool.not_true, Bool.not_false, Bool.true_or, Bool.false_or, Bool.or_false, Bool.or_true, Bool.true_and, Bool.false_and, Bool.and_true, Bool.and_false, Bool.false_eq_true, if_true, if_false, true_and, and_true, eq_self_iff_true, beq_self_eq_true, atI_0, atI_1, atI_2, atI_3, atI_4, atI_5, atI_6, atI_7, atI_8, atI_9, atI_10, atI_11, atI_12, atI_13, atI_14, ixN_3_0, ixN_3_1, ixN_3_2, Option.some.injEq, exists_eq_left', Int.reduceToNat, Int.reduceNeg, rowT]
            have e : (addRow (ws.take i) vs).map PyData.str ++ vs.map (fun y => PyData.str (x ++ y)) = (addRow (ws.take (i + 1)) vs).map .str := by
              rw [addRow_take hx, List.map_append, List.map_map]
              rfl
            rw [← List.length_append, e]
            refine ⟨?_, hk _ ⟨_, rfl⟩⟩
            rw [List.length_map, addRow_len, List.length_take]
            refine sl_le (Nat.le_trans (Nat.mul_le_mul_right _ (Nat.min_le_right _ _)) (by omega))
        rcases h2 with rfl | rfl
        · exact inner
        · exact inner
      · obtain ⟨o, rfl⟩ := h
        rw [List.length_map, List.take_length]
        exact ⟨o, rfl⟩
    rcases h1 with rfl | rfl
    · exact go
    · exact go
  · rintro Γ ⟨o, rfl⟩
    exact q
/-- rows in a list or a tuple -/
def RowsOf (d : PyData) (rs : List (List Str)) : Prop := d = .list (rs.map rowT) ∨ d = .tuple (rs.map rowT)
def t_whole : GN := fun ds Q => ∃ d rs, ds = [d] ∧ RowsOf d rs ∧ (rs.length ≤ 20 ∧ (∀ r ∈ rs, 1 ≤ r.length ∧ WdsOk 4000 r) ∧ cnt rs ≤ 4000) ∧ Q (rowT (prodW rs))
theorem prodW_okx {rs : List (List Str)} (h : ∀ r ∈ rs, 1 ≤ r.length ∧ WdsOk 4000 r) (hl : rs.length ≤ 20) (i : Nat) : WdsOk 100000 (prodW (rs.take i)) := fun x hx => by
  have z := prodW_ok (b := 4000) (rs := rs.take i) (fun q hq => (h q (List.mem_of_mem_take hq)).2) x hx
  refine ⟨z.1, Nat.le_trans z.2 (Nat.le_trans (Nat.mul_le_mul_right _ (m := 20) ?_) (by decide))⟩
  rw [List.length_take]
  omega
theorem d_whole (a : At K mg "_law_whole" s__law_whole ["factors"]) (B : Names mg) (h__law_times : FD P w K mg base "_law_times" 1 2 t_times) : FD P w K mg base "_law_whole" 2 1 t_whole := by
  obtain ⟨f, fd, F, m, b⟩ := a
  refine ⟨f, fd, _, ok_D F sc__law_whole (by decide) (fun cdv A outer s H E hr => (dss_cons (ds_set (i := 1) sc__law_whole.nd rfl (Or.inl rfl) (dk_e (de_frz (dl_lst (da_cons de_str da_nil)))))
      (dss_cut (ds_for PassesOwn.never rfl (di_sq (de_var 0)) (dg_name (i := 2) sc__law_whole.nd rfl (Or.inl rfl)) (dss_one (ds_set (i := 1) sc__law_whole.nd rfl (Or.inl rfl) (dk_e (de_fn h__law_times (hr.mono (by decide)) (by rfl) (fun _ => pass0) (da_cons (de_var 1) (da_cons (de_var 2) da_nil)))))))
      (dss_one (ds_ret (de_callTy cr_tupleD (by rfl) B.tuple (by decide +kernel) (da_cons (de_var 1) da_nil))))))
      ) (fun ds Q0 hl h => ?_), m, F.kp, b⟩
  obtain ⟨d, rs, rfl, h1, ⟨hl20, hrs, hc⟩, q⟩ := h
  have hpos : ∀ r ∈ rs, 1 ≤ r.length := fun r hr => (hrs r hr).1
  simp only [dSeq, dCut, dSet, dkE, dkL, dVar, dVarK, at', startD, dC, dOp, dCmp, dVal, dTest, dNot, dAnd, dOr, dAndV, dOrV, dNotV, dIf, dNil, dCons, dTup, dLst, dFrz, dCall, dMth, isStr, dPart0, dPart, dSl, gSlice, dStep, dRevL, dNext, dNever, dRet, dDrop, dIfS, dPar, dPar3, dAsg, dFor, dWhile, dLc, dLc2, gN, gTupD, gNc, gN0, dYes, dSq, dSeqL, dSeqT, dSeqS, dRng1, dRng2, dRng3, dEnum, dEnumT, dZip, dFn, dFnM, dFnK, own', isOwn, dMut, gApp, gExt, dSto, dIxO, dLenO, dLenS, dIxS', dFnS, scr', isScr, dRetN, dSeqN, dFnN, dFnNS, dIsi, dIsi2, dNeg, gAdd, Dl.gSub, gMul, gDiv, gMod, gPow, gEq, gNe, gLt, gLe, gGt, gGe, gIs, gIsNot, isNone, gIx, gLen, gMax, gMin, gSum, gAll, gAbs, gInt, gTuple, gList, gListS, gStrI, gRepr, gJoin, gSw, gEw, gAscii, gAlpha, gLower, List.set, List.map, List.length_cons, List.length_nil, List.cons_append, List.nil_append, List.replicate, dWipe, Nat.reduceAdd, Nat.reduceSub, dChain, gInTup, dFnMN, dkD, dInD, dNotInD, dGetD, dPutD, dic', isDic, keyQ, keyP, dLRg, dkN2, dBor, nstD, dN0, dFnNK, flatO, flatCl, dSortS, gNeS, gIn, gNotIn, gIndex, isLstD, dMthL, gDivmod, sh_non, sh_bl, sh_int, nd_non, nd_bl, nd_int, nd_str, nd_lst, nd_tup, nds_nil, nds_cons, ev_int, ev_str, ev_bl, isi_str_non, isi_str_bl, isi_str_int, isi_str_str, isi_str_lst, isi_str_tup, isi_int_non, isi_int_bl, isi_int_int, isi_int_str, isi_int_lst, isi_int_tup, isi_bool_non, isi_bool_bl, isi_bool_int, isi_bool_str, isi_bool_lst, isi_bool_tup, isi_list_non, isi_list_bl, isi_list_int, isi_list_str, isi_list_lst, isi_list_tup, isi_tuple_non, isi_tuple_bl, isi_tuple_int, isi_tuple_str, isi_tuple_lst, isi_tuple_tup, Bool.not_true, Bool.not_false, Bool.true_or, Bool.false_or, Bool.or_false, Bool.or_true, Bool.true_and, Bool.false_and, Bool.and_true, Bool.and_false, Bool.false_eq_true, if_true, if_false, true_and, and_true, eq_self_iff_true, beq_self_eq_true, atI_0, atI_1, atI_2, atI_3, atI_4, atI_5, atI_6, atI_7, atI_8, atI_9, atI_10, atI_11, atI_12, atI_13, atI_14, ixN_3_0, ixN_3_1, ixN_3_2, Option.some.injEq, exists_eq_left', Int.reduceToNat, Int.reduceNeg, rowT]
  refine ⟨by decide +kernel, fun Γ => ∃ o, Γ = [some (.d d), some (.d (.list ((prodW rs).map .str))), o], ?_, ?_⟩
  · have go : dLoop (gN 2) (dSet 1 (dkE (dFn 2 t_times (dCons (dVar 1) (dCons (dVar 2) dNil))))) { nx := fun Γ => ∃ o, Γ = [some (.d d), some (.d (.list ((prodW rs).map .str))), o], rt := fun d _ => Q0 d } (rs.map rowT) [some (.d d), some (.d (.list [.str ""])), none] := by
      refine for_ind (fun i Γ => ∃ o, Γ = [some (.d d), some (.d (.list ((prodW (rs.take i)).map .str))), o]) ⟨none, rfl⟩ ?_ fun Γ h => ?_
      · rintro i d2 Γ hi ⟨o, rfl⟩ K hk
        rw [List.getElem?_map] at hi
        obtain ⟨r, hr, rfl⟩ := Option.map_eq_some_iff.mp hi
        have hm := List.mem_of_getElem? hr
        have hle : cnt (rs.take (i + 1)) ≤ 4000 := Nat.le_trans (cnt_take hpos _) hc
        have hle0 : cnt (rs.take i) ≤ 4000 := Nat.le_trans (cnt_take hpos _) hc
        have hmul := cnt_more hr
        have hr1 := hpos r hm
        simp only [dSeq, dCut, dSet, dkE, dkL, dVar, dVarK, at', startD, dC, dOp, dCmp, dVal, dTest, dNot, dAnd, dOr, dAndV, dOrV, dNotV, dIf, dNil, dCons, dTup, dLst, dFrz, dCall, dMth, isStr, dPart0, dPart, dSl, gSlice, dStep, dRevL, dNext, dNever, dRet, dDrop, dIfS, dPar, dPar3, dAsg, dFor, dWhile, dLc, dLc2, gN, gTupD, gNc, gN0, dYes, dSq, dSeqL, dSeqT, dSeqS, dRng1, dRng2, dRng3, dEnum, dEnumT, dZip, dFn, dFnM, dFnK, own', isOwn, dMut, gApp, gExt, dSto, dIxO, dLenO, dLenS, dIxS', dFnS, scr', isScr, dRetN, dSeqN, dFnN, dFnNS, dIsi, dIsi2, dNeg, gAdd, Dl.gSub, gMul, gDiv, gMod, gPow, gEq, gNe, gLt, gLe, gGt, gGe, gIs, gIsNot, isNone, gIx, gLen, gMax, gMin, gSum, gAll, gAbs, gInt, gTuple, gList, gListS, gStrI, gRepr, gJoin, gSw, gEw, gAscii, gAlpha, gLower, List.set, List.map, List.length_cons, List.length_nil, List.cons_append, List.nil_append, List.replicate, dWipe, Nat.reduceAdd, Nat.reduceSub, dChain, gInTup, dFnMN, dkD, dInD, dNotInD, dGetD, dPutD, dic', isDic, keyQ, keyP, dLRg, dkN2, dBor, nstD, dN0, dFnNK, flatO, flatCl, dSortS, gNeS, gIn, gNotIn, gIndex, isLstD, dMthL, gDivmod, sh_non, sh_bl, sh_int, nd_non, nd_bl, nd_int, nd_str, nd_lst, nd_tup, nds_nil, nds_cons, ev_int, ev_str, ev_bl, isi_str_non, isi_str_bl, isi_str_int, isi_str_str, isi_str_lst, isi_str_tup, isi_int_non, isi_int_bl, isi_int_int, isi_int_str, isi_int_lst, isi_int_tup, isi_bool_non, isi_bool_bl, isi_bool_int, isi_bool_str, isi_bool_lst, isi_bool_tup, isi_list_non, isi_list_bl, isi_list_int, isi_list_str, isi_list_lst, isi_list_tup, isi_tuple_non, isi_tuple_bl, isi_tuple_int, isi_tuple_str, isi_tuple_lst, isi_tuple_tup, Bool.not_true, Bool.not_false, Bool.true_or, Bool.false_or, Bool.or_false, Bool.or_true, Bool.true_and, Bool.false_and, Bool.and_true, Bool.and_false, Bool.false_eq_true, if_true, if_false, true_and, and_true, eq_self_iff_true, beq_self_eq_true, atI_0, atI_1, atI_2, atI_3, atI_4, atI_5, atI_6, atI_7, atI_8, atI_9, atI_10, atI_11, atI_12, atI_13, atI_14, ixN_3_0, ixN_3_1, ixN_3_2, Option.some.injEq, exists_eq_left', Int.reduceToNat, Int.reduceNeg]
        have hrl : r.length ≤ 4000 := by
          have c0 : 1 ≤ cnt (rs.take i) := by
            rcases Nat.eq_zero_or_pos (cnt (rs.take i)) with z | z
            · rw [← prodW_len] at z
              have : (prodW (rs.take i)) = [] := List.length_eq_zero_iff.mp z
              exact absurd z (by
                have hp : ∀ q ∈ rs.take i, 1 ≤ q.length := fun q hq => hpos q (List.mem_of_mem_take hq)
                rw [prodW_len]
                exact Nat.ne_of_gt (cnt_pos hp))
            · exact z
          rw [hmul] at hle
          exact Nat.le_trans (Nat.le_mul_of_pos_left _ c0) hle
        refine ⟨_, _, _, r, rfl, .inl rfl, .inr rfl, ⟨by rw [prodW_len]; exact hle0, hrl, by rw [prodW_len, ← hmul]; omega⟩, prodW_okx hrs hl20 i, fun x hx => ⟨((hrs r hm).2 x hx).1, Nat.le_trans ((hrs r hm).2 x hx).2 (by decide)⟩, ?_⟩
        rw [← prodW_more hr]
        exact hk _ ⟨some (.d (rowT r)), rfl⟩
      · obtain ⟨o, rfl⟩ := h
        rw [List.length_map, List.take_length]
        exact ⟨o, rfl⟩
    rcases h1 with rfl | rfl
    · exact go
    · exact go
  · rintro Γ ⟨o, rfl⟩
    exact q
end
end C12
namespace C12
open PySem PySem.Spec PyProof.Rows L2 TL Bl Dl Pm
-- DLJ DLK
section
variable {P : Program} {w : World} {K : PySem.W.Frag} {mg : Str → Option Value} {base : Heap}
/-- a factor that is drawn -/
def t_factor : GNM := fun ys ds Q => ∃ n : Nat, BagOk n ys ∧ n ≤ 10 ^ 6 ∧ ds = [.int 5] ∧ ∀ (ws : List Str) ys', 1 ≤ ws.length → ws.length ≤ 5 → WdsOk 20 ws → BagOk (n + 100) ys' → Q (.list (ws.map .str)) ys'
theorem pick7 {Q : Nat → Prop} {v : Nat} (h : v < 7) (h0 : Q 0) (h1 : Q 1) (h2 : Q 2) (h3 : Q 3) (h4 : ∀ v, 4 ≤ v → v < 7 → Q v) : Q v := by
  match v, h with
  | 0, _ => exact h0
  | 1, _ => exact h1
  | 2, _ => exact h2
  | 3, _ => exact h3
  | n + 4, h => exact h4 _ (by omega) h
theorem rng_nat (n : Nat) : rngD 0 n = (List.range n).map fun (i : Nat) => PyData.int (0 + (i : Int)) := rfl
theorem c1 (c : Nat) : (1 + (c : Int)).toNat = c + 1 := by omega
theorem wok_list {b : Nat} {ws : List Str} (h : ∀ x ∈ ws, Lets x ∧ x.length ≤ b) : WdsOk b ws := h
theorem lets_nil : Lets "" := by unfold Lets; decide +kernel
theorem d_factor (a : At K mg "_law_factor" s__law_factor ["bag", "many"]) (B : Names mg) (h__law_take : FM P w K mg base "_law_take" 1 2 t_take) (h__law_text : FM P w K mg base "_law_text" 2 2 t_text) : FM P w K mg base "_law_factor" 3 2 t_factor := by
  obtain ⟨f, fd, F, m, b⟩ := a
  refine ⟨f, fd, _, ok_M F sc__law_factor (by decide) (fun cdv A outer s H E hr => (dss_cons (ds_asg (de_tup (da_cons (de_fnM 0 h__law_take (hr.mono (by decide)) (by rfl) (fun _ => pass0) (da_cons de_int da_nil)) (da_cons (de_op op_addD de_int (de_fnM 0 h__law_take (hr.mono (by decide)) (by rfl) (fun _ => pass0) (da_cons (de_var 1) da_nil))) da_nil))) (dg_tup (n := 2) rfl (dgs_cons (dg_name (i := 2) sc__law_factor.nd rfl (Or.inl rfl)) (dgs_cons (dg_name (i := 3) sc__law_factor.nd rfl (Or.inr rfl)) dgs_nil))))
      (dss_cons (ds_asg (de_tup (da_cons (de_fnM 0 h__law_text (hr.mono (by decide)) (by rfl) (fun _ => pass0) (da_cons de_int da_nil)) (da_cons (de_fnM 0 h__law_text (hr.mono (by decide)) (by rfl) (fun _ => pass0) (da_cons de_int da_nil)) da_nil))) (dg_tup (n := 2) rfl (dgs_cons (dg_name (i := 4) sc__law_factor.nd rfl (Or.inr rfl)) (dgs_cons (dg_name (i := 5) sc__law_factor.nd rfl (Or.inr rfl)) dgs_nil))))
      (dss_cons (ds_if (dt_cmp (op_eqDD hr.units) (de_var 2) de_int) (dss_one (ds_ret (de_frz (dl_lc (own := [("turn", 6)]) rfl sc__law_factor.nd (di_range1 (by rfl) B.range (da_cons (de_var 3) da_nil)) (blkOk_by (N := ["bag", "many", "way", "count", "one", "two", "turn"]) (sc := defScope s__law_factor) (by decide +kernel)) (fun _ _ _ _ _ => (dg_name (i := 6) sc__law_factor.nd rfl (Or.inl rfl))) (fun _ _ _ _ _ => dq_nil) (fun _ _ _ _ _ => (de_op op_addD (de_op op_mulD (de_var 4) (de_var 6)) (de_var 5))))))) dss_nil)
      (dss_cons (ds_if (dt_cmp (op_eqDD hr.units) (de_var 2) de_int) (dss_one (ds_ret (de_frz (dl_lc (own := [("turn", 6)]) rfl sc__law_factor.nd (di_range1 (by rfl) B.range (da_cons (de_var 3) da_nil)) (blkOk_by (N := ["bag", "many", "way", "count", "one", "two", "turn"]) (sc := defScope s__law_factor) (by decide +kernel)) (fun _ _ _ _ _ => (dg_name (i := 6) sc__law_factor.nd rfl (Or.inl rfl))) (fun _ _ _ _ _ => dq_nil) (fun _ _ _ _ _ => (de_op op_addD (de_op op_mulD (de_var 4) (de_op op_subD (de_op op_subD (de_var 3) de_int) (de_var 6))) (de_var 5))))))) dss_nil)
      (dss_cons (ds_if (dt_cmp (op_eqDD hr.units) (de_var 2) de_int) (dss_one (ds_ret (de_op op_mulD (de_frz (dl_lst (da_cons (de_var 4) da_nil))) (de_var 3)))) dss_nil)
      (dss_cons (ds_if (dt_cmp (op_eqDD hr.units) (de_var 2) de_int) (dss_one (ds_ret (de_frz (dl_lst (da_cons de_str (da_cons (de_var 4) da_nil)))))) dss_nil)
      (dss_one (ds_ret (de_frz (dl_lc (own := [("turn", 6)]) rfl sc__law_factor.nd (di_range1 (by rfl) B.range (da_cons (de_var 3) da_nil)) (blkOk_by (N := ["bag", "many", "way", "count", "one", "two", "turn"]) (sc := defScope s__law_factor) (by decide +kernel)) (fun _ _ _ _ _ => (dg_name (i := 6) sc__law_factor.nd rfl (Or.inl rfl))) (fun _ _ _ _ _ => dq_nil) (fun _ _ _ _ _ => (de_fnM 0 h__law_text (hr.mono (by decide)) (by rfl) (fun _ => pass0) (da_cons de_int da_nil)))))))))))))
      ) (fun p ys ds Q0 hl h => ?_), m, F.kp, b⟩
  obtain ⟨n, hb, hn, rfl, q⟩ := h
  simp only [dSeq, dCut, dSet, dkE, dkL, dVar, dVarK, at', startD, dC, dOp, dCmp, dVal, dTest, dNot, dAnd, dOr, dAndV, dOrV, dNotV, dIf, dNil, dCons, dTup, dLst, dFrz, dCall, dMth, isStr, dPart0, dPart, dSl, gSlice, dStep, dRevL, dNext, dNever, dRet, dDrop, dIfS, dPar, dPar3, dAsg, dFor, dWhile, dLc, dLc2, gN, gTupD, gNc, gN0, dYes, dSq, dSeqL, dSeqT, dSeqS, dRng1, dRng2, dRng3, dEnum, dEnumT, dZip, dFn, dFnM, dFnK, own', isOwn, dMut, gApp, gExt, dSto, dIxO, dLenO, dLenS, dIxS', dFnS, scr', isScr, dRetN, dSeqN, dFnN, dFnNS, dIsi, dIsi2, dNeg, gAdd, Dl.gSub, gMul, gDiv, gMod, gPow, gEq, gNe, gLt, gLe, gGt, gGe, gIs, gIsNot, isNone, gIx, gLen, gMax, gMin, gSum, gAll, gAbs, gInt, gTuple, gList, gListS, gStrI, gRepr, gJoin, gSw, gEw, gAscii, gAlpha, gLower, List.set, List.map, List.length_cons, List.length_nil, List.cons_append, List.nil_append, List.replicate, dWipe, Nat.reduceAdd, Nat.reduceSub, dChain, gInTup, dFnMN, dkD, dInD, dNotInD, dGetD, dPutD, dic', isDic, keyQ, keyP, dLRg, dkN2, dBor, nstD, dN0, dFnNK, flatO, flatCl, dSortS, gNeS, gIn, gNotIn, gIndex, isLstD, dMthL, gDivmod, sh_non, sh_bl, sh_int, nd_non, nd_bl, nd_int, nd_str, nd_lst, nd_tup, nds_nil, nds_cons, ev_int, ev_str, ev_bl, isi_str_non, isi_str_bl, isi_str_int, isi_str_str, isi_str_lst, isi_str_tup, isi_int_non, isi_int_bl, isi_int_int, isi_int_str, isi_int_lst, isi_int_tup, isi_bool_non, isi_bool_bl, isi_bool_int, isi_bool_str, isi_bool_lst, isi_bool_tup, isi_list_non, isi_list_bl, isi_list_int, isi_list_str, isi_list_lst, isi_list_tup, isi_tuple_non, isi_tuple_bl, isi_tuple_int, isi_tuple_str, isi_tuple_lst, isi_tuple_tup, Bool.not_true, Bool.not_false, Bool.true_or, Bool.false_or, Bool.or_false, Bool.or_true, Bool.true_and, Bool.false_and, Bool.and_true, Bool.and_false, Bool.false_eq_true, if_true, if_false, true_and, and_true, eq_self_iff_true, beq_self_eq_true, atI_0, atI_1, atI_2, atI_3, atI_4, atI_5, atI_6, atI_7, atI_8, atI_9, atI_10, atI_11, atI_12, atI_13, atI_14, ixN_3_0, ixN_3_1, ixN_3_2, Option.some.injEq, exists_eq_left', Int.reduceToNat, Int.reduceNeg, rowT]
  refine ⟨n, 7, hb, by omega, rfl, by decide, by decide +kernel, fun v ys1 hv hb1 => ?_⟩
  simp only [dSeq, dCut, dSet, dkE, dkL, dVar, dVarK, at', startD, dC, dOp, dCmp, dVal, dTest, dNot, dAnd, dOr, dAndV, dOrV, dNotV, dIf, dNil, dCons, dTup, dLst, dFrz, dCall, dMth, isStr, dPart0, dPart, dSl, gSlice, dStep, dRevL, dNext, dNever, dRet, dDrop, dIfS, dPar, dPar3, dAsg, dFor, dWhile, dLc, dLc2, gN, gTupD, gNc, gN0, dYes, dSq, dSeqL, dSeqT, dSeqS, dRng1, dRng2, dRng3, dEnum, dEnumT, dZip, dFn, dFnM, dFnK, own', isOwn, dMut, gApp, gExt, dSto, dIxO, dLenO, dLenS, dIxS', dFnS, scr', isScr, dRetN, dSeqN, dFnN, dFnNS, dIsi, dIsi2, dNeg, gAdd, Dl.gSub, gMul, gDiv, gMod, gPow, gEq, gNe, gLt, gLe, gGt, gGe, gIs, gIsNot, isNone, gIx, gLen, gMax, gMin, gSum, gAll, gAbs, gInt, gTuple, gList, gListS, gStrI, gRepr, gJoin, gSw, gEw, gAscii, gAlpha, gLower, List.set, List.map, List.length_cons, List.length_nil, List.cons_append, List.nil_append, List.replicate, dWipe, Nat.reduceAdd, Nat.reduceSub, dChain, gInTup, dFnMN, dkD, dInD, dNotInD, dGetD, dPutD, dic', isDic, keyQ, keyP, dLRg, dkN2, dBor, nstD, dN0, dFnNK, flatO, flatCl, dSortS, gNeS, gIn, gNotIn, gIndex, isLstD, dMthL, gDivmod, sh_non, sh_bl, sh_int, nd_non, nd_bl, nd_int, nd_str, nd_lst, nd_tup, nds_nil, nds_cons, ev_int, ev_str, ev_bl, isi_str_non, isi_str_bl, isi_str_int, isi_str_str, isi_str_lst, isi_str_tup, isi_int_non, isi_int_bl, isi_int_int, isi_int_str, isi_int_lst, isi_int_tup, isi_bool_non, isi_bool_bl, isi_bool_int, isi_bool_str, isi_bool_lst, isi_bool_tup, isi_list_non, isi_list_bl, isi_list_int, isi_list_str, isi_list_lst, isi_list_tup, isi_tuple_non, isi_tuple_bl, isi_tuple_int, isi_tuple_str, isi_tuple_lst, isi_tuple_tup, Bool.not_true, Bool.not_false, Bool.true_or, Bool.false_or, Bool.or_false, Bool.or_true, Bool.true_and, Bool.false_and, Bool.and_true, Bool.and_false, Bool.false_eq_true, if_true, if_false, true_and, and_true, eq_self_iff_true, beq_self_eq_true, atI_0, atI_1, atI_2, atI_3, atI_4, atI_5, atI_6, atI_7, atI_8, atI_9, atI_10, atI_11, atI_12, atI_13, atI_14, ixN_3_0, ixN_3_1, ixN_3_2, Option.some.injEq, exists_eq_left', Int.reduceToNat, Int.reduceNeg, rowT]
  refine ⟨n + 1, 5, hb1, by omega, rfl, by decide, by decide +kernel, fun c ys2 hc hb2 => ?_⟩
  simp only [dSeq, dCut, dSet, dkE, dkL, dVar, dVarK, at', startD, dC, dOp, dCmp, dVal, dTest, dNot, dAnd, dOr, dAndV, dOrV, dNotV, dIf, dNil, dCons, dTup, dLst, dFrz, dCall, dMth, isStr, dPart0, dPart, dSl, gSlice, dStep, dRevL, dNext, dNever, dRet, dDrop, dIfS, dPar, dPar3, dAsg, dFor, dWhile, dLc, dLc2, gN, gTupD, gNc, gN0, dYes, dSq, dSeqL, dSeqT, dSeqS, dRng1, dRng2, dRng3, dEnum, dEnumT, dZip, dFn, dFnM, dFnK, own', isOwn, dMut, gApp, gExt, dSto, dIxO, dLenO, dLenS, dIxS', dFnS, scr', isScr, dRetN, dSeqN, dFnN, dFnNS, dIsi, dIsi2, dNeg, gAdd, Dl.gSub, gMul, gDiv, gMod, gPow, gEq, gNe, gLt, gLe, gGt, gGe, gIs, gIsNot, isNone, gIx, gLen, gMax, gMin, gSum, gAll, gAbs, gInt, gTuple, gList, gListS, gStrI, gRepr, gJoin, gSw, gEw, gAscii, gAlpha, gLower, List.set, List.map, List.length_cons, List.length_nil, List.cons_append, List.nil_append, List.replicate, dWipe, Nat.reduceAdd, Nat.reduceSub, dChain, gInTup, dFnMN, dkD, dInD, dNotInD, dGetD, dPutD, dic', isDic, keyQ, keyP, dLRg, dkN2, dBor, nstD, dN0, dFnNK, flatO, flatCl, dSortS, gNeS, gIn, gNotIn, gIndex, isLstD, dMthL, gDivmod, sh_non, sh_bl, sh_int, nd_non, nd_bl, nd_int, nd_str, nd_lst, nd_tup, nds_nil, nds_cons, ev_int, ev_str, ev_bl, isi_str_non, isi_str_bl, isi_str_int, isi_str_str, isi_str_lst, isi_str_tup, isi_int_non, isi_int_bl, isi_int_int, isi_int_str, isi_int_lst, isi_int_tup, isi_bool_non, isi_bool_bl, isi_bool_int, isi_bool_str, isi_bool_lst, isi_bool_tup, isi_list_non, isi_list_bl, isi_list_int, isi_list_str, isi_list_lst, isi_list_tup, isi_tuple_non, isi_tuple_bl, isi_tuple_int, isi_tuple_str, isi_tuple_lst, isi_tuple_tup, Bool.not_true, Bool.not_false, Bool.true_or, Bool.false_or, Bool.or_false, Bool.or_true, Bool.true_and, Bool.false_and, Bool.and_true, Bool.and_false, Bool.false_eq_true, if_true, if_false, true_and, and_true, eq_self_iff_true, beq_self_eq_true, atI_0, atI_1, atI_2, atI_3, atI_4, atI_5, atI_6, atI_7, atI_8, atI_9, atI_10, atI_11, atI_12, atI_13, atI_14, ixN_3_0, ixN_3_1, ixN_3_2, Option.some.injEq, exists_eq_left', Int.reduceToNat, Int.reduceNeg, rowT]
  refine ⟨by decide +kernel, ?_⟩
  refine ⟨n + 1 + 1, 2, hb2, by omega, rfl, by decide, fun x ys3 hx hxl hb3 => ?_⟩
  simp only [dSeq, dCut, dSet, dkE, dkL, dVar, dVarK, at', startD, dC, dOp, dCmp, dVal, dTest, dNot, dAnd, dOr, dAndV, dOrV, dNotV, dIf, dNil, dCons, dTup, dLst, dFrz, dCall, dMth, isStr, dPart0, dPart, dSl, gSlice, dStep, dRevL, dNext, dNever, dRet, dDrop, dIfS, dPar, dPar3, dAsg, dFor, dWhile, dLc, dLc2, gN, gTupD, gNc, gN0, dYes, dSq, dSeqL, dSeqT, dSeqS, dRng1, dRng2, dRng3, dEnum, dEnumT, dZip, dFn, dFnM, dFnK, own', isOwn, dMut, gApp, gExt, dSto, dIxO, dLenO, dLenS, dIxS', dFnS, scr', isScr, dRetN, dSeqN, dFnN, dFnNS, dIsi, dIsi2, dNeg, gAdd, Dl.gSub, gMul, gDiv, gMod, gPow, gEq, gNe, gLt, gLe, gGt, gGe, gIs, gIsNot, isNone, gIx, gLen, gMax, gMin, gSum, gAll, gAbs, gInt, gTuple, gList, gListS, gStrI, gRepr, gJoin, gSw, gEw, gAscii, gAlpha, gLower, List.set, List.map, List.length_cons, List.length_nil, List.cons_append, List.nil_append, List.replicate, dWipe, Nat.reduceAdd, Nat.reduceSub, dChain, gInTup, dFnMN, dkD, dInD, dNotInD, dGetD, dPutD, dic', isDic, keyQ, keyP, dLRg, dkN2, dBor, nstD, dN0, dFnNK, flatO, flatCl, dSortS, gNeS, gIn, gNotIn, gIndex, isLstD, dMthL, gDivmod, sh_non, sh_bl, sh_int, nd_non, nd_bl, nd_int, nd_str, nd_lst, nd_tup, nds_nil, nds_cons, ev_int, ev_str, ev_bl, isi_str_non, isi_str_bl, isi_str_int, isi_str_str, isi_str_lst, isi_str_tup, isi_int_non, isi_int_bl, isi_int_int, isi_int_str, isi_int_lst, isi_int_tup, isi_bool_non, isi_bool_bl, isi_bool_int, isi_bool_str, isi_bool_lst, isi_bool_tup, isi_list_non, isi_list_bl, isi_list_int, isi_list_str, isi_list_lst, isi_list_tup, isi_tuple_non, isi_tuple_bl, isi_tuple_int, isi_tuple_str, isi_tuple_lst, isi_tuple_tup, Bool.not_true, Bool.not_false, Bool.true_or, Bool.false_or, Bool.or_false, Bool.or_true, Bool.true_and, Bool.false_and, Bool.and_true, Bool.and_false, Bool.false_eq_true, if_true, if_false, true_and, and_true, eq_self_iff_true, beq_self_eq_true, atI_0, atI_1, atI_2, atI_3, atI_4, atI_5, atI_6, atI_7, atI_8, atI_9, atI_10, atI_11, atI_12, atI_13, atI_14, ixN_3_0, ixN_3_1, ixN_3_2, Option.some.injEq, exists_eq_left', Int.reduceToNat, Int.reduceNeg, rowT]
  refine ⟨_, 2, hb3, by omega, rfl, by decide, fun y ys4 hy hyl hb4 => ?_⟩
  simp only [dSeq, dCut, dSet, dkE, dkL, dVar, dVarK, at', startD, dC, dOp, dCmp, dVal, dTest, dNot, dAnd, dOr, dAndV, dOrV, dNotV, dIf, dNil, dCons, dTup, dLst, dFrz, dCall, dMth, isStr, dPart0, dPart, dSl, gSlice, dStep, dRevL, dNext, dNever, dRet, dDrop, dIfS, dPar, dPar3, dAsg, dFor, dWhile, dLc, dLc2, gN, gTupD, gNc, gN0, dYes, dSq, dSeqL, dSeqT, dSeqS, dRng1, dRng2, dRng3, dEnum, dEnumT, dZip, dFn, dFnM, dFnK, own', isOwn, dMut, gApp, gExt, dSto, dIxO, dLenO, dLenS, dIxS', dFnS, scr', isScr, dRetN, dSeqN, dFnN, dFnNS, dIsi, dIsi2, dNeg, gAdd, Dl.gSub, gMul, gDiv, gMod, gPow, gEq, gNe, gLt, gLe, gGt, gGe, gIs, gIsNot, isNone, gIx, gLen, gMax, gMin, gSum, gAll, gAbs, gInt, gTuple, gList, gListS, gStrI, gRepr, gJoin, gSw, gEw, gAscii, gAlpha, gLower, List.set, List.map, List.length_cons, List.length_nil, List.cons_append, List.nil_append, List.replicate, dWipe, Nat.reduceAdd, Nat.reduceSub, dChain, gInTup, dFnMN, dkD, dInD, dNotInD, dGetD, dPutD, dic', isDic, keyQ, keyP, dLRg, dkN2, dBor, nstD, dN0, dFnNK, flatO, flatCl, dSortS, gNeS, gIn, gNotIn, gIndex, isLstD, dMthL, gDivmod, sh_non, sh_bl, sh_int, nd_non, nd_bl, nd_int, nd_str, nd_lst, nd_tup, nds_nil, nds_cons, ev_int, ev_str, ev_bl, isi_str_non, isi_str_bl, isi_str_int, isi_str_str, isi_str_lst, isi_str_tup, isi_int_non, isi_int_bl, isi_int_int, isi_int_str, isi_int_lst, isi_int_tup, isi_bool_non, isi_bool_bl, isi_bool_int, isi_bool_str, isi_bool_lst, isi_bool_tup, isi_list_non, isi_list_bl, isi_list_int, isi_list_str, isi_list_lst, isi_list_tup, isi_tuple_non, isi_tuple_bl, isi_tuple_int, isi_tuple_str, isi_tuple_lst, isi_tuple_tup, Bool.not_true, Bool.not_false, Bool.true_or, Bool.false_or, Bool.or_false, Bool.or_true, Bool.true_and, Bool.false_and, Bool.and_true, Bool.and_false, Bool.false_eq_true, if_true, if_false, true_and, and_true, eq_self_iff_true, beq_self_eq_true, atI_0, atI_1, atI_2, atI_3, atI_4, atI_5, atI_6, atI_7, atI_8, atI_9, atI_10, atI_11, atI_12, atI_13, atI_14, ixN_3_0, ixN_3_1, ixN_3_2, Option.some.injEq, exists_eq_left', Int.reduceToNat, Int.reduceNeg, rowT]
  refine ⟨by decide +kernel, ?_⟩
  have hc5 : (-(2 : Int) ^ 62 ≤ 1 + (c : Int) ∧ 1 + (c : Int) < 2 ^ 62) := by omega
  rcases (by omega : v = 0 ∨ v = 1 ∨ v = 2 ∨ v = 3 ∨ 4 ≤ v) with rfl | rfl | rfl | rfl | h4
  · refine if_y (by decide) ?_
    refine ⟨hc5, ?_⟩
    rw [c1, rng_nat]
    refine lc_map (fun (i : Nat) => PyData.int (0 + (i : Int))) (fun i => .str (Txt.mul x (i : Int) ++ y)) rfl (sl_le (by rw [List.length_range]; omega)) (fun i hi K hk => ?_) ?_
    · rw [List.mem_range] at hi
      simp only [dSeq, dCut, dSet, dkE, dkL, dVar, dVarK, at', startD, dC, dOp, dCmp, dVal, dTest, dNot, dAnd, dOr, dAndV, dOrV, dNotV, dIf, dNil, dCons, dTup, dLst, dFrz, dCall, dMth, isStr, dPart0, dPart, dSl, gSlice, dStep, dRevL, dNext, dNever, dRet, dDrop, dIfS, dPar, dPar3, dAsg, dFor, dWhile, dLc, dLc2, gN, gTupD, gNc, gN0, dYes, dSq, dSeqL, dSeqT, dSeqS, dRng1, dRng2, dRng3, dEnum, dEnumT, dZip, dFn, dFnM, dFnK, own', isOwn, dMut, gApp, gExt, dSto, dIxO, dLenO, dLenS, dIxS', dFnS, scr', isScr, dRetN, dSeqN, dFnN, dFnNS, dIsi, dIsi2, dNeg, gAdd, Dl.gSub, gMul, gDiv, gMod, gPow, gEq, gNe, gLt, gLe, gGt, gGe, gIs, gIsNot, isNone, gIx, gLen, gMax, gMin, gSum, gAll, gAbs, gInt, gTuple, gList, gListS, gStrI, gRepr, gJoin, gSw, gEw, gAscii, gAlpha, gLower, List.set, List.map, List.length_cons, List.length_nil, List.cons_append, List.nil_append, List.replicate, dWipe, Nat.reduceAdd, Nat.reduceSub, dChain, gInTup, dFnMN, dkD, dInD, dNotInD, dGetD, dPutD, dic', isDic, keyQ, keyP, dLRg, dkN2, dBor, nstD, dN0, dFnNK, flatO, flatCl, dSortS, gNeS, gIn, gNotIn, gIndex, isLstD, dMthL, gDivmod, sh_non, sh_bl, sh_int, nd_non, nd_bl, nd_int, nd_str, nd_lst, nd_tup, nds_nil, nds_cons, ev_int, ev_str, ev_bl, isi_str_non, isi_str_bl, isi_str_int, isi_str_str, isi_str_lst, isi_str_tup, isi_int_non, isi_int_bl, isi_int_int, isi_int_str, isi_int_lst, isi_int_tup, isi_bool_non, isi_bool_bl, isi_bool_int, isi_bool_str, isi_bool_lst, isi_bool_tup, isi_list_non, isi_list_bl, isi_list_int, isi_list_str, isi_list_lst, isi_list_tup, isi_tuple_non, isi_tuple_bl, isi_tuple_int, isi_tuple_str, isi_tuple_lst, isi_tuple_tup, Bool.not_true, Bool.not_false, Bool.true_or, Bool.false_or, Bool.or_false, Bool.or_true, Bool.true_and, Bool.false_and, Bool.and_true, Bool.and_false, Bool.false_eq_true, if_true, if_false, true_and, and_true, eq_self_iff_true, beq_self_eq_true, atI_0, atI_1, atI_2, atI_3, atI_4, atI_5, atI_6, atI_7, atI_8, atI_9, atI_10, atI_11, atI_12, atI_13, atI_14, ixN_3_0, ixN_3_1, ixN_3_2, Option.some.injEq, exists_eq_left', Int.reduceToNat, Int.reduceNeg, rowT]
      have hm : (Txt.mul x (i : Int)).length ≤ 8 := by
        rw [Bl.len_mul]
        exact Nat.mul_le_mul (by omega : i ≤ 4) hxl
      have hm2 : x.length * i ≤ 16777216 := Nat.le_trans (Nat.mul_le_mul hxl (by omega : i ≤ 4)) (by decide)
      simp only [Int.zero_add, Int.toNat_natCast]
      exact ⟨⟨by omega, by omega, sl_le hm2⟩, sl_le (by omega), hk _ rfl⟩
    · simp only [dSeq, dCut, dSet, dkE, dkL, dVar, dVarK, at', startD, dC, dOp, dCmp, dVal, dTest, dNot, dAnd, dOr, dAndV, dOrV, dNotV, dIf, dNil, dCons, dTup, dLst, dFrz, dCall, dMth, isStr, dPart0, dPart, dSl, gSlice, dStep, dRevL, dNext, dNever, dRet, dDrop, dIfS, dPar, dPar3, dAsg, dFor, dWhile, dLc, dLc2, gN, gTupD, gNc, gN0, dYes, dSq, dSeqL, dSeqT, dSeqS, dRng1, dRng2, dRng3, dEnum, dEnumT, dZip, dFn, dFnM, dFnK, own', isOwn, dMut, gApp, gExt, dSto, dIxO, dLenO, dLenS, dIxS', dFnS, scr', isScr, dRetN, dSeqN, dFnN, dFnNS, dIsi, dIsi2, dNeg, gAdd, Dl.gSub, gMul, gDiv, gMod, gPow, gEq, gNe, gLt, gLe, gGt, gGe, gIs, gIsNot, isNone, gIx, gLen, gMax, gMin, gSum, gAll, gAbs, gInt, gTuple, gList, gListS, gStrI, gRepr, gJoin, gSw, gEw, gAscii, gAlpha, gLower, List.set, List.map, List.length_cons, List.length_nil, List.cons_append, List.nil_append, List.replicate, dWipe, Nat.reduceAdd, Nat.reduceSub, dChain, gInTup, dFnMN, dkD, dInD, dNotInD, dGetD, dPutD, dic', isDic, keyQ, keyP, dLRg, dkN2, dBor, nstD, dN0, dFnNK, flatO, flatCl, dSortS, gNeS, gIn, gNotIn, gIndex, isLstD, dMthL, gDivmod, sh_non, sh_bl, sh_int, nd_non, nd_bl, nd_int, nd_str, nd_lst, nd_tup, nds_nil, nds_cons, ev_int, ev_str, ev_bl, isi_str_non, isi_str_bl, isi_str_int, isi_str_str, isi_str_lst, isi_str_tup, isi_int_non, isi_int_bl, isi_int_int, isi_int_str, isi_int_lst, isi_int_tup, isi_bool_non, isi_bool_bl, isi_bool_int, isi_bool_str, isi_bool_lst, isi_bool_tup, isi_list_non, isi_list_bl, isi_list_int, isi_list_str, isi_list_lst, isi_list_tup, isi_tuple_non, isi_tuple_bl, isi_tuple_int, isi_tuple_str, isi_tuple_lst, isi_tuple_tup, Bool.not_true, Bool.not_false, Bool.true_or, Bool.false_or, Bool.or_false, Bool.or_true, Bool.true_and, Bool.false_and, Bool.and_true, Bool.and_false, Bool.false_eq_true, if_true, if_false, true_and, and_true, eq_self_iff_true, beq_self_eq_true, atI_0, atI_1, atI_2, atI_3, atI_4, atI_5, atI_6, atI_7, atI_8, atI_9, atI_10, atI_11, atI_12, atI_13, atI_14, ixN_3_0, ixN_3_1, ixN_3_2, Option.some.injEq, exists_eq_left', Int.reduceToNat, Int.reduceNeg, rowT]
      have e : (List.range (c + 1)).map (fun i : Nat => PyData.str (Txt.mul x (i : Int) ++ y)) = ((List.range (c + 1)).map fun i : Nat => Txt.mul x (i : Int) ++ y).map .str := by rw [List.map_map]; rfl
      rw [e]
      refine q _ _ (by simp) (by simp; omega) (fun z hz => ?_) (hb4.mono (by omega))
      obtain ⟨i, hi, rfl⟩ := List.mem_map.mp hz
      rw [List.mem_range] at hi
      refine ⟨Lets.app (lets_mul hx i) hy, ?_⟩
      rw [len_app, Bl.len_mul]
      have := Nat.mul_le_mul (by omega : i ≤ 4) hxl
      omega
  · refine if_n (by decide) (if_y (by decide) ?_)
    refine ⟨hc5, ?_⟩
    rw [c1, rng_nat]
    have en : ∀ i : Nat, i < c + 1 → 1 + (c : Int) - 1 - (0 + (i : Int)) = ((c - i : Nat) : Int) := fun i hi => by omega
    refine lc_map (fun (i : Nat) => PyData.int (0 + (i : Int))) (fun i => .str (Txt.mul x ((c - i : Nat) : Int) ++ y)) rfl (sl_le (by rw [List.length_range]; omega)) (fun i hi K hk => ?_) ?_
    · rw [List.mem_range] at hi
      simp only [dSeq, dCut, dSet, dkE, dkL, dVar, dVarK, at', startD, dC, dOp, dCmp, dVal, dTest, dNot, dAnd, dOr, dAndV, dOrV, dNotV, dIf, dNil, dCons, dTup, dLst, dFrz, dCall, dMth, isStr, dPart0, dPart, dSl, gSlice, dStep, dRevL, dNext, dNever, dRet, dDrop, dIfS, dPar, dPar3, dAsg, dFor, dWhile, dLc, dLc2, gN, gTupD, gNc, gN0, dYes, dSq, dSeqL, dSeqT, dSeqS, dRng1, dRng2, dRng3, dEnum, dEnumT, dZip, dFn, dFnM, dFnK, own', isOwn, dMut, gApp, gExt, dSto, dIxO, dLenO, dLenS, dIxS', dFnS, scr', isScr, dRetN, dSeqN, dFnN, dFnNS, dIsi, dIsi2, dNeg, gAdd, Dl.gSub, gMul, gDiv, gMod, gPow, gEq, gNe, gLt, gLe, gGt, gGe, gIs, gIsNot, isNone, gIx, gLen, gMax, gMin, gSum, gAll, gAbs, gInt, gTuple, gList, gListS, gStrI, gRepr, gJoin, gSw, gEw, gAscii, gAlpha, gLower, List.set, List.map, List.length_cons, List.length_nil, List.cons_append, List.nil_append, List.replicate, dWipe, Nat.reduceAdd, Nat.reduceSub, dChain, gInTup, dFnMN, dkD, dInD, dNotInD, dGetD, dPutD, dic', isDic, keyQ, keyP, dLRg, dkN2, dBor, nstD, dN0, dFnNK, flatO, flatCl, dSortS, gNeS, gIn, gNotIn, gIndex, isLstD, dMthL, gDivmod, sh_non, sh_bl, sh_int, nd_non, nd_bl, nd_int, nd_str, nd_lst, nd_tup, nds_nil, nds_cons, ev_int, ev_str, ev_bl, isi_str_non, isi_str_bl, isi_str_int, isi_str_str, isi_str_lst, isi_str_tup, isi_int_non, isi_int_bl, isi_int_int, isi_int_str, isi_int_lst, isi_int_tup, isi_bool_non, isi_bool_bl, isi_bool_int, isi_bool_str, isi_bool_lst, isi_bool_tup, isi_list_non, isi_list_bl, isi_list_int, isi_list_str, isi_list_lst, isi_list_tup, isi_tuple_non, isi_tuple_bl, isi_tuple_int, isi_tuple_str, isi_tuple_lst, isi_tuple_tup, Bool.not_true, Bool.not_false, Bool.true_or, Bool.false_or, Bool.or_false, Bool.or_true, Bool.true_and, Bool.false_and, Bool.and_true, Bool.and_false, Bool.false_eq_true, if_true, if_false, true_and, and_true, eq_self_iff_true, beq_self_eq_true, atI_0, atI_1, atI_2, atI_3, atI_4, atI_5, atI_6, atI_7, atI_8, atI_9, atI_10, atI_11, atI_12, atI_13, atI_14, ixN_3_0, ixN_3_1, ixN_3_2, Option.some.injEq, exists_eq_left', Int.reduceToNat, Int.reduceNeg, rowT]
      rw [en i hi]
      have hm : (Txt.mul x ((c - i : Nat) : Int)).length ≤ 8 := by
        rw [Bl.len_mul]
        exact Nat.mul_le_mul (by omega : c - i ≤ 4) hxl
      have hm2 : x.length * (c - i) ≤ 16777216 := Nat.le_trans (Nat.mul_le_mul hxl (by omega : c - i ≤ 4)) (by decide)
      simp only [Int.toNat_natCast]
      exact ⟨⟨by omega, by omega, sl_le hm2⟩, sl_le (by omega), hk _ rfl⟩
    · simp only [dSeq, dCut, dSet, dkE, dkL, dVar, dVarK, at', startD, dC, dOp, dCmp, dVal, dTest, dNot, dAnd, dOr, dAndV, dOrV, dNotV, dIf, dNil, dCons, dTup, dLst, dFrz, dCall, dMth, isStr, dPart0, dPart, dSl, gSlice, dStep, dRevL, dNext, dNever, dRet, dDrop, dIfS, dPar, dPar3, dAsg, dFor, dWhile, dLc, dLc2, gN, gTupD, gNc, gN0, dYes, dSq, dSeqL, dSeqT, dSeqS, dRng1, dRng2, dRng3, dEnum, dEnumT, dZip, dFn, dFnM, dFnK, own', isOwn, dMut, gApp, gExt, dSto, dIxO, dLenO, dLenS, dIxS', dFnS, scr', isScr, dRetN, dSeqN, dFnN, dFnNS, dIsi, dIsi2, dNeg, gAdd, Dl.gSub, gMul, gDiv, gMod, gPow, gEq, gNe, gLt, gLe, gGt, gGe, gIs, gIsNot, isNone, gIx, gLen, gMax, gMin, gSum, gAll, gAbs, gInt, gTuple, gList, gListS, gStrI, gRepr, gJoin, gSw, gEw, gAscii, gAlpha, gLower, List.set, List.map, List.length_cons, List.length_nil, List.cons_append, List.nil_append, List.replicate, dWipe, Nat.reduceAdd, Nat.reduceSub, dChain, gInTup, dFnMN, dkD, dInD, dNotInD, dGetD, dPutD, dic', isDic, keyQ, keyP, dLRg, dkN2, dBor, nstD, dN0, dFnNK, flatO, flatCl, dSortS, gNeS, gIn, gNotIn, gIndex, isLstD, dMthL, gDivmod, sh_non, sh_bl, sh_int, nd_non, nd_bl, nd_int, nd_str, nd_lst, nd_tup, nds_nil, nds_cons, ev_int, ev_str, ev_bl, isi_str_non, isi_str_bl, isi_str_int, isi_str_str, isi_str_lst, isi_str_tup, isi_int_non, isi_int_bl, isi_int_int, isi_int_str, isi_int_lst, isi_int_tup, isi_bool_non, isi_bool_bl, isi_bool_int, isi_bool_str, isi_bool_lst, isi_bool_tup, isi_list_non, isi_list_bl, isi_list_int, isi_list_str, isi_list_lst, isi_list_tup, isi_tuple_non, isi_tuple_bl, isi_tuple_int, isi_tuple_str, isi_tuple_lst, isi_tuple_tup, Bool.not_true, Bool.not_false, Bool.true_or, Bool.false_or, Bool.or_false, Bool.or_true, Bool.true_and, Bool.false_and, Bool.and_true, Bool.and_false, Bool.false_eq_true, if_true, if_false, true_and, and_true, eq_self_iff_true, beq_self_eq_true, atI_0, atI_1, atI_2, atI_3, atI_4, atI_5, atI_6, atI_7, atI_8, atI_9, atI_10, atI_11, atI_12, atI_13, atI_14, ixN_3_0, ixN_3_1, ixN_3_2, Option.some.injEq, exists_eq_left', Int.reduceToNat, Int.reduceNeg, rowT]
      have e : (List.range (c + 1)).map (fun i : Nat => PyData.str (Txt.mul x ((c - i : Nat) : Int) ++ y)) = ((List.range (c + 1)).map fun i : Nat => Txt.mul x ((c - i : Nat) : Int) ++ y).map .str := by rw [List.map_map]; rfl
      rw [e]
      refine q _ _ (by simp) (by simp; omega) (fun z hz => ?_) (hb4.mono (by omega))
      obtain ⟨i, hi, rfl⟩ := List.mem_map.mp hz
      rw [List.mem_range] at hi
      refine ⟨Lets.app (lets_mul hx _) hy, ?_⟩
      rw [len_app, Bl.len_mul]
      have := Nat.mul_le_mul (by omega : c - i ≤ 4) hxl
      omega
  · refine if_n (by decide) (if_n (by decide) (if_y (by decide) ?_))
    refine ⟨by decide +kernel, ⟨by omega, by omega, sl_le (by omega)⟩, ?_⟩
    rw [c1, List.flatten_replicate_singleton, ← List.map_replicate]
    refine q _ _ (by simp) (by simp; omega) (fun z hz => ?_) (hb4.mono (by omega))
    rw [List.eq_of_mem_replicate hz]
    exact ⟨hx, by omega⟩
  · refine if_n (by decide) (if_n (by decide) (if_n (by decide) (if_y (by decide) ?_)))
    refine ⟨by decide +kernel, q ["", x] _ (by simp) (by simp) (fun z hz => ?_) (hb4.mono (by omega))⟩
    rcases List.mem_cons.mp hz with rfl | hz
    · exact ⟨lets_nil, by decide +kernel⟩
    · rw [List.mem_singleton] at hz
      subst hz
      exact ⟨hx, by omega⟩
  · refine if_n (by simp; omega) (if_n (by simp; omega) (if_n (by simp; omega) (if_n (by simp; omega) ?_)))
    refine ⟨hc5, ?_⟩
    rw [c1]
    refine lc_ind (fun i acc Γ => ∃ xs ys5, Γ = [some (.own p ys5), some (.d (.int 5)), some (.d (.int (v : Int))), some (.d (.int (1 + (c : Int)))), some (.d (.str x)), some (.d (.str y)), none] ∧ BagOk (n + 10 + 5 * i) ys5 ∧ acc = xs.map .str ∧ xs.length = i ∧ WdsOk 3 xs) ⟨[], ys4, rfl, hb4.mono (by omega), rfl, rfl, fun x hx => by cases hx⟩ ?_ ?_
    · rintro i d acc Γ hi ⟨xs, ys5, rfl, hb5, rfl, hlen, hxs⟩ K K0 hk hk0
      have hi2 : i < c + 1 := by
        have := (List.getElem?_eq_some_iff.mp hi).1
        unfold rngD at this
        rw [List.length_map, List.length_range] at this
        exact this
      simp only [dSeq, dCut, dSet, dkE, dkL, dVar, dVarK, at', startD, dC, dOp, dCmp, dVal, dTest, dNot, dAnd, dOr, dAndV, dOrV, dNotV, dIf, dNil, dCons, dTup, dLst, dFrz, dCall, dMth, isStr, dPart0, dPart, dSl, gSlice, dStep, dRevL, dNext, dNever, dRet, dDrop, dIfS, dPar, dPar3, dAsg, dFor, dWhile, dLc, dLc2, gN, gTupD, gNc, gN0, dYes, dSq, dSeqL, dSeqT, dSeqS, dRng1, dRng2, dRng3, dEnum, dEnumT, dZip, dFn, dFnM, dFnK, own', isOwn, dMut, gApp, gExt, dSto, dIxO, dLenO, dLenS, dIxS', dFnS, scr', isScr, dRetN, dSeqN, dFnN, dFnNS, dIsi, dIsi2, dNeg, gAdd, Dl.gSub, gMul, gDiv, gMod, gPow, gEq, gNe, gLt, gLe, gGt, gGe, gIs, gIsNot, isNone, gIx, gLen, gMax, gMin, gSum, gAll, gAbs, gInt, gTuple, gList, gListS, gStrI, gRepr, gJoin, gSw, gEw, gAscii, gAlpha, gLower, List.set, List.map, List.length_cons, List.length_nil, List.cons_append, List.nil_append, List.replicate, dWipe, Nat.reduceAdd, Nat.reduceSub, dChain, gInTup, dFnMN, dkD, dInD, dNotInD, dGetD, dPutD, dic', isDic, keyQ, keyP, dLRg, dkN2, dBor, nstD, dN0, dFnNK, flatO, flatCl, dSortS, gNeS, gIn, gNotIn, gIndex, isLstD, dMthL, gDivmod, sh_non, sh_bl, sh_int, nd_non, nd_bl, nd_int, nd_str, nd_lst, nd_tup, nds_nil, nds_cons, ev_int, ev_str, ev_bl, isi_str_non, isi_str_bl, isi_str_int, isi_str_str, isi_str_lst, isi_str_tup, isi_int_non, isi_int_bl, isi_int_int, isi_int_str, isi_int_lst, isi_int_tup, isi_bool_non, isi_bool_bl, isi_bool_int, isi_bool_str, isi_bool_lst, isi_bool_tup, isi_list_non, isi_list_bl, isi_list_int, isi_list_str, isi_list_lst, isi_list_tup, isi_tuple_non, isi_tuple_bl, isi_tuple_int, isi_tuple_str, isi_tuple_lst, isi_tuple_tup, Bool.not_true, Bool.not_false, Bool.true_or, Bool.false_or, Bool.or_false, Bool.or_true, Bool.true_and, Bool.false_and, Bool.and_true, Bool.and_false, Bool.false_eq_true, if_true, if_false, true_and, and_true, eq_self_iff_true, beq_self_eq_true, atI_0, atI_1, atI_2, atI_3, atI_4, atI_5, atI_6, atI_7, atI_8, atI_9, atI_10, atI_11, atI_12, atI_13, atI_14, ixN_3_0, ixN_3_1, ixN_3_2, Option.some.injEq, exists_eq_left', Int.reduceToNat, Int.reduceNeg, rowT]
      refine ⟨_, 3, hb5, by omega, rfl, by decide, fun z ys6 hz hzl hb6 => ?_⟩
      simp only [dSeq, dCut, dSet, dkE, dkL, dVar, dVarK, at', startD, dC, dOp, dCmp, dVal, dTest, dNot, dAnd, dOr, dAndV, dOrV, dNotV, dIf, dNil, dCons, dTup, dLst, dFrz, dCall, dMth, isStr, dPart0, dPart, dSl, gSlice, dStep, dRevL, dNext, dNever, dRet, dDrop, dIfS, dPar, dPar3, dAsg, dFor, dWhile, dLc, dLc2, gN, gTupD, gNc, gN0, dYes, dSq, dSeqL, dSeqT, dSeqS, dRng1, dRng2, dRng3, dEnum, dEnumT, dZip, dFn, dFnM, dFnK, own', isOwn, dMut, gApp, gExt, dSto, dIxO, dLenO, dLenS, dIxS', dFnS, scr', isScr, dRetN, dSeqN, dFnN, dFnNS, dIsi, dIsi2, dNeg, gAdd, Dl.gSub, gMul, gDiv, gMod, gPow, gEq, gNe, gLt, gLe, gGt, gGe, gIs, gIsNot, isNone, gIx, gLen, gMax, gMin, gSum, gAll, gAbs, gInt, gTuple, gList, gListS, gStrI, gRepr, gJoin, gSw, gEw, gAscii, gAlpha, gLower, List.set, List.map, List.length_cons, List.length_nil, List.cons_append, List.nil_append, List.replicate, dWipe, Nat.reduceAdd, Nat.reduceSub, dChain, gInTup, dFnMN, dkD, dInD, dNotInD, dGetD, dPutD, dic', isDic, keyQ, keyP, dLRg, dkN2, dBor, nstD, dN0, dFnNK, flatO, flatCl, dSortS, gNeS, gIn, gNotIn, gIndex, isLstD, dMthL, gDivmod, sh_non, sh_bl, sh_int, nd_non, nd_bl, nd_int, nd_str, nd_lst, nd_tup, nds_nil, nds_cons, ev_int, ev_str, ev_bl, isi_str_non, isi_str_bl, isi_str_int, isi_str_str, isi_str_lst, isi_str_tup, isi_int_non, isi_int_bl, isi_int_int, isi_int_str, isi_int_lst, isi_int_tup, isi_bool_non, isi_bool_bl, isi_bool_int, isi_bool_str, isi_bool_lst, isi_bool_tup, isi_list_non, isi_list_bl, isi_list_int, isi_list_str, isi_list_lst, isi_list_tup, isi_tuple_non, isi_tuple_bl, isi_tuple_int, isi_tuple_str, isi_tuple_lst, isi_tuple_tup, Bool.not_true, Bool.not_false, Bool.true_or, Bool.false_or, Bool.or_false, Bool.or_true, Bool.true_and, Bool.false_and, Bool.and_true, Bool.and_false, Bool.false_eq_true, if_true, if_false, true_and, and_true, eq_self_iff_true, beq_self_eq_true, atI_0, atI_1, atI_2, atI_3, atI_4, atI_5, atI_6, atI_7, atI_8, atI_9, atI_10, atI_11, atI_12, atI_13, atI_14, ixN_3_0, ixN_3_1, ixN_3_2, Option.some.injEq, exists_eq_left', Int.reduceToNat, Int.reduceNeg, rowT]
      refine hk _ _ ⟨?_, xs ++ [z], ys6, rfl, hb6.mono (by omega), by simp, by simp [hlen], fun x hx => ?_⟩
      · rw [List.length_map, hlen]
        exact Nat.lt_of_lt_of_le (by omega : i < 2000) (sl_le (by decide))
      · rcases List.mem_append.mp hx with g | g
        · exact hxs x g
        · rw [List.mem_singleton] at g
          subst g
          exact ⟨hz, hzl⟩
    · rintro acc Γ ⟨xs, ys5, rfl, hb5, rfl, hlen, hxs⟩
      have hlen : xs.length = c + 1 := by
        rw [hlen]
        unfold rngD
        rw [List.length_map, List.length_range]
      simp only [dSeq, dCut, dSet, dkE, dkL, dVar, dVarK, at', startD, dC, dOp, dCmp, dVal, dTest, dNot, dAnd, dOr, dAndV, dOrV, dNotV, dIf, dNil, dCons, dTup, dLst, dFrz, dCall, dMth, isStr, dPart0, dPart, dSl, gSlice, dStep, dRevL, dNext, dNever, dRet, dDrop, dIfS, dPar, dPar3, dAsg, dFor, dWhile, dLc, dLc2, gN, gTupD, gNc, gN0, dYes, dSq, dSeqL, dSeqT, dSeqS, dRng1, dRng2, dRng3, dEnum, dEnumT, dZip, dFn, dFnM, dFnK, own', isOwn, dMut, gApp, gExt, dSto, dIxO, dLenO, dLenS, dIxS', dFnS, scr', isScr, dRetN, dSeqN, dFnN, dFnNS, dIsi, dIsi2, dNeg, gAdd, Dl.gSub, gMul, gDiv, gMod, gPow, gEq, gNe, gLt, gLe, gGt, gGe, gIs, gIsNot, isNone, gIx, gLen, gMax, gMin, gSum, gAll, gAbs, gInt, gTuple, gList, gListS, gStrI, gRepr, gJoin, gSw, gEw, gAscii, gAlpha, gLower, List.set, List.map, List.length_cons, List.length_nil, List.cons_append, List.nil_append, List.replicate, dWipe, Nat.reduceAdd, Nat.reduceSub, dChain, gInTup, dFnMN, dkD, dInD, dNotInD, dGetD, dPutD, dic', isDic, keyQ, keyP, dLRg, dkN2, dBor, nstD, dN0, dFnNK, flatO, flatCl, dSortS, gNeS, gIn, gNotIn, gIndex, isLstD, dMthL, gDivmod, sh_non, sh_bl, sh_int, nd_non, nd_bl, nd_int, nd_str, nd_lst, nd_tup, nds_nil, nds_cons, ev_int, ev_str, ev_bl, isi_str_non, isi_str_bl, isi_str_int, isi_str_str, isi_str_lst, isi_str_tup, isi_int_non, isi_int_bl, isi_int_int, isi_int_str, isi_int_lst, isi_int_tup, isi_bool_non, isi_bool_bl, isi_bool_int, isi_bool_str, isi_bool_lst, isi_bool_tup, isi_list_non, isi_list_bl, isi_list_int, isi_list_str, isi_list_lst, isi_list_tup, isi_tuple_non, isi_tuple_bl, isi_tuple_int, isi_tuple_str, isi_tuple_lst, isi_tuple_tup, Bool.not_true, Bool.not_false, Bool.true_or, Bool.false_or, Bool.or_false, Bool.or_true, Bool.true_and, Bool.false_and, Bool.and_true, Bool.and_false, Bool.false_eq_true, if_true, if_false, true_and, and_true, eq_self_iff_true, beq_self_eq_true, atI_0, atI_1, atI_2, atI_3, atI_4, atI_5, atI_6, atI_7, atI_8, atI_9, atI_10, atI_11, atI_12, atI_13, atI_14, ixN_3_0, ixN_3_1, ixN_3_2, Option.some.injEq, exists_eq_left', Int.reduceToNat, Int.reduceNeg, rowT]
      refine q _ _ (by omega) (by omega) (fun z hz => ⟨(hxs z hz).1, Nat.le_trans (hxs z hz).2 (by decide)⟩) (hb5.mono ?_)
      unfold rngD
      rw [List.length_map, List.length_range]
      omega
/-- the factors that are drawn: few words, none of more than twenty letters -/
structure FacsOk (most : Nat) (rs : List (List Str)) : Prop where
  len : rs.length ≤ 4
  row : ∀ r ∈ rs, (1 ≤ r.length ∧ r.length ≤ 5) ∧ WdsOk 20 r
  cnt : cnt rs ≤ most
  wds : WdsOk 20 (prodW rs)
def t_factors : GNM := fun ys ds Q => ∃ n most : Nat, BagOk n ys ∧ n ≤ 10 ^ 5 ∧ ds = [.int (most : Int)] ∧ 1 ≤ most ∧ most ≤ 60 ∧ ∀ rs ys', 1 ≤ rs.length → FacsOk most rs → BagOk (n + 1000) ys' → Q (.list (rs.map rowT)) ys'
theorem facs_nil {most : Nat} (h : 1 ≤ most) : FacsOk most [] := ⟨by simp, fun r h => by simp at h, h, fun x hx => by
  simp [prodW] at hx
  subst hx
  exact ⟨lets_nil, by decide +kernel⟩⟩
theorem prodW_snoc (rs : List (List Str)) (r : List Str) : prodW (rs ++ [r]) = addRow (prodW rs) r := by
  unfold prodW
  rw [List.foldl_append]
  rfl
theorem cnt_snoc (rs : List (List Str)) (r : List Str) : Bl.cnt (rs ++ [r]) = Bl.cnt rs * r.length := by
  unfold Bl.cnt
  rw [List.foldl_append]
  rfl
theorem facs_one {most : Nat} (h : 1 ≤ most) : FacsOk most [["a"]] := ⟨by simp, fun r hr => by
    simp at hr
    subst hr
    exact ⟨⟨by decide, by decide⟩, fun x hx => by
      simp at hx
      subst hx
      exact ⟨by unfold Lets; decide +kernel, by decide +kernel⟩⟩, h, fun x hx => by
  rw [show prodW [["a"]] = addRow [""] ["a"] from rfl] at hx
  unfold addRow at hx
  simp at hx
  subst hx
  exact ⟨by unfold Lets; decide +kernel, by decide +kernel⟩⟩
theorem lens_cast (ws : List Str) : ws.map (fun x => PyData.int (x.length : Nat)) = (ws.map fun x => (x.length : Int)).map .int := by rw [List.map_map]; rfl
theorem d_factors (a : At K mg "_law_factors" s__law_factors ["bag", "most"]) (B : Names mg) (h__law_take : FM P w K mg base "_law_take" 1 2 t_take) (h__law_factor : FM P w K mg base "_law_factor" 3 2 t_factor) (h__law_times : FD P w K mg base "_law_times" 1 2 t_times) : FM P w K mg base "_law_factors" 4 2 t_factors := by
  obtain ⟨f, fd, F, m, b⟩ := a
  refine ⟨f, fd, _, ok_M F sc__law_factors (by decide) (fun cdv A outer s H E hr => (dss_cons (ds_par (i := 2) (j := 3) rfl sc__law_factors.nd rfl rfl (by decide) rfl rfl (dk_l (dl_lst da_nil)) (dk_e (de_frz (dl_lst (da_cons de_str da_nil)))) (by rfl))
      (dss_cut (ds_for PassesOwn.never rfl (di_range1 (by rfl) B.range (da_cons (de_op op_addD de_int (de_fnM 0 h__law_take (hr.mono (by decide)) (by rfl) (fun _ => pass0) (da_cons de_int da_nil))) da_nil)) (dg_name (i := 4) sc__law_factors.nd rfl (Or.inl rfl)) (dss_cons (ds_set (i := 5) sc__law_factors.nd rfl (Or.inl rfl) (dk_e (de_fnM 0 h__law_factor (hr.mono (by decide)) (by rfl) (fun _ => pass0) (da_cons de_int da_nil))))
      (dss_cons (ds_set (i := 6) sc__law_factors.nd rfl (Or.inl rfl) (dk_e (de_op op_addD (de_callB (cr_maxD rfl) (by rfl) B.max (by decide +kernel) (da_cons (de_frz (dl_lc (own := [("one", 7)]) rfl sc__law_factors.nd (di_sq (de_var 3)) (blkOk_by (N := ["bag", "most", "found", "whole", "turn", "some", "far_end", "one"]) (sc := defScope s__law_factors) (by decide +kernel)) (fun _ _ _ _ _ => (dg_name (i := 7) sc__law_factors.nd rfl (Or.inl rfl))) (fun _ _ _ _ _ => dq_nil) (fun _ _ _ _ _ => (de_callB cr_lenD (by rfl) B.len (by decide +kernel) (da_cons (de_var 7) da_nil))))) da_nil)) (de_callB (cr_maxD rfl) (by rfl) B.max (by decide +kernel) (da_cons (de_frz (dl_lc (own := [("one", 7)]) rfl sc__law_factors.nd (di_sq (de_var 5)) (blkOk_by (N := ["bag", "most", "found", "whole", "turn", "some", "far_end", "one"]) (sc := defScope s__law_factors) (by decide +kernel)) (fun _ _ _ _ _ => (dg_name (i := 7) sc__law_factors.nd rfl (Or.inl rfl))) (fun _ _ _ _ _ => dq_nil) (fun _ _ _ _ _ => (de_callB cr_lenD (by rfl) B.len (by decide +kernel) (da_cons (de_var 7) da_nil))))) da_nil)))))
      (dss_one (ds_if (DW.pt (dw_and (dt_cmp op_leD (de_op op_mulD (de_callB cr_lenD (by rfl) B.len (by decide +kernel) (da_cons (de_var 3) da_nil)) (de_callB cr_lenD (by rfl) B.len (by decide +kernel) (da_cons (de_var 5) da_nil))) (de_var 1)) (dw_and1 (dt_cmp op_leD (de_var 6) de_int)))) (dss_cons (ds_mut 2 PySem.F.slot_list_append PySem.F.type_list_append mt_appD (da_cons (de_callTy cr_tupleD (by rfl) B.tuple (by decide +kernel) (da_cons (de_var 5) da_nil)) da_nil))
      (dss_one (ds_set (i := 3) sc__law_factors.nd rfl (Or.inl rfl) (dk_e (de_fn h__law_times (hr.mono (by decide)) (by rfl) (fun _ => pass0) (da_cons (de_var 3) (da_cons (de_var 5) da_nil))))))) dss_nil)))))
      (dss_one (ds_ret (de_ifExp (dt_cmp (op_neDD hr.units) (de_var 2) (de_frz (dl_lst da_nil))) (de_var 2) (de_frz (dl_lst (da_cons (de_tup (da_cons de_str da_nil)) da_nil))))))))
      ) (fun p ys ds Q0 hl h => ?_), m, F.kp, b⟩
  obtain ⟨n, most, hb, hn, rfl, hm1, hm, q⟩ := h
  simp only [dSeq, dCut, dSet, dkE, dkL, dVar, dVarK, at', startD, dC, dOp, dCmp, dVal, dTest, dNot, dAnd, dOr, dAndV, dOrV, dNotV, dIf, dNil, dCons, dTup, dLst, dFrz, dCall, dMth, isStr, dPart0, dPart, dSl, gSlice, dStep, dRevL, dNext, dNever, dRet, dDrop, dIfS, dPar, dPar3, dAsg, dFor, dWhile, dLc, dLc2, gN, gTupD, gNc, gN0, dYes, dSq, dSeqL, dSeqT, dSeqS, dRng1, dRng2, dRng3, dEnum, dEnumT, dZip, dFn, dFnM, dFnK, own', isOwn, dMut, gApp, gExt, dSto, dIxO, dLenO, dLenS, dIxS', dFnS, scr', isScr, dRetN, dSeqN, dFnN, dFnNS, dIsi, dIsi2, dNeg, gAdd, Dl.gSub, gMul, gDiv, gMod, gPow, gEq, gNe, gLt, gLe, gGt, gGe, gIs, gIsNot, isNone, gIx, gLen, gMax, gMin, gSum, gAll, gAbs, gInt, gTuple, gList, gListS, gStrI, gRepr, gJoin, gSw, gEw, gAscii, gAlpha, gLower, List.set, List.map, List.length_cons, List.length_nil, List.cons_append, List.nil_append, List.replicate, dWipe, Nat.reduceAdd, Nat.reduceSub, dChain, gInTup, dFnMN, dkD, dInD, dNotInD, dGetD, dPutD, dic', isDic, keyQ, keyP, dLRg, dkN2, dBor, nstD, dN0, dFnNK, flatO, flatCl, dSortS, gNeS, gIn, gNotIn, gIndex, isLstD, dMthL, gDivmod, sh_non, sh_bl, sh_int, nd_non, nd_bl, nd_int, nd_str, nd_lst, nd_tup, nds_nil, nds_cons, ev_int, ev_str, ev_bl, isi_str_non, isi_str_bl, isi_str_int, isi_str_str, isi_str_lst, isi_str_tup, isi_int_non, isi_int_bl, isi_int_int, isi_int_str, isi_int_lst, isi_int_tup, isi_bool_non, isi_bool_bl, isi_bool_int, isi_bool_str, isi_bool_lst, isi_bool_tup, isi_list_non, isi_list_bl, isi_list_int, isi_list_str, isi_list_lst, isi_list_tup, isi_tuple_non, isi_tuple_bl, isi_tuple_int, isi_tuple_str, isi_tuple_lst, isi_tuple_tup, Bool.not_true, Bool.not_false, Bool.true_or, Bool.false_or, Bool.or_false, Bool.or_true, Bool.true_and, Bool.false_and, Bool.and_true, Bool.and_false, Bool.false_eq_true, if_true, if_false, true_and, and_true, eq_self_iff_true, beq_self_eq_true, atI_0, atI_1, atI_2, atI_3, atI_4, atI_5, atI_6, atI_7, atI_8, atI_9, atI_10, atI_11, atI_12, atI_13, atI_14, ixN_3_0, ixN_3_1, ixN_3_2, Option.some.injEq, exists_eq_left', Int.reduceToNat, Int.reduceNeg, rowT]
  refine ⟨by decide +kernel, fun p1 => ⟨by decide +kernel, fun Γ => ∃ rs ys' o4 o5 o6 o7, Γ = [some (.own p ys'), some (.d (.int (most : Int))), some (.own p1 (rs.map rowT)), some (.d (.list ((prodW rs).map .str))), o4, o5, o6, o7] ∧ FacsOk most rs ∧ BagOk (n + 1000) ys', ?_, ?_⟩⟩
  · refine ⟨n, 4, hb, by omega, rfl, by decide, by decide +kernel, fun v ys1 hv hb1 => ?_⟩
    simp only [dSeq, dCut, dSet, dkE, dkL, dVar, dVarK, at', startD, dC, dOp, dCmp, dVal, dTest, dNot, dAnd, dOr, dAndV, dOrV, dNotV, dIf, dNil, dCons, dTup, dLst, dFrz, dCall, dMth, isStr, dPart0, dPart, dSl, gSlice, dStep, dRevL, dNext, dNever, dRet, dDrop, dIfS, dPar, dPar3, dAsg, dFor, dWhile, dLc, dLc2, gN, gTupD, gNc, gN0, dYes, dSq, dSeqL, dSeqT, dSeqS, dRng1, dRng2, dRng3, dEnum, dEnumT, dZip, dFn, dFnM, dFnK, own', isOwn, dMut, gApp, gExt, dSto, dIxO, dLenO, dLenS, dIxS', dFnS, scr', isScr, dRetN, dSeqN, dFnN, dFnNS, dIsi, dIsi2, dNeg, gAdd, Dl.gSub, gMul, gDiv, gMod, gPow, gEq, gNe, gLt, gLe, gGt, gGe, gIs, gIsNot, isNone, gIx, gLen, gMax, gMin, gSum, gAll, gAbs, gInt, gTuple, gList, gListS, gStrI, gRepr, gJoin, gSw, gEw, gAscii, gAlpha, gLower, List.set, List.map, List.length_cons, List.length_nil, List.cons_append, List.nil_append, List.replicate, dWipe, Nat.reduceAdd, Nat.reduceSub, dChain, gInTup, dFnMN, dkD, dInD, dNotInD, dGetD, dPutD, dic', isDic, keyQ, keyP, dLRg, dkN2, dBor, nstD, dN0, dFnNK, flatO, flatCl, dSortS, gNeS, gIn, gNotIn, gIndex, isLstD, dMthL, gDivmod, sh_non, sh_bl, sh_int, nd_non, nd_bl, nd_int, nd_str, nd_lst, nd_tup, nds_nil, nds_cons, ev_int, ev_str, ev_bl, isi_str_non, isi_str_bl, isi_str_int, isi_str_str, isi_str_lst, isi_str_tup, isi_int_non, isi_int_bl, isi_int_int, isi_int_str, isi_int_lst, isi_int_tup, isi_bool_non, isi_bool_bl, isi_bool_int, isi_bool_str, isi_bool_lst, isi_bool_tup, isi_list_non, isi_list_bl, isi_list_int, isi_list_str, isi_list_lst, isi_list_tup, isi_tuple_non, isi_tuple_bl, isi_tuple_int, isi_tuple_str, isi_tuple_lst, isi_tuple_tup, Bool.not_true, Bool.not_false, Bool.true_or, Bool.false_or, Bool.or_false, Bool.or_true, Bool.true_and, Bool.false_and, Bool.and_true, Bool.and_false, Bool.false_eq_true, if_true, if_false, true_and, and_true, eq_self_iff_true, beq_self_eq_true, atI_0, atI_1, atI_2, atI_3, atI_4, atI_5, atI_6, atI_7, atI_8, atI_9, atI_10, atI_11, atI_12, atI_13, atI_14, ixN_3_0, ixN_3_1, ixN_3_2, Option.some.injEq, exists_eq_left', Int.reduceToNat, Int.reduceNeg, rowT]
    refine ⟨⟨by omega, by omega⟩, ?_⟩
    have hv1 : (1 + (v : Int)).toNat = v + 1 := by omega
    rw [hv1]
    refine for_ind (fun i Γ => ∃ rs ys' o4 o5 o6 o7, Γ = [some (.own p ys'), some (.d (.int (most : Int))), some (.own p1 (rs.map rowT)), some (.d (.list ((prodW rs).map .str))), o4, o5, o6, o7] ∧ FacsOk most rs ∧ rs.length ≤ i ∧ BagOk (n + 1 + 100 * i) ys') ⟨[], ys1, none, none, none, none, rfl, facs_nil hm1, Nat.zero_le _, hb1⟩ ?_ fun Γ h => ?_
    · rintro i d Γ hi ⟨rs, ys2, o4, o5, o6, o7, rfl, hf, hlen, hb2⟩ K hk
      have hi2 : i < v + 1 := by
        have := (List.getElem?_eq_some_iff.mp hi).1
        unfold rngD at this
        rw [List.length_map, List.length_range] at this
        exact this
      simp only [dSeq, dCut, dSet, dkE, dkL, dVar, dVarK, at', startD, dC, dOp, dCmp, dVal, dTest, dNot, dAnd, dOr, dAndV, dOrV, dNotV, dIf, dNil, dCons, dTup, dLst, dFrz, dCall, dMth, isStr, dPart0, dPart, dSl, gSlice, dStep, dRevL, dNext, dNever, dRet, dDrop, dIfS, dPar, dPar3, dAsg, dFor, dWhile, dLc, dLc2, gN, gTupD, gNc, gN0, dYes, dSq, dSeqL, dSeqT, dSeqS, dRng1, dRng2, dRng3, dEnum, dEnumT, dZip, dFn, dFnM, dFnK, own', isOwn, dMut, gApp, gExt, dSto, dIxO, dLenO, dLenS, dIxS', dFnS, scr', isScr, dRetN, dSeqN, dFnN, dFnNS, dIsi, dIsi2, dNeg, gAdd, Dl.gSub, gMul, gDiv, gMod, gPow, gEq, gNe, gLt, gLe, gGt, gGe, gIs, gIsNot, isNone, gIx, gLen, gMax, gMin, gSum, gAll, gAbs, gInt, gTuple, gList, gListS, gStrI, gRepr, gJoin, gSw, gEw, gAscii, gAlpha, gLower, List.set, List.map, List.length_cons, List.length_nil, List.cons_append, List.nil_append, List.replicate, dWipe, Nat.reduceAdd, Nat.reduceSub, dChain, gInTup, dFnMN, dkD, dInD, dNotInD, dGetD, dPutD, dic', isDic, keyQ, keyP, dLRg, dkN2, dBor, nstD, dN0, dFnNK, flatO, flatCl, dSortS, gNeS, gIn, gNotIn, gIndex, isLstD, dMthL, gDivmod, sh_non, sh_bl, sh_int, nd_non, nd_bl, nd_int, nd_str, nd_lst, nd_tup, nds_nil, nds_cons, ev_int, ev_str, ev_bl, isi_str_non, isi_str_bl, isi_str_int, isi_str_str, isi_str_lst, isi_str_tup, isi_int_non, isi_int_bl, isi_int_int, isi_int_str, isi_int_lst, isi_int_tup, isi_bool_non, isi_bool_bl, isi_bool_int, isi_bool_str, isi_bool_lst, isi_bool_tup, isi_list_non, isi_list_bl, isi_list_int, isi_list_str, isi_list_lst, isi_list_tup, isi_tuple_non, isi_tuple_bl, isi_tuple_int, isi_tuple_str, isi_tuple_lst, isi_tuple_tup, Bool.not_true, Bool.not_false, Bool.true_or, Bool.false_or, Bool.or_false, Bool.or_true, Bool.true_and, Bool.false_and, Bool.and_true, Bool.and_false, Bool.false_eq_true, if_true, if_false, true_and, and_true, eq_self_iff_true, beq_self_eq_true, atI_0, atI_1, atI_2, atI_3, atI_4, atI_5, atI_6, atI_7, atI_8, atI_9, atI_10, atI_11, atI_12, atI_13, atI_14, ixN_3_0, ixN_3_1, ixN_3_2, Option.some.injEq, exists_eq_left', Int.reduceToNat, Int.reduceNeg, rowT]
      refine ⟨_, hb2, by omega, rfl, fun ws ys3 hw1 hw5 hwk hb3 => ?_⟩
      simp only [dSeq, dCut, dSet, dkE, dkL, dVar, dVarK, at', startD, dC, dOp, dCmp, dVal, dTest, dNot, dAnd, dOr, dAndV, dOrV, dNotV, dIf, dNil, dCons, dTup, dLst, dFrz, dCall, dMth, isStr, dPart0, dPart, dSl, gSlice, dStep, dRevL, dNext, dNever, dRet, dDrop, dIfS, dPar, dPar3, dAsg, dFor, dWhile, dLc, dLc2, gN, gTupD, gNc, gN0, dYes, dSq, dSeqL, dSeqT, dSeqS, dRng1, dRng2, dRng3, dEnum, dEnumT, dZip, dFn, dFnM, dFnK, own', isOwn, dMut, gApp, gExt, dSto, dIxO, dLenO, dLenS, dIxS', dFnS, scr', isScr, dRetN, dSeqN, dFnN, dFnNS, dIsi, dIsi2, dNeg, gAdd, Dl.gSub, gMul, gDiv, gMod, gPow, gEq, gNe, gLt, gLe, gGt, gGe, gIs, gIsNot, isNone, gIx, gLen, gMax, gMin, gSum, gAll, gAbs, gInt, gTuple, gList, gListS, gStrI, gRepr, gJoin, gSw, gEw, gAscii, gAlpha, gLower, List.set, List.map, List.length_cons, List.length_nil, List.cons_append, List.nil_append, List.replicate, dWipe, Nat.reduceAdd, Nat.reduceSub, dChain, gInTup, dFnMN, dkD, dInD, dNotInD, dGetD, dPutD, dic', isDic, keyQ, keyP, dLRg, dkN2, dBor, nstD, dN0, dFnNK, flatO, flatCl, dSortS, gNeS, gIn, gNotIn, gIndex, isLstD, dMthL, gDivmod, sh_non, sh_bl, sh_int, nd_non, nd_bl, nd_int, nd_str, nd_lst, nd_tup, nds_nil, nds_cons, ev_int, ev_str, ev_bl, isi_str_non, isi_str_bl, isi_str_int, isi_str_str, isi_str_lst, isi_str_tup, isi_int_non, isi_int_bl, isi_int_int, isi_int_str, isi_int_lst, isi_int_tup, isi_bool_non, isi_bool_bl, isi_bool_int, isi_bool_str, isi_bool_lst, isi_bool_tup, isi_list_non, isi_list_bl, isi_list_int, isi_list_str, isi_list_lst, isi_list_tup, isi_tuple_non, isi_tuple_bl, isi_tuple_int, isi_tuple_str, isi_tuple_lst, isi_tuple_tup, Bool.not_true, Bool.not_false, Bool.true_or, Bool.false_or, Bool.or_false, Bool.or_true, Bool.true_and, Bool.false_and, Bool.and_true, Bool.and_false, Bool.false_eq_true, if_true, if_false, true_and, and_true, eq_self_iff_true, beq_self_eq_true, atI_0, atI_1, atI_2, atI_3, atI_4, atI_5, atI_6, atI_7, atI_8, atI_9, atI_10, atI_11, atI_12, atI_13, atI_14, ixN_3_0, ixN_3_1, ixN_3_2, Option.some.injEq, exists_eq_left', Int.reduceToNat, Int.reduceNeg, rowT]
      have hc1 : Bl.cnt rs ≤ most := hf.cnt
      have hp : 0 < Bl.cnt rs := cnt_pos fun r hr => (hf.row r hr).1.1
      refine lc_map PyData.str (fun x => .int (x.length : Nat)) rfl (sl_le (by rw [prodW_len]; omega)) (fun x hx K2 hk2 => ?_) ⟨(prodW rs).map fun x => (x.length : Int), lens_cast _, by rw [List.length_map, prodW_len]; exact hp, fun m1 hm1 hmx => ?_⟩
      · simp only [dSeq, dCut, dSet, dkE, dkL, dVar, dVarK, at', startD, dC, dOp, dCmp, dVal, dTest, dNot, dAnd, dOr, dAndV, dOrV, dNotV, dIf, dNil, dCons, dTup, dLst, dFrz, dCall, dMth, isStr, dPart0, dPart, dSl, gSlice, dStep, dRevL, dNext, dNever, dRet, dDrop, dIfS, dPar, dPar3, dAsg, dFor, dWhile, dLc, dLc2, gN, gTupD, gNc, gN0, dYes, dSq, dSeqL, dSeqT, dSeqS, dRng1, dRng2, dRng3, dEnum, dEnumT, dZip, dFn, dFnM, dFnK, own', isOwn, dMut, gApp, gExt, dSto, dIxO, dLenO, dLenS, dIxS', dFnS, scr', isScr, dRetN, dSeqN, dFnN, dFnNS, dIsi, dIsi2, dNeg, gAdd, Dl.gSub, gMul, gDiv, gMod, gPow, gEq, gNe, gLt, gLe, gGt, gGe, gIs, gIsNot, isNone, gIx, gLen, gMax, gMin, gSum, gAll, gAbs, gInt, gTuple, gList, gListS, gStrI, gRepr, gJoin, gSw, gEw, gAscii, gAlpha, gLower, List.set, List.map, List.length_cons, List.length_nil, List.cons_append, List.nil_append, List.replicate, dWipe, Nat.reduceAdd, Nat.reduceSub, dChain, gInTup, dFnMN, dkD, dInD, dNotInD, dGetD, dPutD, dic', isDic, keyQ, keyP, dLRg, dkN2, dBor, nstD, dN0, dFnNK, flatO, flatCl, dSortS, gNeS, gIn, gNotIn, gIndex, isLstD, dMthL, gDivmod, sh_non, sh_bl, sh_int, nd_non, nd_bl, nd_int, nd_str, nd_lst, nd_tup, nds_nil, nds_cons, ev_int, ev_str, ev_bl, isi_str_non, isi_str_bl, isi_str_int, isi_str_str, isi_str_lst, isi_str_tup, isi_int_non, isi_int_bl, isi_int_int, isi_int_str, isi_int_lst, isi_int_tup, isi_bool_non, isi_bool_bl, isi_bool_int, isi_bool_str, isi_bool_lst, isi_bool_tup, isi_list_non, isi_list_bl, isi_list_int, isi_list_str, isi_list_lst, isi_list_tup, isi_tuple_non, isi_tuple_bl, isi_tuple_int, isi_tuple_str, isi_tuple_lst, isi_tuple_tup, Bool.not_true, Bool.not_false, Bool.true_or, Bool.false_or, Bool.or_false, Bool.or_true, Bool.true_and, Bool.false_and, Bool.and_true, Bool.and_false, Bool.false_eq_true, if_true, if_false, true_and, and_true, eq_self_iff_true, beq_self_eq_true, atI_0, atI_1, atI_2, atI_3, atI_4, atI_5, atI_6, atI_7, atI_8, atI_9, atI_10, atI_11, atI_12, atI_13, atI_14, ixN_3_0, ixN_3_1, ixN_3_2, Option.some.injEq, exists_eq_left', Int.reduceToNat, Int.reduceNeg, rowT]
        exact ⟨sl_le (by have := (hf.wds x hx).2; omega), hk2 _ rfl⟩
      simp only [dSeq, dCut, dSet, dkE, dkL, dVar, dVarK, at', startD, dC, dOp, dCmp, dVal, dTest, dNot, dAnd, dOr, dAndV, dOrV, dNotV, dIf, dNil, dCons, dTup, dLst, dFrz, dCall, dMth, isStr, dPart0, dPart, dSl, gSlice, dStep, dRevL, dNext, dNever, dRet, dDrop, dIfS, dPar, dPar3, dAsg, dFor, dWhile, dLc, dLc2, gN, gTupD, gNc, gN0, dYes, dSq, dSeqL, dSeqT, dSeqS, dRng1, dRng2, dRng3, dEnum, dEnumT, dZip, dFn, dFnM, dFnK, own', isOwn, dMut, gApp, gExt, dSto, dIxO, dLenO, dLenS, dIxS', dFnS, scr', isScr, dRetN, dSeqN, dFnN, dFnNS, dIsi, dIsi2, dNeg, gAdd, Dl.gSub, gMul, gDiv, gMod, gPow, gEq, gNe, gLt, gLe, gGt, gGe, gIs, gIsNot, isNone, gIx, gLen, gMax, gMin, gSum, gAll, gAbs, gInt, gTuple, gList, gListS, gStrI, gRepr, gJoin, gSw, gEw, gAscii, gAlpha, gLower, List.set, List.map, List.length_cons, List.length_nil, List.cons_append, List.nil_append, List.replicate, dWipe, Nat.reduceAdd, Nat.reduceSub, dChain, gInTup, dFnMN, dkD, dInD, dNotInD, dGetD, dPutD, dic', isDic, keyQ, keyP, dLRg, dkN2, dBor, nstD, dN0, dFnNK, flatO, flatCl, dSortS, gNeS, gIn, gNotIn, gIndex, isLstD, dMthL, gDivmod, sh_non, sh_bl, sh_int, nd_non, nd_bl, nd_int, nd_str, nd_lst, nd_tup, nds_nil, nds_cons, ev_int, ev_str, ev_bl, isi_str_non, isi_str_bl, isi_str_int, isi_str_str, isi_str_lst, isi_str_tup, isi_int_non, isi_int_bl, isi_int_int, isi_int_str, isi_int_lst, isi_int_tup, isi_bool_non, isi_bool_bl, isi_bool_int, isi_bool_str, isi_bool_lst, isi_bool_tup, isi_list_non, isi_list_bl, isi_list_int, isi_list_str, isi_list_lst, isi_list_tup, isi_tuple_non, isi_tuple_bl, isi_tuple_int, isi_tuple_str, isi_tuple_lst, isi_tuple_tup, Bool.not_true, Bool.not_false, Bool.true_or, Bool.false_or, Bool.or_false, Bool.or_true, Bool.true_and, Bool.false_and, Bool.and_true, Bool.and_false, Bool.false_eq_true, if_true, if_false, true_and, and_true, eq_self_iff_true, beq_self_eq_true, atI_0, atI_1, atI_2, atI_3, atI_4, atI_5, atI_6, atI_7, atI_8, atI_9, atI_10, atI_11, atI_12, atI_13, atI_14, ixN_3_0, ixN_3_1, ixN_3_2, Option.some.injEq, exists_eq_left', Int.reduceToNat, Int.reduceNeg, rowT]
      refine lc_map PyData.str (fun x => .int (x.length : Nat)) rfl (sl_le (by omega)) (fun x hx K2 hk2 => ?_) ⟨ws.map fun x => (x.length : Int), lens_cast _, by rw [List.length_map]; omega, fun m2 hm2 hmy => ?_⟩
      · simp only [dSeq, dCut, dSet, dkE, dkL, dVar, dVarK, at', startD, dC, dOp, dCmp, dVal, dTest, dNot, dAnd, dOr, dAndV, dOrV, dNotV, dIf, dNil, dCons, dTup, dLst, dFrz, dCall, dMth, isStr, dPart0, dPart, dSl, gSlice, dStep, dRevL, dNext, dNever, dRet, dDrop, dIfS, dPar, dPar3, dAsg, dFor, dWhile, dLc, dLc2, gN, gTupD, gNc, gN0, dYes, dSq, dSeqL, dSeqT, dSeqS, dRng1, dRng2, dRng3, dEnum, dEnumT, dZip, dFn, dFnM, dFnK, own', isOwn, dMut, gApp, gExt, dSto, dIxO, dLenO, dLenS, dIxS', dFnS, scr', isScr, dRetN, dSeqN, dFnN, dFnNS, dIsi, dIsi2, dNeg, gAdd, Dl.gSub, gMul, gDiv, gMod, gPow, gEq, gNe, gLt, gLe, gGt, gGe, gIs, gIsNot, isNone, gIx, gLen, gMax, gMin, gSum, gAll, gAbs, gInt, gTuple, gList, gListS, gStrI, gRepr, gJoin, gSw, gEw, gAscii, gAlpha, gLower, List.set, List.map, List.length_cons, List.length_nil, List.cons_append, List.nil_append, List.replicate, dWipe, Nat.reduceAdd, Nat.reduceSub, dChain, gInTup, dFnMN, dkD, dInD, dNotInD, dGetD, dPutD, dic', isDic, keyQ, keyP, dLRg, dkN2, dBor, nstD, dN0, dFnNK, flatO, flatCl, dSortS, gNeS, gIn, gNotIn, gIndex, isLstD, dMthL, gDivmod, sh_non, sh_bl, sh_int, nd_non, nd_bl, nd_int, nd_str, nd_lst, nd_tup, nds_nil, nds_cons, ev_int, ev_str, ev_bl, isi_str_non, isi_str_bl, isi_str_int, isi_str_str, isi_str_lst, isi_str_tup, isi_int_non, isi_int_bl, isi_int_int, isi_int_str, isi_int_lst, isi_int_tup, isi_bool_non, isi_bool_bl, isi_bool_int, isi_bool_str, isi_bool_lst, isi_bool_tup, isi_list_non, isi_list_bl, isi_list_int, isi_list_str, isi_list_lst, isi_list_tup, isi_tuple_non, isi_tuple_bl, isi_tuple_int, isi_tuple_str, isi_tuple_lst, isi_tuple_tup, Bool.not_true, Bool.not_false, Bool.true_or, Bool.false_or, Bool.or_false, Bool.or_true, Bool.true_and, Bool.false_and, Bool.and_true, Bool.and_false, Bool.false_eq_true, if_true, if_false, true_and, and_true, eq_self_iff_true, beq_self_eq_true, atI_0, atI_1, atI_2, atI_3, atI_4, atI_5, atI_6, atI_7, atI_8, atI_9, atI_10, atI_11, atI_12, atI_13, atI_14, ixN_3_0, ixN_3_1, ixN_3_2, Option.some.injEq, exists_eq_left', Int.reduceToNat, Int.reduceNeg, rowT]
        exact ⟨sl_le (by have := (hwk x hx).2; omega), hk2 _ rfl⟩
      simp only [dSeq, dCut, dSet, dkE, dkL, dVar, dVarK, at', startD, dC, dOp, dCmp, dVal, dTest, dNot, dAnd, dOr, dAndV, dOrV, dNotV, dIf, dNil, dCons, dTup, dLst, dFrz, dCall, dMth, isStr, dPart0, dPart, dSl, gSlice, dStep, dRevL, dNext, dNever, dRet, dDrop, dIfS, dPar, dPar3, dAsg, dFor, dWhile, dLc, dLc2, gN, gTupD, gNc, gN0, dYes, dSq, dSeqL, dSeqT, dSeqS, dRng1, dRng2, dRng3, dEnum, dEnumT, dZip, dFn, dFnM, dFnK, own', isOwn, dMut, gApp, gExt, dSto, dIxO, dLenO, dLenS, dIxS', dFnS, scr', isScr, dRetN, dSeqN, dFnN, dFnNS, dIsi, dIsi2, dNeg, gAdd, Dl.gSub, gMul, gDiv, gMod, gPow, gEq, gNe, gLt, gLe, gGt, gGe, gIs, gIsNot, isNone, gIx, gLen, gMax, gMin, gSum, gAll, gAbs, gInt, gTuple, gList, gListS, gStrI, gRepr, gJoin, gSw, gEw, gAscii, gAlpha, gLower, List.set, List.map, List.length_cons, List.length_nil, List.cons_append, List.nil_append, List.replicate, dWipe, Nat.reduceAdd, Nat.reduceSub, dChain, gInTup, dFnMN, dkD, dInD, dNotInD, dGetD, dPutD, dic', isDic, keyQ, keyP, dLRg, dkN2, dBor, nstD, dN0, dFnNK, flatO, flatCl, dSortS, gNeS, gIn, gNotIn, gIndex, isLstD, dMthL, gDivmod, sh_non, sh_bl, sh_int, nd_non, nd_bl, nd_int, nd_str, nd_lst, nd_tup, nds_nil, nds_cons, ev_int, ev_str, ev_bl, isi_str_non, isi_str_bl, isi_str_int, isi_str_str, isi_str_lst, isi_str_tup, isi_int_non, isi_int_bl, isi_int_int, isi_int_str, isi_int_lst, isi_int_tup, isi_bool_non, isi_bool_bl, isi_bool_int, isi_bool_str, isi_bool_lst, isi_bool_tup, isi_list_non, isi_list_bl, isi_list_int, isi_list_str, isi_list_lst, isi_list_tup, isi_tuple_non, isi_tuple_bl, isi_tuple_int, isi_tuple_str, isi_tuple_lst, isi_tuple_tup, Bool.not_true, Bool.not_false, Bool.true_or, Bool.false_or, Bool.or_false, Bool.or_true, Bool.true_and, Bool.false_and, Bool.and_true, Bool.and_false, Bool.false_eq_true, if_true, if_false, true_and, and_true, eq_self_iff_true, beq_self_eq_true, atI_0, atI_1, atI_2, atI_3, atI_4, atI_5, atI_6, atI_7, atI_8, atI_9, atI_10, atI_11, atI_12, atI_13, atI_14, ixN_3_0, ixN_3_1, ixN_3_2, Option.some.injEq, exists_eq_left', Int.reduceToNat, Int.reduceNeg, rowT]
      refine ⟨wide_nat' (n := 13) (m := 13) (by rw [List.length_map, prodW_len]; omega) (by rw [List.length_map]; omega) (by decide) (by decide) (by decide), ?_⟩
      by_cases hc : ((List.map PyData.str (prodW rs)).length : Int) * ((List.map PyData.str ws).length : Int) ≤ (most : Int)
      · refine if_y (decide_eq_true hc) ?_
        by_cases h20 : m1 + m2 ≤ 20
        · refine if_y (decide_eq_true h20) ⟨by rw [List.length_map]; exact Nat.lt_of_lt_of_le (by omega : rs.length < 100) (sl_le (by decide)), ?_⟩
          rw [List.length_map, List.length_map, prodW_len] at hc
          have hc' : Bl.cnt rs * ws.length ≤ most := by
            have : ((Bl.cnt rs * ws.length : Nat) : Int) ≤ (most : Int) := by rw [Int.natCast_mul]; exact hc
            omega
          refine ⟨_, _, prodW rs, ws, rfl, .inl rfl, .inl rfl, ⟨by rw [prodW_len]; omega, by omega, by rw [prodW_len]; omega⟩, fun x hx => ⟨(hf.wds x hx).1, by have := (hf.wds x hx).2; omega⟩, fun x hx => ⟨(hwk x hx).1, by have := (hwk x hx).2; omega⟩, ?_⟩
          rw [show List.map rowT rs ++ [PyData.tuple (List.map PyData.str ws)] = (rs ++ [ws]).map rowT from by rw [List.map_append]; rfl, ← prodW_snoc]
          refine hk _ ⟨rs ++ [ws], ys3, _, _, _, _, rfl, ⟨by rw [List.length_append]; simp; omega, fun r hr => ?_, by rw [cnt_snoc]; exact hc', ?_⟩, by rw [List.length_append]; simp; omega, hb3.mono (by omega)⟩
          · rcases List.mem_append.mp hr with g | g
            · exact hf.row r g
            · rw [List.mem_singleton] at g
              subst g
              exact ⟨⟨hw1, hw5⟩, hwk⟩
          · rw [prodW_snoc]
            intro x hx
            unfold addRow at hx
            obtain ⟨y, hy, hx⟩ := List.mem_flatMap.mp hx
            obtain ⟨z, hz, rfl⟩ := List.mem_map.mp hx
            refine ⟨(hf.wds y hy).1.app (hwk z hz).1, ?_⟩
            have l1 := hmx _ (List.mem_map_of_mem (f := fun x : Str => (x.length : Int)) hy)
            have l2 := hmy _ (List.mem_map_of_mem (f := fun x : Str => (x.length : Int)) hz)
            rw [len_app]
            omega
        · exact if_n (by simpa using h20) (hk _ ⟨rs, ys3, _, _, _, _, rfl, hf, by omega, hb3.mono (by omega)⟩)
      · exact if_n (by rw [decide_eq_true_iff]; exact hc) (hk _ ⟨rs, ys3, _, _, _, _, rfl, hf, by omega, hb3.mono (by omega)⟩)
    · obtain ⟨rs, ys', o4, o5, o6, o7, rfl, hf, _, hb2⟩ := h
      exact ⟨rs, ys', o4, o5, o6, o7, rfl, hf, hb2.mono (by unfold rngD; rw [List.length_map, List.length_range]; omega)⟩
  · rintro Γ ⟨rs, ys', o4, o5, o6, o7, rfl, hf, hb2⟩
    have hn : Nice 2 (.list (rs.map rowT)) := nice_list fun d hd => by
      obtain ⟨r, hr, rfl⟩ := List.mem_map.mp hd
      exact nice_row (hf.row r hr).2
    simp only [dSeq, dCut, dSet, dkE, dkL, dVar, dVarK, at', startD, dC, dOp, dCmp, dVal, dTest, dNot, dAnd, dOr, dAndV, dOrV, dNotV, dIf, dNil, dCons, dTup, dLst, dFrz, dCall, dMth, isStr, dPart0, dPart, dSl, gSlice, dStep, dRevL, dNext, dNever, dRet, dDrop, dIfS, dPar, dPar3, dAsg, dFor, dWhile, dLc, dLc2, gN, gTupD, gNc, gN0, dYes, dSq, dSeqL, dSeqT, dSeqS, dRng1, dRng2, dRng3, dEnum, dEnumT, dZip, dFn, dFnM, dFnK, own', isOwn, dMut, gApp, gExt, dSto, dIxO, dLenO, dLenS, dIxS', dFnS, scr', isScr, dRetN, dSeqN, dFnN, dFnNS, dIsi, dIsi2, dNeg, gAdd, Dl.gSub, gMul, gDiv, gMod, gPow, gEq, gNe, gLt, gLe, gGt, gGe, gIs, gIsNot, isNone, gIx, gLen, gMax, gMin, gSum, gAll, gAbs, gInt, gTuple, gList, gListS, gStrI, gRepr, gJoin, gSw, gEw, gAscii, gAlpha, gLower, List.set, List.map, List.length_cons, List.length_nil, List.cons_append, List.nil_append, List.replicate, dWipe, Nat.reduceAdd, Nat.reduceSub, dChain, gInTup, dFnMN, dkD, dInD, dNotInD, dGetD, dPutD, dic', isDic, keyQ, keyP, dLRg, dkN2, dBor, nstD, dN0, dFnNK, flatO, flatCl, dSortS, gNeS, gIn, gNotIn, gIndex, isLstD, dMthL, gDivmod, sh_non, sh_bl, sh_int, nd_non, nd_bl, nd_int, nd_str, nd_lst, nd_tup, nds_nil, nds_cons, ev_int, ev_str, ev_bl, isi_str_non, isi_str_bl, isi_str_int, isi_str_str, isi_str_lst, isi_str_tup, isi_int_non, isi_int_bl, isi_int_int, isi_int_str, isi_int_lst, isi_int_tup, isi_bool_non, isi_bool_bl, isi_bool_int, isi_bool_str, isi_bool_lst, isi_bool_tup, isi_list_non, isi_list_bl, isi_list_int, isi_list_str, isi_list_lst, isi_list_tup, isi_tuple_non, isi_tuple_bl, isi_tuple_int, isi_tuple_str, isi_tuple_lst, isi_tuple_tup, Bool.not_true, Bool.not_false, Bool.true_or, Bool.false_or, Bool.or_false, Bool.or_true, Bool.true_and, Bool.false_and, Bool.and_true, Bool.and_false, Bool.false_eq_true, if_true, if_false, true_and, and_true, eq_self_iff_true, beq_self_eq_true, atI_0, atI_1, atI_2, atI_3, atI_4, atI_5, atI_6, atI_7, atI_8, atI_9, atI_10, atI_11, atI_12, atI_13, atI_14, ixN_3_0, ixN_3_1, ixN_3_2, Option.some.injEq, exists_eq_left', Int.reduceToNat, Int.reduceNeg, rowT]
    refine ⟨by decide +kernel, ⟨hn.1, hn.sh (by decide), by decide +kernel⟩, ?_⟩
    cases rs with
    | nil => exact if_n (by decide) ⟨by decide +kernel, by decide +kernel, q [["a"]] _ (by decide) (facs_one hm1) hb2⟩
    | cons r rs => exact if_y (by rfl) (q (r :: rs) _ (by simp) hf hb2)
end
end C12
namespace C12
open PySem PySem.Spec PyProof.Rows L2 TL Bl Dl Pm
-- DLJ DLK
section
variable {P : Program} {w : World} {K : PySem.W.Frag} {mg : Str → Option Value} {base : Heap}
/-- a row of the law: up to sixty words of up to twenty-one letters -/
structure LineOk (ws : List Str) : Prop where
  ne : 1 ≤ ws.length
  len : ws.length ≤ 60
  ok : WdsOk 21 ws
def t_bent : GNM := fun ys ds Q => ∃ (n : Nat) (ws : List Str), BagOk n ys ∧ n ≤ 10 ^ 6 ∧ ds = [rowT ws] ∧ LineOk ws ∧ ∀ vs ys', LineOk vs → BagOk (n + 2) ys' → Q (rowT vs) ys'
theorem d_bent (a : At K mg "_law_bent" s__law_bent ["bag", "line"]) (B : Names mg) (h__law_take : FM P w K mg base "_law_take" 1 2 t_take) : FM P w K mg base "_law_bent" 2 2 t_bent := by
  obtain ⟨f, fd, F, m, b⟩ := a
  refine ⟨f, fd, _, ok_M F sc__law_bent (by decide) (fun cdv A outer s H E hr => (dss_cons (ds_par (i := 2) (j := 3) rfl sc__law_bent.nd rfl rfl (by decide) rfl rfl (dk_e (de_fnM 0 h__law_take (hr.mono (by decide)) (by rfl) (fun _ => pass0) (da_cons de_int da_nil))) (dk_e (de_fnM 0 h__law_take (hr.mono (by decide)) (by rfl) (fun _ => pass0) (da_cons (de_callB cr_lenD (by rfl) B.len (by decide +kernel) (da_cons (de_var 1) da_nil)) da_nil))) (by rfl))
      (dss_cons (ds_if (DW.pt (dw_and (dt_cmp (op_eqDD hr.units) (de_var 2) de_int) (dw_and1 (dt_cmp op_ltD (de_callB cr_lenD (by rfl) B.len (by decide +kernel) (da_cons (de_ix ix_D (de_var 1) (de_var 3)) da_nil)) de_int)))) (dss_one (ds_ret (de_op op_addD (de_op op_addD (de_slice (de_var 1) do_none (do_some (de_var 3))) (de_tup (da_cons (de_op op_addD (de_ix ix_D (de_var 1) (de_var 3)) de_str) da_nil))) (de_slice (de_var 1) (do_some (de_op op_addD (de_var 3) de_int)) do_none)))) dss_nil)
      (dss_cons (ds_if (dt_cmp (op_eqDD hr.units) (de_var 2) de_int) (dss_one (ds_ret (de_op op_addD (de_slice (de_var 1) do_none (do_some (de_var 3))) (de_step (de_slice (de_var 1) (do_some (de_var 3)) do_none) (de_neg de_int))))) dss_nil)
      (dss_cons (ds_if (DW.pt (dw_and (dt_cmp (op_eqDD hr.units) (de_var 2) de_int) (dw_and1 (dt_cmp op_gtD (de_callB cr_lenD (by rfl) B.len (by decide +kernel) (da_cons (de_var 1) da_nil)) de_int)))) (dss_one (ds_ret (de_op op_addD (de_slice (de_var 1) do_none (do_some (de_var 3))) (de_slice (de_var 1) (do_some (de_op op_addD (de_var 3) de_int)) do_none)))) dss_nil)
      (dss_cons (ds_if (dt_cmp (op_eqDD hr.units) (de_var 2) de_int) (dss_one (ds_ret (de_op op_addD (de_op op_addD (de_slice (de_var 1) do_none (do_some (de_var 3))) (de_tup (da_cons (de_ix ix_D (de_var 1) de_int) da_nil))) (de_slice (de_var 1) (do_some (de_op op_addD (de_var 3) de_int)) do_none)))) dss_nil)
      (dss_one (ds_ret (de_var 1))))))))
      ) (fun p ys ds Q0 hl h => ?_), m, F.kp, b⟩
  obtain ⟨n, ws, hb, hn, rfl, hw, q⟩ := h
  simp only [dSeq, dCut, dSet, dkE, dkL, dVar, dVarK, at', startD, dC, dOp, dCmp, dVal, dTest, dNot, dAnd, dOr, dAndV, dOrV, dNotV, dIf, dNil, dCons, dTup, dLst, dFrz, dCall, dMth, isStr, dPart0, dPart, dSl, gSlice, dStep, dRevL, dNext, dNever, dRet, dDrop, dIfS, dPar, dPar3, dAsg, dFor, dWhile, dLc, dLc2, gN, gTupD, gNc, gN0, dYes, dSq, dSeqL, dSeqT, dSeqS, dRng1, dRng2, dRng3, dEnum, dEnumT, dZip, dFn, dFnM, dFnK, own', isOwn, dMut, gApp, gExt, dSto, dIxO, dLenO, dLenS, dIxS', dFnS, scr', isScr, dRetN, dSeqN, dFnN, dFnNS, dIsi, dIsi2, dNeg, gAdd, Dl.gSub, gMul, gDiv, gMod, gPow, gEq, gNe, gLt, gLe, gGt, gGe, gIs, gIsNot, isNone, gIx, gLen, gMax, gMin, gSum, gAll, gAbs, gInt, gTuple, gList, gListS, gStrI, gRepr, gJoin, gSw, gEw, gAscii, gAlpha, gLower, List.set, List.map, List.length_cons, List.length_nil, List.cons_append, List.nil_append, List.replicate, dWipe, Nat.reduceAdd, Nat.reduceSub, dChain, gInTup, dFnMN, dkD, dInD, dNotInD, dGetD, dPutD, dic', isDic, keyQ, keyP, dLRg, dkN2, dBor, nstD, dN0, dFnNK, flatO, flatCl, dSortS, gNeS, gIn, gNotIn, gIndex, isLstD, dMthL, gDivmod, sh_non, sh_bl, sh_int, nd_non, nd_bl, nd_int, nd_str, nd_lst, nd_tup, nds_nil, nds_cons, ev_int, ev_str, ev_bl, isi_str_non, isi_str_bl, isi_str_int, isi_str_str, isi_str_lst, isi_str_tup, isi_int_non, isi_int_bl, isi_int_int, isi_int_str, isi_int_lst, isi_int_tup, isi_bool_non, isi_bool_bl, isi_bool_int, isi_bool_str, isi_bool_lst, isi_bool_tup, isi_list_non, isi_list_bl, isi_list_int, isi_list_str, isi_list_lst, isi_list_tup, isi_tuple_non, isi_tuple_bl, isi_tuple_int, isi_tuple_str, isi_tuple_lst, isi_tuple_tup, Bool.not_true, Bool.not_false, Bool.true_or, Bool.false_or, Bool.or_false, Bool.or_true, Bool.true_and, Bool.false_and, Bool.and_true, Bool.and_false, Bool.false_eq_true, if_true, if_false, true_and, and_true, eq_self_iff_true, beq_self_eq_true, atI_0, atI_1, atI_2, atI_3, atI_4, atI_5, atI_6, atI_7, atI_8, atI_9, atI_10, atI_11, atI_12, atI_13, atI_14, ixN_3_0, ixN_3_1, ixN_3_2, Option.some.injEq, exists_eq_left', Int.reduceToNat, Int.reduceNeg, rowT]
  refine ⟨n, 5, hb, by omega, rfl, by decide, by decide +kernel, fun v ys1 hv hb1 => ?_⟩
  simp only [dSeq, dCut, dSet, dkE, dkL, dVar, dVarK, at', startD, dC, dOp, dCmp, dVal, dTest, dNot, dAnd, dOr, dAndV, dOrV, dNotV, dIf, dNil, dCons, dTup, dLst, dFrz, dCall, dMth, isStr, dPart0, dPart, dSl, gSlice, dStep, dRevL, dNext, dNever, dRet, dDrop, dIfS, dPar, dPar3, dAsg, dFor, dWhile, dLc, dLc2, gN, gTupD, gNc, gN0, dYes, dSq, dSeqL, dSeqT, dSeqS, dRng1, dRng2, dRng3, dEnum, dEnumT, dZip, dFn, dFnM, dFnK, own', isOwn, dMut, gApp, gExt, dSto, dIxO, dLenO, dLenS, dIxS', dFnS, scr', isScr, dRetN, dSeqN, dFnN, dFnNS, dIsi, dIsi2, dNeg, gAdd, Dl.gSub, gMul, gDiv, gMod, gPow, gEq, gNe, gLt, gLe, gGt, gGe, gIs, gIsNot, isNone, gIx, gLen, gMax, gMin, gSum, gAll, gAbs, gInt, gTuple, gList, gListS, gStrI, gRepr, gJoin, gSw, gEw, gAscii, gAlpha, gLower, List.set, List.map, List.length_cons, List.length_nil, List.cons_append, List.nil_append, List.replicate, dWipe, Nat.reduceAdd, Nat.reduceSub, dChain, gInTup, dFnMN, dkD, dInD, dNotInD, dGetD, dPutD, dic', isDic, keyQ, keyP, dLRg, dkN2, dBor, nstD, dN0, dFnNK, flatO, flatCl, dSortS, gNeS, gIn, gNotIn, gIndex, isLstD, dMthL, gDivmod, sh_non, sh_bl, sh_int, nd_non, nd_bl, nd_int, nd_str, nd_lst, nd_tup, nds_nil, nds_cons, ev_int, ev_str, ev_bl, isi_str_non, isi_str_bl, isi_str_int, isi_str_str, isi_str_lst, isi_str_tup, isi_int_non, isi_int_bl, isi_int_int, isi_int_str, isi_int_lst, isi_int_tup, isi_bool_non, isi_bool_bl, isi_bool_int, isi_bool_str, isi_bool_lst, isi_bool_tup, isi_list_non, isi_list_bl, isi_list_int, isi_list_str, isi_list_lst, isi_list_tup, isi_tuple_non, isi_tuple_bl, isi_tuple_int, isi_tuple_str, isi_tuple_lst, isi_tuple_tup, Bool.not_true, Bool.not_false, Bool.true_or, Bool.false_or, Bool.or_false, Bool.or_true, Bool.true_and, Bool.false_and, Bool.and_true, Bool.and_false, Bool.false_eq_true, if_true, if_false, true_and, and_true, eq_self_iff_true, beq_self_eq_true, atI_0, atI_1, atI_2, atI_3, atI_4, atI_5, atI_6, atI_7, atI_8, atI_9, atI_10, atI_11, atI_12, atI_13, atI_14, ixN_3_0, ixN_3_1, ixN_3_2, Option.some.injEq, exists_eq_left', Int.reduceToNat, Int.reduceNeg, rowT]
  have := hw.ne
  have hl60 := hw.len
  refine ⟨n + 1, ws.length, hb1, by omega, by rw [List.length_map], by omega, Nat.lt_of_le_of_lt hl60 (by decide +kernel), fun k ys2 hk hb2 => ?_⟩
  simp only [dSeq, dCut, dSet, dkE, dkL, dVar, dVarK, at', startD, dC, dOp, dCmp, dVal, dTest, dNot, dAnd, dOr, dAndV, dOrV, dNotV, dIf, dNil, dCons, dTup, dLst, dFrz, dCall, dMth, isStr, dPart0, dPart, dSl, gSlice, dStep, dRevL, dNext, dNever, dRet, dDrop, dIfS, dPar, dPar3, dAsg, dFor, dWhile, dLc, dLc2, gN, gTupD, gNc, gN0, dYes, dSq, dSeqL, dSeqT, dSeqS, dRng1, dRng2, dRng3, dEnum, dEnumT, dZip, dFn, dFnM, dFnK, own', isOwn, dMut, gApp, gExt, dSto, dIxO, dLenO, dLenS, dIxS', dFnS, scr', isScr, dRetN, dSeqN, dFnN, dFnNS, dIsi, dIsi2, dNeg, gAdd, Dl.gSub, gMul, gDiv, gMod, gPow, gEq, gNe, gLt, gLe, gGt, gGe, gIs, gIsNot, isNone, gIx, gLen, gMax, gMin, gSum, gAll, gAbs, gInt, gTuple, gList, gListS, gStrI, gRepr, gJoin, gSw, gEw, gAscii, gAlpha, gLower, List.set, List.map, List.length_cons, List.length_nil, List.cons_append, List.nil_append, List.replicate, dWipe, Nat.reduceAdd, Nat.reduceSub, dChain, gInTup, dFnMN, dkD, dInD, dNotInD, dGetD, dPutD, dic', isDic, keyQ, keyP, dLRg, dkN2, dBor, nstD, dN0, dFnNK, flatO, flatCl, dSortS, gNeS, gIn, gNotIn, gIndex, isLstD, dMthL, gDivmod, sh_non, sh_bl, sh_int, nd_non, nd_bl, nd_int, nd_str, nd_lst, nd_tup, nds_nil, nds_cons, ev_int, ev_str, ev_bl, isi_str_non, isi_str_bl, isi_str_int, isi_str_str, isi_str_lst, isi_str_tup, isi_int_non, isi_int_bl, isi_int_int, isi_int_str, isi_int_lst, isi_int_tup, isi_bool_non, isi_bool_bl, isi_bool_int, isi_bool_str, isi_bool_lst, isi_bool_tup, isi_list_non, isi_list_bl, isi_list_int, isi_list_str, isi_list_lst, isi_list_tup, isi_tuple_non, isi_tuple_bl, isi_tuple_int, isi_tuple_str, isi_tuple_lst, isi_tuple_tup, Bool.not_true, Bool.not_false, Bool.true_or, Bool.false_or, Bool.or_false, Bool.or_true, Bool.true_and, Bool.false_and, Bool.and_true, Bool.and_false, Bool.false_eq_true, if_true, if_false, true_and, and_true, eq_self_iff_true, beq_self_eq_true, atI_0, atI_1, atI_2, atI_3, atI_4, atI_5, atI_6, atI_7, atI_8, atI_9, atI_10, atI_11, atI_12, atI_13, atI_14, ixN_3_0, ixN_3_1, ixN_3_2, Option.some.injEq, exists_eq_left', Int.reduceToNat, Int.reduceNeg, rowT]
  obtain ⟨x, hx⟩ : ∃ x, ws[k]? = some x := ⟨_, List.getElem?_eq_getElem hk⟩
  obtain ⟨x0, hx0⟩ : ∃ x, ws[0]? = some x := ⟨_, List.getElem?_eq_getElem (by omega)⟩
  have h1 : atI (ws.map PyData.str) (k : Int) = some (.str x) := atI_map _ (atI_nat hx)
  have h0 : atI (ws.map PyData.str) 0 = some (.str x0) := atI_map _ (atI_nat hx0)
  have okx := hw.ok x (List.mem_of_getElem? hx)
  have okx0 := hw.ok x0 (List.mem_of_getElem? hx0)
  simp only [h1, h0, cutD_to, cutD_from, cutD_from1, ← List.map_take, ← List.map_drop, dSeq, dCut, dSet, dkE, dkL, dVar, dVarK, at', startD, dC, dOp, dCmp, dVal, dTest, dNot, dAnd, dOr, dAndV, dOrV, dNotV, dIf, dNil, dCons, dTup, dLst, dFrz, dCall, dMth, isStr, dPart0, dPart, dSl, gSlice, dStep, dRevL, dNext, dNever, dRet, dDrop, dIfS, dPar, dPar3, dAsg, dFor, dWhile, dLc, dLc2, gN, gTupD, gNc, gN0, dYes, dSq, dSeqL, dSeqT, dSeqS, dRng1, dRng2, dRng3, dEnum, dEnumT, dZip, dFn, dFnM, dFnK, own', isOwn, dMut, gApp, gExt, dSto, dIxO, dLenO, dLenS, dIxS', dFnS, scr', isScr, dRetN, dSeqN, dFnN, dFnNS, dIsi, dIsi2, dNeg, gAdd, Dl.gSub, gMul, gDiv, gMod, gPow, gEq, gNe, gLt, gLe, gGt, gGe, gIs, gIsNot, isNone, gIx, gLen, gMax, gMin, gSum, gAll, gAbs, gInt, gTuple, gList, gListS, gStrI, gRepr, gJoin, gSw, gEw, gAscii, gAlpha, gLower, List.set, List.map, List.length_cons, List.length_nil, List.cons_append, List.nil_append, List.replicate, dWipe, Nat.reduceAdd, Nat.reduceSub, dChain, gInTup, dFnMN, dkD, dInD, dNotInD, dGetD, dPutD, dic', isDic, keyQ, keyP, dLRg, dkN2, dBor, nstD, dN0, dFnNK, flatO, flatCl, dSortS, gNeS, gIn, gNotIn, gIndex, isLstD, dMthL, gDivmod, sh_non, sh_bl, sh_int, nd_non, nd_bl, nd_int, nd_str, nd_lst, nd_tup, nds_nil, nds_cons, ev_int, ev_str, ev_bl, isi_str_non, isi_str_bl, isi_str_int, isi_str_str, isi_str_lst, isi_str_tup, isi_int_non, isi_int_bl, isi_int_int, isi_int_str, isi_int_lst, isi_int_tup, isi_bool_non, isi_bool_bl, isi_bool_int, isi_bool_str, isi_bool_lst, isi_bool_tup, isi_list_non, isi_list_bl, isi_list_int, isi_list_str, isi_list_lst, isi_list_tup, isi_tuple_non, isi_tuple_bl, isi_tuple_int, isi_tuple_str, isi_tuple_lst, isi_tuple_tup, Bool.not_true, Bool.not_false, Bool.true_or, Bool.false_or, Bool.or_false, Bool.or_true, Bool.true_and, Bool.false_and, Bool.and_true, Bool.and_false, Bool.false_eq_true, if_true, if_false, true_and, and_true, eq_self_iff_true, beq_self_eq_true, atI_0, atI_1, atI_2, atI_3, atI_4, atI_5, atI_6, atI_7, atI_8, atI_9, atI_10, atI_11, atI_12, atI_13, atI_14, ixN_3_0, ixN_3_1, ixN_3_2, Option.some.injEq, exists_eq_left', Int.reduceToNat, Int.reduceNeg, rowT]
  have hb3 : BagOk (n + 2) ys2 := hb2
  have fin : ∀ (vs : List Str) (d : List PyData), LineOk vs → d = vs.map PyData.str → Q0 (.tuple d) ys2 := fun vs d hv e => by subst e; exact q vs ys2 hv hb3
  have tk : ∀ j, (ws.take j).length ≤ 60 := fun j => by rw [List.length_take]; omega
  have dk : ∀ j, (ws.drop j).length ≤ 60 := fun j => by rw [List.length_drop]; omega
  have mid : ∀ z, (Lets z ∧ z.length ≤ 21) → LineOk (ws.take k ++ [z] ++ ws.drop (k + 1)) := fun z hz => ⟨by simp; omega, by simp; omega, fun y hy => by
    rcases List.mem_append.mp hy with hy | hy
    · rcases List.mem_append.mp hy with hy | hy
      · exact hw.ok y (List.mem_of_mem_take hy)
      · rw [List.mem_singleton] at hy
        subst hy
        exact hz
    · exact hw.ok y (List.mem_of_mem_drop hy)⟩
  have s1 : (1 : Nat) ≤ sizeLine := sl_le (by decide)
  have s2 : (List.map PyData.str (List.take k ws)).length + 1 ≤ sizeLine := sl_le (by rw [List.length_map]; have := tk k; omega)
  have s3 : ∀ z : PyData, (List.map PyData.str (List.take k ws) ++ [z]).length + (List.map PyData.str (List.drop (k + 1) ws)).length ≤ sizeLine := fun z => sl_le (by
    rw [List.length_append, List.length_map, List.length_map]
    have := tk k
    have := dk (k + 1)
    simp only [List.length_cons, List.length_nil]
    omega)
  have fmid : ∀ z, (Lets z ∧ z.length ≤ 21) → Q0 (.tuple (List.map PyData.str (List.take k ws) ++ [PyData.str z] ++ List.map PyData.str (List.drop (k + 1) ws))) ys2 := fun z hz => fin _ _ (mid z hz) (by simp only [List.map_append, List.map_cons, List.map_nil])
  have fall : Q0 (PyData.tuple (List.map PyData.str ws)) ys2 := q ws ys2 hw hb3
  rcases (by omega : v = 0 ∨ v = 1 ∨ v = 2 ∨ v = 3 ∨ v = 4) with rfl | rfl | rfl | rfl | rfl
  · refine if_y (by decide) ⟨sl_le (by omega), ?_⟩
    have la : ("a" : Str).length = 1 := by decide +kernel
    by_cases h20 : x.length < 20
    · refine if_y (by simp; omega) ⟨sl_le (by omega), s1, s2, s3 _, fmid _ ⟨okx.1.app (by unfold Lets; decide +kernel), ?_⟩⟩
      rw [len_app]
      omega
    · exact if_n (by simp; omega) (if_n (by decide) (if_n (by decide) (if_n (by decide) fall)))
  · refine if_n (by decide) (if_y (by decide) ?_)
    rw [stpL_rev]
    refine ⟨by decide, sl_le ?_, fin (ws.take k ++ (ws.drop k).reverse) _ ⟨?_, ?_, fun y hy => ?_⟩ ?_⟩
    · rw [List.length_reverse, List.length_map, List.length_map]
      have := tk k
      have := dk k
      omega
    · simp; omega
    · simp; omega
    · rcases List.mem_append.mp hy with hy | hy
      · exact hw.ok y (List.mem_of_mem_take hy)
      · exact hw.ok y (List.mem_of_mem_drop (List.mem_reverse.mp hy))
    · rw [List.map_append, List.map_reverse]
  · refine if_n (by decide) (if_n (by decide) (if_y (by decide) ?_))
    by_cases h1 : 1 < ws.length
    · refine if_y (by simp; omega) ⟨sl_le ?_, fin (ws.take k ++ ws.drop (k + 1)) _ ⟨?_, ?_, fun y hy => ?_⟩ ?_⟩
      · rw [List.length_map, List.length_map]
        have := tk k
        have := dk (k + 1)
        omega
      · simp; omega
      · simp; omega
      · rcases List.mem_append.mp hy with hy | hy
        · exact hw.ok y (List.mem_of_mem_take hy)
        · exact hw.ok y (List.mem_of_mem_drop hy)
      · rw [List.map_append]
    · exact if_n (by simp; omega) (if_n (by decide) fall)
  · exact if_n (by decide) (if_n (by decide) (if_n (by decide) (if_y (by decide) ⟨s1, s2, s3 _, fmid _ okx0⟩)))
  · exact if_n (by decide) (if_n (by decide) (if_n (by decide) (if_n (by decide) fall)))
end
end C12
namespace C12
open PySem PySem.Spec PyProof.Rows L2 TL Bl Dl Pm
-- DLJ DLK
section
variable {P : Program} {w : World} {K : PySem.W.Frag} {mg : Str → Option Value} {base : Heap}
/-- rows of the law of any length up to 2000 -/
structure BigOk (ws : List Str) : Prop where
  ne : 1 ≤ ws.length
  len : ws.length ≤ 2000
  ok : WdsOk 400 ws
theorem LineOk.big {ws : List Str} (h : LineOk ws) : BigOk ws := ⟨h.ne, Nat.le_trans h.len (by decide), fun x hx => ⟨(h.ok x hx).1, Nat.le_trans (h.ok x hx).2 (by decide)⟩⟩
theorem enumD_strs (vs : List Str) : enumD (vs.map PyData.str) = vs.zipIdx.map fun q => .tuple [.int (q.2 : Int), .str q.1] := by
  unfold enumD
  rw [List.zipIdx_map, List.map_map]
  rfl
theorem rngC_at {n i : Nat} {c : Int} {d : PyData} (h : (rngC 0 c n)[i]? = some d) : i < n ∧ d = .int (0 + (i : Int) * c) := by
  unfold rngC at h
  rw [List.getElem?_map] at h
  obtain ⟨j, hj, rfl⟩ := Option.map_eq_some_iff.mp h
  have := (List.getElem?_eq_some_iff.mp hj).1
  rw [List.length_range] at this
  rw [List.getElem?_range this] at hj
  cases hj
  exact ⟨this, rfl⟩
theorem rng1_at {n i : Nat} {c : Int} {d : PyData} (h : (rngD c n)[i]? = some d) : i < n ∧ d = .int (c + (i : Int)) := by
  unfold rngD at h
  rw [List.getElem?_map] at h
  obtain ⟨j, hj, rfl⟩ := Option.map_eq_some_iff.mp h
  have := (List.getElem?_eq_some_iff.mp hj).1
  rw [List.length_range] at this
  rw [List.getElem?_range this] at hj
  cases hj
  exact ⟨this, rfl⟩
theorem ones_nice {α : Type} (zs : List α) : Nice 1 (.list (zs.map fun _ => PyData.int 1)) := nice_list fun d hd => by
  obtain ⟨_, _, rfl⟩ := List.mem_map.mp hd
  exact nice_int 1
theorem ones_ne {α : Type} {zs : List α} (h : zs ≠ []) : (!PyData.eqv (.list (zs.map fun _ => PyData.int 1)) (.list [])) = true := by
  cases zs with
  | nil => exact absurd rfl h
  | cons z r => rfl
theorem ones_eq {α : Type} {zs : List α} (h : zs ≠ []) : PyData.eqv (.list (zs.map fun _ => PyData.int 1)) (.list []) = false := by
  cases zs with
  | nil => exact absurd rfl h
  | cons z r => rfl
theorem nil_sh : SeqAt.shaped (.list []) = true := by decide +kernel
theorem off_ok {x : Str} {b n : Nat} (h : Lets x ∧ x.length ≤ b) : Lets (offS x n) ∧ (offS x n).length ≤ b := ⟨lets_cut h.1 _ _, Nat.le_trans (cut_len x _ _) h.2⟩
theorem drop_ok {x : Str} {b n : Nat} (h : Lets x ∧ x.length ≤ b) : Lets (dropS x n) ∧ (dropS x n).length ≤ b := ⟨lets_drop h.1 _, Nat.le_trans (Bl.len_drop x n) h.2⟩
theorem rgc {m c : Nat} (hm : 1 ≤ m) (hm2 : m ≤ 4000) (hc : c ≤ 4000) : RgC 0 ((c * m : Nat) : Int) (m : Int) c := by
  have hb : c * m ≤ 16000000 := Nat.le_trans (Nat.mul_le_mul hc hm2) (by decide)
  refine ⟨by omega, by omega, ?_, ?_⟩
  · unfold Builtin.Range.small
    simp only [Builtin.Range.rangeFitsLong, Bool.and_eq_true, Bool.or_eq_true, decide_eq_true_eq, beq_iff_eq]
    have e0 : Builtin.Range.rangeSize 0 ((c * m : Nat) : Int) (m : Int) = (c : Int) := by
      rw [rangeSize_pos (by omega) (by omega)]
      have e : (((c * m : Nat) : Int) + (m : Int) - 1) = ((m : Int) - 1) + (c : Int) * (m : Int) := by rw [Int.natCast_mul]; omega
      rw [e, Int.add_mul_ediv_right _ _ (by omega), Int.ediv_eq_zero_of_lt (by omega) (by omega), Int.zero_add]
    have em : ((m : Int) > 0) := by omega
    generalize c * m = n at e0 hb ⊢
    rw [e0]
    refine ⟨⟨⟨⟨by decide, ?_⟩, ?_⟩, ?_⟩, .inr ?_⟩
    · omega
    · omega
    · omega
    · rw [if_pos em]
      simp only [decide_eq_true_eq, Bool.and_eq_true]
      omega
  · rw [rangeSize_pos (by omega) (by omega)]
    have e : (((c * m : Nat) : Int) + (m : Int) - 1) = ((m : Int) - 1) + (c : Int) * (m : Int) := by rw [Int.natCast_mul]; omega
    rw [e, Int.add_mul_ediv_right _ _ (by omega), Int.ediv_eq_zero_of_lt (by omega) (by omega), Int.zero_add]
def t_outer : GN := fun ds Q => ∃ ws vs, ds = [rowT ws, rowT vs] ∧ LineOk ws ∧ LineOk vs ∧ ws.length % vs.length = 0 ∧ Q (optT (rquo ws vs))
theorem d_outer (a : At K mg "_law_outer" s__law_outer ["line", "inner"]) (B : Names mg) : FD P w K mg base "_law_outer" 1 2 t_outer := by
  obtain ⟨f, fd, F, m, b⟩ := a
  refine ⟨f, fd, _, ok_D F sc__law_outer (by decide) (fun cdv A outer s H E hr => (dss_cons (ds_set (i := 2) sc__law_outer.nd rfl (Or.inl rfl) (dk_l (dl_lst da_nil)))
      (dss_cut (ds_for PassesOwn.never rfl (di_range3 (by rfl) B.range (da_cons de_int (da_cons (de_callB cr_lenD (by rfl) B.len (by decide +kernel) (da_cons (de_var 0) da_nil)) (da_cons (de_callB cr_lenD (by rfl) B.len (by decide +kernel) (da_cons (de_var 1) da_nil)) da_nil)))) (dg_name (i := 3) sc__law_outer.nd rfl (Or.inr rfl)) (dss_cons (ds_if (dt_not (dt_val (de_mth PySem.F.slot_str_endswith PySem.F.type_str_endswith mt_ewD (de_ix ix_D (de_var 0) (de_var 3)) (da_cons (de_ix ix_D (de_var 1) de_int) da_nil)))) (dss_one (ds_ret de_non)) dss_nil)
      (dss_cons (ds_set (i := 4) sc__law_outer.nd rfl (Or.inr rfl) (dk_e (de_slice (de_ix ix_D (de_var 0) (de_var 3)) do_none (do_some (de_op op_subD (de_callB cr_lenD (by rfl) B.len (by decide +kernel) (da_cons (de_ix ix_D (de_var 0) (de_var 3)) da_nil)) (de_callB cr_lenD (by rfl) B.len (by decide +kernel) (da_cons (de_ix ix_D (de_var 1) de_int) da_nil)))))))
      (dss_cons (ds_if (dt_cmp (op_neDD hr.units) (de_frz (dl_lc (own := [("turn", 5), ("end", 6)]) rfl sc__law_outer.nd (di_enumT (by rfl) B.enumerate (da_cons (de_var 1) da_nil)) (blkOk_by (N := ["line", "inner", "found", "at", "outer", "turn", "end"]) (sc := defScope s__law_outer) (by decide +kernel)) (fun _ _ _ _ _ => (dg_tup (n := 2) rfl (dgs_cons (dg_name (i := 5) sc__law_outer.nd rfl (Or.inl rfl)) (dgs_cons (dg_name (i := 6) sc__law_outer.nd rfl (Or.inl rfl)) dgs_nil)))) (fun _ _ _ _ _ => (dq_one (dt_cmp (op_neDD hr.units) (de_ix ix_D (de_var 0) (de_op op_addD (de_var 3) (de_var 5))) (de_op op_addD (de_var 4) (de_var 6))))) (fun _ _ _ _ _ => de_int))) (de_frz (dl_lst da_nil))) (dss_one (ds_ret de_non)) dss_nil)
      (dss_one (ds_mut 2 PySem.F.slot_list_append PySem.F.type_list_append mt_appD (da_cons (de_var 4) da_nil)))))))
      (dss_one (ds_ret (de_callTy cr_tupleD (by rfl) B.tuple (by decide +kernel) (da_cons (de_var 2) da_nil))))))
      ) (fun ds Q0 hl h => ?_), m, F.kp, b⟩
  obtain ⟨ws, vs, rfl, hw, hv, hmod, q⟩ := h
  simp only [dSeq, dCut, dSet, dkE, dkL, dVar, dVarK, at', startD, dC, dOp, dCmp, dVal, dTest, dNot, dAnd, dOr, dAndV, dOrV, dNotV, dIf, dNil, dCons, dTup, dLst, dFrz, dCall, dMth, isStr, dPart0, dPart, dSl, gSlice, dStep, dRevL, dNext, dNever, dRet, dDrop, dIfS, dPar, dPar3, dAsg, dFor, dWhile, dLc, dLc2, gN, gTupD, gNc, gN0, dYes, dSq, dSeqL, dSeqT, dSeqS, dRng1, dRng2, dRng3, dEnum, dEnumT, dZip, dFn, dFnM, dFnK, own', isOwn, dMut, gApp, gExt, dSto, dIxO, dLenO, dLenS, dIxS', dFnS, scr', isScr, dRetN, dSeqN, dFnN, dFnNS, dIsi, dIsi2, dNeg, gAdd, Dl.gSub, gMul, gDiv, gMod, gPow, gEq, gNe, gLt, gLe, gGt, gGe, gIs, gIsNot, isNone, gIx, gLen, gMax, gMin, gSum, gAll, gAbs, gInt, gTuple, gList, gListS, gStrI, gRepr, gJoin, gSw, gEw, gAscii, gAlpha, gLower, List.set, List.map, List.length_cons, List.length_nil, List.cons_append, List.nil_append, List.replicate, dWipe, Nat.reduceAdd, Nat.reduceSub, dChain, gInTup, dFnMN, dkD, dInD, dNotInD, dGetD, dPutD, dic', isDic, keyQ, keyP, dLRg, dkN2, dBor, nstD, dN0, dFnNK, flatO, flatCl, dSortS, gNeS, gIn, gNotIn, gIndex, isLstD, dMthL, gDivmod, sh_non, sh_bl, sh_int, nd_non, nd_bl, nd_int, nd_str, nd_lst, nd_tup, nds_nil, nds_cons, ev_int, ev_str, ev_bl, isi_str_non, isi_str_bl, isi_str_int, isi_str_str, isi_str_lst, isi_str_tup, isi_int_non, isi_int_bl, isi_int_int, isi_int_str, isi_int_lst, isi_int_tup, isi_bool_non, isi_bool_bl, isi_bool_int, isi_bool_str, isi_bool_lst, isi_bool_tup, isi_list_non, isi_list_bl, isi_list_int, isi_list_str, isi_list_lst, isi_list_tup, isi_tuple_non, isi_tuple_bl, isi_tuple_int, isi_tuple_str, isi_tuple_lst, isi_tuple_tup, Bool.not_true, Bool.not_false, Bool.true_or, Bool.false_or, Bool.or_false, Bool.or_true, Bool.true_and, Bool.false_and, Bool.and_true, Bool.and_false, Bool.false_eq_true, if_true, if_false, true_and, and_true, eq_self_iff_true, beq_self_eq_true, atI_0, atI_1, atI_2, atI_3, atI_4, atI_5, atI_6, atI_7, atI_8, atI_9, atI_10, atI_11, atI_12, atI_13, atI_14, ixN_3_0, ixN_3_1, ixN_3_2, Option.some.injEq, exists_eq_left', Int.reduceToNat, Int.reduceNeg, rowT]
  have hv1 := hv.ne
  have hv60 := hv.len
  have hw60 := hw.len
  obtain ⟨v0, hv0⟩ := ex0 hv1
  have h0 : atI (vs.map PyData.str) 0 = some (.str v0) := atI_map _ (atI_nat hv0)
  have okv0 := hv.ok v0 (List.mem_of_getElem? hv0)
  obtain ⟨c, hc⟩ : ∃ c, ws.length = c * vs.length := ⟨ws.length / vs.length, (Nat.div_mul_cancel (Nat.dvd_of_mod_eq_zero hmod)).symm⟩
  refine ⟨by decide +kernel, fun p => ⟨fun Γ => ∃ o3 o4, Γ = [some (.d (rowT ws)), some (.d (rowT vs)), some (.own p ((rquo0 ws vs).map .str)), o3, o4, none, none] ∧ rquo ws vs = some (rquo0 ws vs), ⟨c, ?_, ?_⟩, ?_⟩⟩
  · rw [List.length_map, List.length_map, hc]
    refine rgc hv1 (by omega) ?_
    have : c * 1 ≤ c * vs.length := Nat.mul_le_mul_left c hv1
    omega
  · refine for_ind (fun i Γ => ∃ o3 o4, Γ = [some (.d (rowT ws)), some (.d (rowT vs)), some (.own p (((rquo0 ws vs).take i).map .str)), o3, o4, none, none] ∧ ∀ k, k < i → ∀ x, (rquo0 ws vs)[k]? = some x → ∀ t y, vs[t]? = some y → ws[k * vs.length + t]? = some (x ++ y)) ⟨none, none, by rw [List.take_zero]; rfl, fun k hk => absurd hk (Nat.not_lt_zero k)⟩ ?_ fun Γ h => ?_
    · rintro i d Γ hi ⟨o3, o4, rfl, hbl⟩ K hk
      obtain ⟨hic, rfl⟩ := rngC_at hi
      have he : 0 + (i : Int) * ((vs.map PyData.str).length : Int) = ((i * vs.length : Nat) : Int) := by rw [List.length_map, Int.zero_add, Int.natCast_mul]
      rw [he]
      have him : i * vs.length < ws.length := by rw [hc]; exact (Nat.mul_lt_mul_right (by omega)).mpr hic
      obtain ⟨x, hx⟩ : ∃ x, ws[i * vs.length]? = some x := ⟨_, List.getElem?_eq_getElem him⟩
      have h1 : atI (ws.map PyData.str) ((i * vs.length : Nat) : Int) = some (.str x) := atI_map _ (atI_nat hx)
      have okx := hw.ok x (List.mem_of_getElem? hx)
      simp only [h0, h1, dSeq, dCut, dSet, dkE, dkL, dVar, dVarK, at', startD, dC, dOp, dCmp, dVal, dTest, dNot, dAnd, dOr, dAndV, dOrV, dNotV, dIf, dNil, dCons, dTup, dLst, dFrz, dCall, dMth, isStr, dPart0, dPart, dSl, gSlice, dStep, dRevL, dNext, dNever, dRet, dDrop, dIfS, dPar, dPar3, dAsg, dFor, dWhile, dLc, dLc2, gN, gTupD, gNc, gN0, dYes, dSq, dSeqL, dSeqT, dSeqS, dRng1, dRng2, dRng3, dEnum, dEnumT, dZip, dFn, dFnM, dFnK, own', isOwn, dMut, gApp, gExt, dSto, dIxO, dLenO, dLenS, dIxS', dFnS, scr', isScr, dRetN, dSeqN, dFnN, dFnNS, dIsi, dIsi2, dNeg, gAdd, Dl.gSub, gMul, gDiv, gMod, gPow, gEq, gNe, gLt, gLe, gGt, gGe, gIs, gIsNot, isNone, gIx, gLen, gMax, gMin, gSum, gAll, gAbs, gInt, gTuple, gList, gListS, gStrI, gRepr, gJoin, gSw, gEw, gAscii, gAlpha, gLower, List.set, List.map, List.length_cons, List.length_nil, List.cons_append, List.nil_append, List.replicate, dWipe, Nat.reduceAdd, Nat.reduceSub, dChain, gInTup, dFnMN, dkD, dInD, dNotInD, dGetD, dPutD, dic', isDic, keyQ, keyP, dLRg, dkN2, dBor, nstD, dN0, dFnNK, flatO, flatCl, dSortS, gNeS, gIn, gNotIn, gIndex, isLstD, dMthL, gDivmod, sh_non, sh_bl, sh_int, nd_non, nd_bl, nd_int, nd_str, nd_lst, nd_tup, nds_nil, nds_cons, ev_int, ev_str, ev_bl, isi_str_non, isi_str_bl, isi_str_int, isi_str_str, isi_str_lst, isi_str_tup, isi_int_non, isi_int_bl, isi_int_int, isi_int_str, isi_int_lst, isi_int_tup, isi_bool_non, isi_bool_bl, isi_bool_int, isi_bool_str, isi_bool_lst, isi_bool_tup, isi_list_non, isi_list_bl, isi_list_int, isi_list_str, isi_list_lst, isi_list_tup, isi_tuple_non, isi_tuple_bl, isi_tuple_int, isi_tuple_str, isi_tuple_lst, isi_tuple_tup, Bool.not_true, Bool.not_false, Bool.true_or, Bool.false_or, Bool.or_false, Bool.or_true, Bool.true_and, Bool.false_and, Bool.and_true, Bool.and_false, Bool.false_eq_true, if_true, if_false, true_and, and_true, eq_self_iff_true, beq_self_eq_true, atI_0, atI_1, atI_2, atI_3, atI_4, atI_5, atI_6, atI_7, atI_8, atI_9, atI_10, atI_11, atI_12, atI_13, atI_14, ixN_3_0, ixN_3_1, ixN_3_2, Option.some.injEq, exists_eq_left', Int.reduceToNat, Int.reduceNeg, rowT]
      have hq : (rquo0 ws vs)[i]? = some (offS x v0.length) := by rw [rquo0_get hv1, hx, getD0 hv0]; rfl
      -- a failure shows that there is no quotient
      have bad : ¬ (∀ t y, vs[t]? = some y → ws[i * vs.length + t]? = some (offS x v0.length ++ y)) → Q0 .none := fun hn => by
        have : rquo ws vs = none := rquo_none hv1 fun q e => hn fun t y hy => by
          have z : rquo0 ws vs = q := by rw [← e]; exact rquo0_app hv1
          rw [z] at hq
          have := addRow_get hq hy
          rw [e] at this
          exact this
        rw [this] at q
        exact q
      have i100 : i < sizeLine := by
        have : i * 1 ≤ i * vs.length := Nat.mul_le_mul_left i hv1
        exact Nat.lt_of_lt_of_le (by omega : i < 100) (sl_le (by decide))
      by_cases hen : Txt.endswith x v0 = true
      · refine if_n (by rw [hen]; decide) ⟨sl_le (by omega), sl_le (by omega), sl_le (by omega), ?_⟩
        rw [enumD_strs]
        refine lc_filter (fun q : Str × Nat => PyData.tuple [.int (q.2 : Int), .str q.1]) (fun _ => .int 1) (fun q => !decide (ws.getD (i * vs.length + q.2) "" = offS x v0.length ++ q.1)) rfl (sl_le (by rw [List.length_zipIdx]; omega)) (fun q hq2 K2 K0 hk2 hk0 => ?_) ?_
        · obtain ⟨y, t⟩ := q
          have hy : vs[t]? = some y := by
            have := List.mem_zipIdx_iff_getElem?.mp hq2
            exact this
          have ht : t < vs.length := (List.getElem?_eq_some_iff.mp hy).1
          have hit : i * vs.length + t < ws.length := by
            have : (i + 1) * vs.length ≤ c * vs.length := Nat.mul_le_mul_right _ hic
            rw [Nat.succ_mul] at this
            omega
          obtain ⟨z, hz⟩ : ∃ z, ws[i * vs.length + t]? = some z := ⟨_, List.getElem?_eq_getElem hit⟩
          have h2 : atI (ws.map PyData.str) (((i * vs.length : Nat) : Int) + (t : Int)) = some (.str z) := by
            rw [← Int.natCast_add]
            exact atI_map _ (atI_nat hz)
          have oky := hv.ok y (List.mem_of_getElem? hy)
          have okz := hw.ok z (List.mem_of_getElem? hz)
          have ezz : ws.getD (i * vs.length + t) "" = z := by rw [List.getD_eq_getElem?_getD, hz]; rfl
          simp only [h2, dSeq, dCut, dSet, dkE, dkL, dVar, dVarK, at', startD, dC, dOp, dCmp, dVal, dTest, dNot, dAnd, dOr, dAndV, dOrV, dNotV, dIf, dNil, dCons, dTup, dLst, dFrz, dCall, dMth, isStr, dPart0, dPart, dSl, gSlice, dStep, dRevL, dNext, dNever, dRet, dDrop, dIfS, dPar, dPar3, dAsg, dFor, dWhile, dLc, dLc2, gN, gTupD, gNc, gN0, dYes, dSq, dSeqL, dSeqT, dSeqS, dRng1, dRng2, dRng3, dEnum, dEnumT, dZip, dFn, dFnM, dFnK, own', isOwn, dMut, gApp, gExt, dSto, dIxO, dLenO, dLenS, dIxS', dFnS, scr', isScr, dRetN, dSeqN, dFnN, dFnNS, dIsi, dIsi2, dNeg, gAdd, Dl.gSub, gMul, gDiv, gMod, gPow, gEq, gNe, gLt, gLe, gGt, gGe, gIs, gIsNot, isNone, gIx, gLen, gMax, gMin, gSum, gAll, gAbs, gInt, gTuple, gList, gListS, gStrI, gRepr, gJoin, gSw, gEw, gAscii, gAlpha, gLower, List.set, List.map, List.length_cons, List.length_nil, List.cons_append, List.nil_append, List.replicate, dWipe, Nat.reduceAdd, Nat.reduceSub, dChain, gInTup, dFnMN, dkD, dInD, dNotInD, dGetD, dPutD, dic', isDic, keyQ, keyP, dLRg, dkN2, dBor, nstD, dN0, dFnNK, flatO, flatCl, dSortS, gNeS, gIn, gNotIn, gIndex, isLstD, dMthL, gDivmod, sh_non, sh_bl, sh_int, nd_non, nd_bl, nd_int, nd_str, nd_lst, nd_tup, nds_nil, nds_cons, ev_int, ev_str, ev_bl, isi_str_non, isi_str_bl, isi_str_int, isi_str_str, isi_str_lst, isi_str_tup, isi_int_non, isi_int_bl, isi_int_int, isi_int_str, isi_int_lst, isi_int_tup, isi_bool_non, isi_bool_bl, isi_bool_int, isi_bool_str, isi_bool_lst, isi_bool_tup, isi_list_non, isi_list_bl, isi_list_int, isi_list_str, isi_list_lst, isi_list_tup, isi_tuple_non, isi_tuple_bl, isi_tuple_int, isi_tuple_str, isi_tuple_lst, isi_tuple_tup, Bool.not_true, Bool.not_false, Bool.true_or, Bool.false_or, Bool.or_false, Bool.or_true, Bool.true_and, Bool.false_and, Bool.and_true, Bool.and_false, Bool.false_eq_true, if_true, if_false, true_and, and_true, eq_self_iff_true, beq_self_eq_true, atI_0, atI_1, atI_2, atI_3, atI_4, atI_5, atI_6, atI_7, atI_8, atI_9, atI_10, atI_11, atI_12, atI_13, atI_14, ixN_3_0, ixN_3_1, ixN_3_2, Option.some.injEq, exists_eq_left', Int.reduceToNat, Int.reduceNeg, rowT]
          have ox := off_ok (n := v0.length) okx
          change (offS x v0.length).length + y.length ≤ sizeLine ∧ (SeqAt.shaped (PyData.str z) = true ∧ SeqAt.shaped (PyData.str (offS x v0.length ++ y)) = true) ∧ _
          refine ⟨sl_le (by omega), ⟨(nice_str okz).sh (by decide), (nice_str (b := 42) ⟨ox.1.app oky.1, by rw [len_app]; omega⟩).sh (by decide)⟩, ?_⟩
          by_cases hzz : z = offS x v0.length ++ y
          · refine if_n (by subst hzz; simp [offS]) (hk0 (by simp only [ezz, hzz, decide_true]; rfl) _ rfl)
          · refine if_y (by simpa [offS] using hzz) (hk2 (by simp only [ezz, hzz, decide_false]; rfl) _ rfl)
        · by_cases hfe : (vs.zipIdx.filter fun q => !decide (ws.getD (i * vs.length + q.2) "" = offS x v0.length ++ q.1)) = []
          · rw [hfe]
            simp only [dSeq, dCut, dSet, dkE, dkL, dVar, dVarK, at', startD, dC, dOp, dCmp, dVal, dTest, dNot, dAnd, dOr, dAndV, dOrV, dNotV, dIf, dNil, dCons, dTup, dLst, dFrz, dCall, dMth, isStr, dPart0, dPart, dSl, gSlice, dStep, dRevL, dNext, dNever, dRet, dDrop, dIfS, dPar, dPar3, dAsg, dFor, dWhile, dLc, dLc2, gN, gTupD, gNc, gN0, dYes, dSq, dSeqL, dSeqT, dSeqS, dRng1, dRng2, dRng3, dEnum, dEnumT, dZip, dFn, dFnM, dFnK, own', isOwn, dMut, gApp, gExt, dSto, dIxO, dLenO, dLenS, dIxS', dFnS, scr', isScr, dRetN, dSeqN, dFnN, dFnNS, dIsi, dIsi2, dNeg, gAdd, Dl.gSub, gMul, gDiv, gMod, gPow, gEq, gNe, gLt, gLe, gGt, gGe, gIs, gIsNot, isNone, gIx, gLen, gMax, gMin, gSum, gAll, gAbs, gInt, gTuple, gList, gListS, gStrI, gRepr, gJoin, gSw, gEw, gAscii, gAlpha, gLower, List.set, List.map, List.length_cons, List.length_nil, List.cons_append, List.nil_append, List.replicate, dWipe, Nat.reduceAdd, Nat.reduceSub, dChain, gInTup, dFnMN, dkD, dInD, dNotInD, dGetD, dPutD, dic', isDic, keyQ, keyP, dLRg, dkN2, dBor, nstD, dN0, dFnNK, flatO, flatCl, dSortS, gNeS, gIn, gNotIn, gIndex, isLstD, dMthL, gDivmod, sh_non, sh_bl, sh_int, nd_non, nd_bl, nd_int, nd_str, nd_lst, nd_tup, nds_nil, nds_cons, ev_int, ev_str, ev_bl, isi_str_non, isi_str_bl, isi_str_int, isi_str_str, isi_str_lst, isi_str_tup, isi_int_non, isi_int_bl, isi_int_int, isi_int_str, isi_int_lst, isi_int_tup, isi_bool_non, isi_bool_bl, isi_bool_int, isi_bool_str, isi_bool_lst, isi_bool_tup, isi_list_non, isi_list_bl, isi_list_int, isi_list_str, isi_list_lst, isi_list_tup, isi_tuple_non, isi_tuple_bl, isi_tuple_int, isi_tuple_str, isi_tuple_lst, isi_tuple_tup, Bool.not_true, Bool.not_false, Bool.true_or, Bool.false_or, Bool.or_false, Bool.or_true, Bool.true_and, Bool.false_and, Bool.and_true, Bool.and_false, Bool.false_eq_true, if_true, if_false, true_and, and_true, eq_self_iff_true, beq_self_eq_true, atI_0, atI_1, atI_2, atI_3, atI_4, atI_5, atI_6, atI_7, atI_8, atI_9, atI_10, atI_11, atI_12, atI_13, atI_14, ixN_3_0, ixN_3_1, ixN_3_2, Option.some.injEq, exists_eq_left', Int.reduceToNat, Int.reduceNeg, rowT]
            refine ⟨by decide +kernel, ⟨by decide, nil_sh⟩, if_n (by decide) ⟨?_, ?_⟩⟩
            · rw [List.length_map, List.length_take]
              exact Nat.lt_of_le_of_lt (Nat.min_le_left _ _) i100
            · have e : List.map PyData.str (List.take i (rquo0 ws vs)) ++ [PyData.str (cutS x none (some ((x.length : Int) - (v0.length : Int))))] = ((rquo0 ws vs).take (i + 1)).map .str := by
                rw [Bl.take_more hq, List.map_append]
                rfl
              rw [e]
              refine hk _ ⟨_, _, rfl, fun k hk x' hx' t y hy => ?_⟩
              rcases Nat.lt_succ_iff_lt_or_eq.mp hk with hk | rfl
              · exact hbl k hk x' hx' t y hy
              · rw [hq] at hx'
                cases hx'
                have := List.filter_eq_nil_iff.mp hfe (y, t) (List.mem_zipIdx_iff_getElem?.mpr hy)
                have ht : t < vs.length := (List.getElem?_eq_some_iff.mp hy).1
                have hit : k * vs.length + t < ws.length := by
                  have : (k + 1) * vs.length ≤ c * vs.length := Nat.mul_le_mul_right _ hic
                  rw [Nat.succ_mul] at this
                  omega
                obtain ⟨z, hz⟩ : ∃ z, ws[k * vs.length + t]? = some z := ⟨_, List.getElem?_eq_getElem hit⟩
                simp only [List.getD_eq_getElem?_getD, hz, Option.getD_some, Bool.not_eq_true', decide_eq_false_iff_not, Classical.not_not] at this
                rw [hz, this]
          · refine ⟨by decide +kernel, ⟨(ones_nice _).1, (ones_nice _).sh (by decide), nil_sh⟩, if_y (ones_ne hfe) (bad fun hall => hfe ?_)⟩
            refine List.filter_eq_nil_iff.mpr fun q hq => ?_
            obtain ⟨y, t⟩ := q
            have hy : vs[t]? = some y := List.mem_zipIdx_iff_getElem?.mp hq
            have := hall t y hy
            simp only [List.getD_eq_getElem?_getD, this, Option.getD_some, decide_true]
            decide
      · refine if_y (by simpa using hen) (bad fun hall => hen ?_)
        have := hall 0 v0 hv0
        rw [Nat.add_zero, hx] at this
        rw [Option.some.inj this]
        exact ends_app _ _
    · obtain ⟨o3, o4, rfl, hbl⟩ := h
      have hlen : (rngC 0 ((vs.map PyData.str).length : Int) c).length = c := by unfold rngC; rw [List.length_map, List.length_range]
      rw [hlen] at hbl ⊢
      have hrl : (rquo0 ws vs).length = c := by
        refine Nat.le_antisymm ?_ ?_
        · refine Nat.le_of_not_lt fun hlt => ?_
          have := rquo0_get (ws := ws) hv1 c
          rw [List.getElem?_eq_getElem hlt, List.getElem?_eq_none (by omega)] at this
          cases this
        · refine Nat.le_of_not_lt fun hlt => ?_
          have := rquo0_get (ws := ws) hv1 (rquo0 ws vs).length
          have h2 : (rquo0 ws vs).length * vs.length < ws.length := by rw [hc]; exact (Nat.mul_lt_mul_right (by omega)).mpr hlt
          rw [List.getElem?_eq_none (Nat.le_refl _), List.getElem?_eq_getElem h2] at this
          cases this
      refine ⟨o3, o4, by rw [← hrl, List.take_length], ?_⟩
      unfold rquo
      rw [if_pos (addRow_eq (by rw [hrl, hc]) fun i x hx t y hy => hbl i (by rw [← hrl]; exact (List.getElem?_eq_some_iff.mp hx).1) x hx t y hy)]
  · rintro Γ ⟨o3, o4, rfl, hr⟩
    rw [hr] at q
    exact q
end
end C12
namespace C12
open PySem PySem.Spec PyProof.Rows L2 TL Bl Dl Pm
-- DLJ DLK
section
variable {P : Program} {w : World} {K : PySem.W.Frag} {mg : Str → Option Value} {base : Heap}
def pairT (p : List Str × List Str) : PyData := .tuple [rowT p.1, rowT p.2]
def t_cuts : GN := fun ds Q => ∃ (ws : List Str) (many : Nat), ds = [rowT ws, .int (many : Int)] ∧ LineOk ws ∧ 1 ≤ many ∧ many < 2 ^ 400 ∧ ((∀ p ∈ cutsL ws many, LineOk p.1 ∧ LineOk p.2) → Q (.list ((cutsL ws many).map pairT)))
theorem rquo0_ok {ws vs : List Str} (h : LineOk ws) (hv : 1 ≤ vs.length) (hq : rquo ws vs = some q) : LineOk q := by
  have e := rquo_some hq
  have l : ws.length = q.length * vs.length := by rw [← e, addRow_len]
  refine ⟨?_, ?_, fun x hx => ?_⟩
  · rcases Nat.eq_zero_or_pos q.length with z | z
    · rw [z, Nat.zero_mul] at l
      have := h.ne
      omega
    · exact z
  · have : q.length * 1 ≤ q.length * vs.length := Nat.mul_le_mul_left _ hv
    have := h.len
    omega
  · have z := rquo0_app (q := q) hv
    rw [e] at z
    rw [← z] at hx
    unfold rquo0 at hx
    obtain ⟨y, hy, rfl⟩ := List.mem_map.mp hx
    unfold stpL at hy
    obtain ⟨k, _, hk⟩ := List.mem_filterMap.mp hy
    exact off_ok (h.ok y (List.mem_of_getElem? hk))
theorem d_cuts (a : At K mg "_law_cuts" s__law_cuts ["line", "many"]) (B : Names mg) (h__law_outer : FD P w K mg base "_law_outer" 1 2 t_outer) : FD P w K mg base "_law_cuts" 2 2 t_cuts := by
  obtain ⟨f, fd, F, m, b⟩ := a
  refine ⟨f, fd, _, ok_D F sc__law_cuts (by decide) (fun cdv A outer s H E hr => (dss_cons (ds_set (i := 2) sc__law_cuts.nd rfl (Or.inl rfl) (dk_l (dl_lst da_nil)))
      (dss_cons (ds_if (dt_cmp (op_neDD hr.units) (de_op op_modD (de_callB cr_lenD (by rfl) B.len (by decide +kernel) (da_cons (de_var 0) da_nil)) (de_var 1)) de_int) (dss_one (ds_ret (de_var 2))) dss_nil)
      (dss_cut (ds_for PassesOwn.never rfl (di_range1 (by rfl) B.range (da_cons (de_op op_addD (de_callB cr_lenD (by rfl) B.len (by decide +kernel) (da_cons (de_ix ix_D (de_var 0) de_int) da_nil)) de_int) da_nil)) (dg_name (i := 3) sc__law_cuts.nd rfl (Or.inr rfl)) (dss_cons (ds_set (i := 4) sc__law_cuts.nd rfl (Or.inr rfl) (dk_e (de_slice (de_ix ix_D (de_var 0) de_int) do_none (do_some (de_var 3)))))
      (dss_one (ds_if (dt_cmp (op_eqDD hr.units) (de_frz (dl_lc (own := [("one", 7)]) rfl sc__law_cuts.nd (di_sq (de_slice (de_var 0) do_none (do_some (de_var 1)))) (blkOk_by (N := ["line", "many", "found", "spot", "start", "inner", "outer", "one"]) (sc := defScope s__law_cuts) (by decide +kernel)) (fun _ _ _ _ _ => (dg_name (i := 7) sc__law_cuts.nd rfl (Or.inl rfl))) (fun _ _ _ _ _ => (dq_one (dt_not (dt_val (de_mth PySem.F.slot_str_startswith PySem.F.type_str_startswith mt_swD (de_var 7) (da_cons (de_var 4) da_nil)))))) (fun _ _ _ _ _ => de_int))) (de_frz (dl_lst da_nil))) (dss_cons (ds_set (i := 5) sc__law_cuts.nd rfl (Or.inl rfl) (dk_e (de_callTy cr_tupleD (by rfl) B.tuple (by decide +kernel) (da_cons (de_frz (dl_lc (own := [("one", 7)]) rfl sc__law_cuts.nd (di_sq (de_slice (de_var 0) do_none (do_some (de_var 1)))) (blkOk_by (N := ["line", "many", "found", "spot", "start", "inner", "outer", "one"]) (sc := defScope s__law_cuts) (by decide +kernel)) (fun _ _ _ _ _ => (dg_name (i := 7) sc__law_cuts.nd rfl (Or.inl rfl))) (fun _ _ _ _ _ => dq_nil) (fun _ _ _ _ _ => (de_slice (de_var 7) (do_some (de_var 3)) do_none)))) da_nil))))
      (dss_cons (ds_set (i := 6) sc__law_cuts.nd rfl (Or.inl rfl) (dk_e (de_fn h__law_outer (hr.mono (by decide)) (by rfl) (fun _ => pass0) (da_cons (de_var 0) (da_cons (de_var 5) da_nil)))))
      (dss_one (ds_if (dt_cmp op_isNotD (de_var 6) de_non) (dss_one (ds_mut 2 PySem.F.slot_list_append PySem.F.type_list_append mt_appD (da_cons (de_tup (da_cons (de_var 6) (da_cons (de_var 5) da_nil))) da_nil))) dss_nil)))) dss_nil))))
      (dss_one (ds_ret (de_var 2))))))
      ) (fun ds Q0 hl h => ?_), m, F.kp, b⟩
  obtain ⟨ws, many, rfl, hw, hm1, hml, q⟩ := h
  simp only [dSeq, dCut, dSet, dkE, dkL, dVar, dVarK, at', startD, dC, dOp, dCmp, dVal, dTest, dNot, dAnd, dOr, dAndV, dOrV, dNotV, dIf, dNil, dCons, dTup, dLst, dFrz, dCall, dMth, isStr, dPart0, dPart, dSl, gSlice, dStep, dRevL, dNext, dNever, dRet, dDrop, dIfS, dPar, dPar3, dAsg, dFor, dWhile, dLc, dLc2, gN, gTupD, gNc, gN0, dYes, dSq, dSeqL, dSeqT, dSeqS, dRng1, dRng2, dRng3, dEnum, dEnumT, dZip, dFn, dFnM, dFnK, own', isOwn, dMut, gApp, gExt, dSto, dIxO, dLenO, dLenS, dIxS', dFnS, scr', isScr, dRetN, dSeqN, dFnN, dFnNS, dIsi, dIsi2, dNeg, gAdd, Dl.gSub, gMul, gDiv, gMod, gPow, gEq, gNe, gLt, gLe, gGt, gGe, gIs, gIsNot, isNone, gIx, gLen, gMax, gMin, gSum, gAll, gAbs, gInt, gTuple, gList, gListS, gStrI, gRepr, gJoin, gSw, gEw, gAscii, gAlpha, gLower, List.set, List.map, List.length_cons, List.length_nil, List.cons_append, List.nil_append, List.replicate, dWipe, Nat.reduceAdd, Nat.reduceSub, dChain, gInTup, dFnMN, dkD, dInD, dNotInD, dGetD, dPutD, dic', isDic, keyQ, keyP, dLRg, dkN2, dBor, nstD, dN0, dFnNK, flatO, flatCl, dSortS, gNeS, gIn, gNotIn, gIndex, isLstD, dMthL, gDivmod, sh_non, sh_bl, sh_int, nd_non, nd_bl, nd_int, nd_str, nd_lst, nd_tup, nds_nil, nds_cons, ev_int, ev_str, ev_bl, isi_str_non, isi_str_bl, isi_str_int, isi_str_str, isi_str_lst, isi_str_tup, isi_int_non, isi_int_bl, isi_int_int, isi_int_str, isi_int_lst, isi_int_tup, isi_bool_non, isi_bool_bl, isi_bool_int, isi_bool_str, isi_bool_lst, isi_bool_tup, isi_list_non, isi_list_bl, isi_list_int, isi_list_str, isi_list_lst, isi_list_tup, isi_tuple_non, isi_tuple_bl, isi_tuple_int, isi_tuple_str, isi_tuple_lst, isi_tuple_tup, Bool.not_true, Bool.not_false, Bool.true_or, Bool.false_or, Bool.or_false, Bool.or_true, Bool.true_and, Bool.false_and, Bool.and_true, Bool.and_false, Bool.false_eq_true, if_true, if_false, true_and, and_true, eq_self_iff_true, beq_self_eq_true, atI_0, atI_1, atI_2, atI_3, atI_4, atI_5, atI_6, atI_7, atI_8, atI_9, atI_10, atI_11, atI_12, atI_13, atI_14, ixN_3_0, ixN_3_1, ixN_3_2, Option.some.injEq, exists_eq_left', Int.reduceToNat, Int.reduceNeg, rowT]
  have hw60 := hw.len
  have hw1 := hw.ne
  obtain ⟨w0, hw0⟩ := ex0 hw1
  have h0 : atI (ws.map PyData.str) 0 = some (.str w0) := atI_map _ (atI_nat hw0)
  have okw0 := hw.ok w0 (List.mem_of_getElem? hw0)
  have em : ((ws.map PyData.str).length : Int) % (many : Int) = ((ws.length % many : Nat) : Int) := by
    rw [List.length_map]
    rfl
  rw [em]
  refine ⟨by decide +kernel, fun p => ⟨by omega, ?_⟩⟩
  by_cases hmod : ws.length % many = 0
  case neg =>
    have ec : cutsL ws many = [] := by unfold cutsL; rw [if_pos hmod]
    rw [ec] at q
    exact if_y (int_ne hmod) (q fun p hp => by cases hp)
  have hml2 : many ≤ ws.length := Nat.le_of_dvd hw1 (Nat.dvd_of_mod_eq_zero hmod)
  have ew0 : ws.getD 0 "" = w0 := getD_at hw0
  have ec : cutsL ws many = (List.range (w0.length + 1)).filterMap (cutB ws many) := by unfold cutsL; rw [if_neg (by simp [hmod]), ew0]
  rw [ec] at q
  refine if_n (by rw [hmod]; decide) ?_
  simp only [h0, dSeq, dCut, dSet, dkE, dkL, dVar, dVarK, at', startD, dC, dOp, dCmp, dVal, dTest, dNot, dAnd, dOr, dAndV, dOrV, dNotV, dIf, dNil, dCons, dTup, dLst, dFrz, dCall, dMth, isStr, dPart0, dPart, dSl, gSlice, dStep, dRevL, dNext, dNever, dRet, dDrop, dIfS, dPar, dPar3, dAsg, dFor, dWhile, dLc, dLc2, gN, gTupD, gNc, gN0, dYes, dSq, dSeqL, dSeqT, dSeqS, dRng1, dRng2, dRng3, dEnum, dEnumT, dZip, dFn, dFnM, dFnK, own', isOwn, dMut, gApp, gExt, dSto, dIxO, dLenO, dLenS, dIxS', dFnS, scr', isScr, dRetN, dSeqN, dFnN, dFnNS, dIsi, dIsi2, dNeg, gAdd, Dl.gSub, gMul, gDiv, gMod, gPow, gEq, gNe, gLt, gLe, gGt, gGe, gIs, gIsNot, isNone, gIx, gLen, gMax, gMin, gSum, gAll, gAbs, gInt, gTuple, gList, gListS, gStrI, gRepr, gJoin, gSw, gEw, gAscii, gAlpha, gLower, List.set, List.map, List.length_cons, List.length_nil, List.cons_append, List.nil_append, List.replicate, dWipe, Nat.reduceAdd, Nat.reduceSub, dChain, gInTup, dFnMN, dkD, dInD, dNotInD, dGetD, dPutD, dic', isDic, keyQ, keyP, dLRg, dkN2, dBor, nstD, dN0, dFnNK, flatO, flatCl, dSortS, gNeS, gIn, gNotIn, gIndex, isLstD, dMthL, gDivmod, sh_non, sh_bl, sh_int, nd_non, nd_bl, nd_int, nd_str, nd_lst, nd_tup, nds_nil, nds_cons, ev_int, ev_str, ev_bl, isi_str_non, isi_str_bl, isi_str_int, isi_str_str, isi_str_lst, isi_str_tup, isi_int_non, isi_int_bl, isi_int_int, isi_int_str, isi_int_lst, isi_int_tup, isi_bool_non, isi_bool_bl, isi_bool_int, isi_bool_str, isi_bool_lst, isi_bool_tup, isi_list_non, isi_list_bl, isi_list_int, isi_list_str, isi_list_lst, isi_list_tup, isi_tuple_non, isi_tuple_bl, isi_tuple_int, isi_tuple_str, isi_tuple_lst, isi_tuple_tup, Bool.not_true, Bool.not_false, Bool.true_or, Bool.false_or, Bool.or_false, Bool.or_true, Bool.true_and, Bool.false_and, Bool.and_true, Bool.and_false, Bool.false_eq_true, if_true, if_false, true_and, and_true, eq_self_iff_true, beq_self_eq_true, atI_0, atI_1, atI_2, atI_3, atI_4, atI_5, atI_6, atI_7, atI_8, atI_9, atI_10, atI_11, atI_12, atI_13, atI_14, ixN_3_0, ixN_3_1, ixN_3_2, Option.some.injEq, exists_eq_left', Int.reduceToNat, Int.reduceNeg, rowT]
  refine ⟨fun Γ => ∃ (ps : List (List Str × List Str)) (o3 o4 o5 o6 : Option Cell), Γ = [some (.d (rowT ws)), some (.d (.int (many : Int))), some (.own p (ps.map pairT)), o3, o4, o5, o6, none] ∧ (∀ q ∈ ps, LineOk q.1 ∧ LineOk q.2) ∧ ps = (List.range (w0.length + 1)).filterMap (cutB ws many), ⟨sl_le (by omega), ⟨by omega, by omega⟩, ?_⟩, ?_⟩
  · refine for_ind (fun i Γ => ∃ (ps : List (List Str × List Str)) (o3 o4 o5 o6 : Option Cell), Γ = [some (.d (rowT ws)), some (.d (.int (many : Int))), some (.own p (ps.map pairT)), o3, o4, o5, o6, none] ∧ ps.length ≤ i ∧ (∀ q ∈ ps, LineOk q.1 ∧ LineOk q.2) ∧ ps = (List.range i).filterMap (cutB ws many)) ⟨[], none, none, none, none, rfl, Nat.le_refl _, (fun q hq => by cases hq), rfl⟩ ?_ fun Γ h => ?_
    · rintro i d Γ hi ⟨ps, o3, o4, o5, o6, rfl, hlen, hps, hpe⟩ K hk
      obtain ⟨hi2, rfl⟩ := rng1_at hi
      have ei : (0 : Int) + (i : Int) = ((i : Nat) : Int) := Int.zero_add _
      rw [ei]
      simp only [h0, dSeq, dCut, dSet, dkE, dkL, dVar, dVarK, at', startD, dC, dOp, dCmp, dVal, dTest, dNot, dAnd, dOr, dAndV, dOrV, dNotV, dIf, dNil, dCons, dTup, dLst, dFrz, dCall, dMth, isStr, dPart0, dPart, dSl, gSlice, dStep, dRevL, dNext, dNever, dRet, dDrop, dIfS, dPar, dPar3, dAsg, dFor, dWhile, dLc, dLc2, gN, gTupD, gNc, gN0, dYes, dSq, dSeqL, dSeqT, dSeqS, dRng1, dRng2, dRng3, dEnum, dEnumT, dZip, dFn, dFnM, dFnK, own', isOwn, dMut, gApp, gExt, dSto, dIxO, dLenO, dLenS, dIxS', dFnS, scr', isScr, dRetN, dSeqN, dFnN, dFnNS, dIsi, dIsi2, dNeg, gAdd, Dl.gSub, gMul, gDiv, gMod, gPow, gEq, gNe, gLt, gLe, gGt, gGe, gIs, gIsNot, isNone, gIx, gLen, gMax, gMin, gSum, gAll, gAbs, gInt, gTuple, gList, gListS, gStrI, gRepr, gJoin, gSw, gEw, gAscii, gAlpha, gLower, List.set, List.map, List.length_cons, List.length_nil, List.cons_append, List.nil_append, List.replicate, dWipe, Nat.reduceAdd, Nat.reduceSub, dChain, gInTup, dFnMN, dkD, dInD, dNotInD, dGetD, dPutD, dic', isDic, keyQ, keyP, dLRg, dkN2, dBor, nstD, dN0, dFnNK, flatO, flatCl, dSortS, gNeS, gIn, gNotIn, gIndex, isLstD, dMthL, gDivmod, sh_non, sh_bl, sh_int, nd_non, nd_bl, nd_int, nd_str, nd_lst, nd_tup, nds_nil, nds_cons, ev_int, ev_str, ev_bl, isi_str_non, isi_str_bl, isi_str_int, isi_str_str, isi_str_lst, isi_str_tup, isi_int_non, isi_int_bl, isi_int_int, isi_int_str, isi_int_lst, isi_int_tup, isi_bool_non, isi_bool_bl, isi_bool_int, isi_bool_str, isi_bool_lst, isi_bool_tup, isi_list_non, isi_list_bl, isi_list_int, isi_list_str, isi_list_lst, isi_list_tup, isi_tuple_non, isi_tuple_bl, isi_tuple_int, isi_tuple_str, isi_tuple_lst, isi_tuple_tup, Bool.not_true, Bool.not_false, Bool.true_or, Bool.false_or, Bool.or_false, Bool.or_true, Bool.true_and, Bool.false_and, Bool.and_true, Bool.and_false, Bool.false_eq_true, if_true, if_false, true_and, and_true, eq_self_iff_true, beq_self_eq_true, atI_0, atI_1, atI_2, atI_3, atI_4, atI_5, atI_6, atI_7, atI_8, atI_9, atI_10, atI_11, atI_12, atI_13, atI_14, ixN_3_0, ixN_3_1, ixN_3_2, Option.some.injEq, exists_eq_left', Int.reduceToNat, Int.reduceNeg, rowT]
      refine ⟨sl_le (by omega), ?_⟩
      rw [cut_to, cutD_to, ← List.map_take]
      have htk : (ws.take many).length = many := by rw [List.length_take]; omega
      have hin : ∀ x ∈ ws.take many, Lets x ∧ x.length ≤ 21 := fun x hx => hw.ok x (List.mem_of_mem_take hx)
      refine lc_filter PyData.str (fun _ => .int 1) (fun x => !Txt.startswith x (takeS w0 i)) rfl (sl_le (by omega)) (fun x hx K2 K0 hk2 hk0 => ?_) ?_
      · simp only [dSeq, dCut, dSet, dkE, dkL, dVar, dVarK, at', startD, dC, dOp, dCmp, dVal, dTest, dNot, dAnd, dOr, dAndV, dOrV, dNotV, dIf, dNil, dCons, dTup, dLst, dFrz, dCall, dMth, isStr, dPart0, dPart, dSl, gSlice, dStep, dRevL, dNext, dNever, dRet, dDrop, dIfS, dPar, dPar3, dAsg, dFor, dWhile, dLc, dLc2, gN, gTupD, gNc, gN0, dYes, dSq, dSeqL, dSeqT, dSeqS, dRng1, dRng2, dRng3, dEnum, dEnumT, dZip, dFn, dFnM, dFnK, own', isOwn, dMut, gApp, gExt, dSto, dIxO, dLenO, dLenS, dIxS', dFnS, scr', isScr, dRetN, dSeqN, dFnN, dFnNS, dIsi, dIsi2, dNeg, gAdd, Dl.gSub, gMul, gDiv, gMod, gPow, gEq, gNe, gLt, gLe, gGt, gGe, gIs, gIsNot, isNone, gIx, gLen, gMax, gMin, gSum, gAll, gAbs, gInt, gTuple, gList, gListS, gStrI, gRepr, gJoin, gSw, gEw, gAscii, gAlpha, gLower, List.set, List.map, List.length_cons, List.length_nil, List.cons_append, List.nil_append, List.replicate, dWipe, Nat.reduceAdd, Nat.reduceSub, dChain, gInTup, dFnMN, dkD, dInD, dNotInD, dGetD, dPutD, dic', isDic, keyQ, keyP, dLRg, dkN2, dBor, nstD, dN0, dFnNK, flatO, flatCl, dSortS, gNeS, gIn, gNotIn, gIndex, isLstD, dMthL, gDivmod, sh_non, sh_bl, sh_int, nd_non, nd_bl, nd_int, nd_str, nd_lst, nd_tup, nds_nil, nds_cons, ev_int, ev_str, ev_bl, isi_str_non, isi_str_bl, isi_str_int, isi_str_str, isi_str_lst, isi_str_tup, isi_int_non, isi_int_bl, isi_int_int, isi_int_str, isi_int_lst, isi_int_tup, isi_bool_non, isi_bool_bl, isi_bool_int, isi_bool_str, isi_bool_lst, isi_bool_tup, isi_list_non, isi_list_bl, isi_list_int, isi_list_str, isi_list_lst, isi_list_tup, isi_tuple_non, isi_tuple_bl, isi_tuple_int, isi_tuple_str, isi_tuple_lst, isi_tuple_tup, Bool.not_true, Bool.not_false, Bool.true_or, Bool.false_or, Bool.or_false, Bool.or_true, Bool.true_and, Bool.false_and, Bool.and_true, Bool.and_false, Bool.false_eq_true, if_true, if_false, true_and, and_true, eq_self_iff_true, beq_self_eq_true, atI_0, atI_1, atI_2, atI_3, atI_4, atI_5, atI_6, atI_7, atI_8, atI_9, atI_10, atI_11, atI_12, atI_13, atI_14, ixN_3_0, ixN_3_1, ixN_3_2, Option.some.injEq, exists_eq_left', Int.reduceToNat, Int.reduceNeg, rowT]
        by_cases hs : Txt.startswith x (takeS w0 i) = true
        · refine if_n (by rw [hs]; decide) (hk0 (by rw [hs]; rfl) _ rfl)
        · refine if_y (by simpa using hs) (hk2 (by simpa using hs) _ rfl)
      · have step : List.filterMap (cutB ws many) (List.range (i + 1)) = ps ++ (cutB ws many i).toList := by
          rw [List.range_succ, List.filterMap_append, ← hpe]
          cases hcb : cutB ws many i with
          | none => simp [hcb]
          | some z => simp [hcb]
        have hskip : cutB ws many i = none → K [some (.d (.tuple (ws.map .str))), some (.d (.int (many : Int))), some (.own p (ps.map pairT)), some (.d (.int (i : Int))), some (.d (.str (takeS w0 i))), o5, o6, none] := fun z => hk _ ⟨ps, _, _, _, _, rfl, by omega, hps, by rw [step, z]; simp⟩
        by_cases hfe : ((ws.take many).filter fun x => !Txt.startswith x (takeS w0 i)) = []
        case neg =>
          refine ⟨by decide +kernel, ⟨(ones_nice _).1, (ones_nice _).sh (by decide), nil_sh⟩, if_n (by rw [ones_eq hfe]; decide) ?_⟩
          exact hskip (by unfold cutB; rw [ew0, if_neg hfe])
        have hcb : cutB ws many i = (rquo ws ((ws.take many).map fun x => dropS x i)).map fun o => (o, (ws.take many).map fun x => dropS x i) := by unfold cutB; rw [ew0, if_pos hfe]; rfl
        rw [hfe]
        simp only [cutD_to, ← List.map_take, dSeq, dCut, dSet, dkE, dkL, dVar, dVarK, at', startD, dC, dOp, dCmp, dVal, dTest, dNot, dAnd, dOr, dAndV, dOrV, dNotV, dIf, dNil, dCons, dTup, dLst, dFrz, dCall, dMth, isStr, dPart0, dPart, dSl, gSlice, dStep, dRevL, dNext, dNever, dRet, dDrop, dIfS, dPar, dPar3, dAsg, dFor, dWhile, dLc, dLc2, gN, gTupD, gNc, gN0, dYes, dSq, dSeqL, dSeqT, dSeqS, dRng1, dRng2, dRng3, dEnum, dEnumT, dZip, dFn, dFnM, dFnK, own', isOwn, dMut, gApp, gExt, dSto, dIxO, dLenO, dLenS, dIxS', dFnS, scr', isScr, dRetN, dSeqN, dFnN, dFnNS, dIsi, dIsi2, dNeg, gAdd, Dl.gSub, gMul, gDiv, gMod, gPow, gEq, gNe, gLt, gLe, gGt, gGe, gIs, gIsNot, isNone, gIx, gLen, gMax, gMin, gSum, gAll, gAbs, gInt, gTuple, gList, gListS, gStrI, gRepr, gJoin, gSw, gEw, gAscii, gAlpha, gLower, List.set, List.map, List.length_cons, List.length_nil, List.cons_append, List.nil_append, List.replicate, dWipe, Nat.reduceAdd, Nat.reduceSub, dChain, gInTup, dFnMN, dkD, dInD, dNotInD, dGetD, dPutD, dic', isDic, keyQ, keyP, dLRg, dkN2, dBor, nstD, dN0, dFnNK, flatO, flatCl, dSortS, gNeS, gIn, gNotIn, gIndex, isLstD, dMthL, gDivmod, sh_non, sh_bl, sh_int, nd_non, nd_bl, nd_int, nd_str, nd_lst, nd_tup, nds_nil, nds_cons, ev_int, ev_str, ev_bl, isi_str_non, isi_str_bl, isi_str_int, isi_str_str, isi_str_lst, isi_str_tup, isi_int_non, isi_int_bl, isi_int_int, isi_int_str, isi_int_lst, isi_int_tup, isi_bool_non, isi_bool_bl, isi_bool_int, isi_bool_str, isi_bool_lst, isi_bool_tup, isi_list_non, isi_list_bl, isi_list_int, isi_list_str, isi_list_lst, isi_list_tup, isi_tuple_non, isi_tuple_bl, isi_tuple_int, isi_tuple_str, isi_tuple_lst, isi_tuple_tup, Bool.not_true, Bool.not_false, Bool.true_or, Bool.false_or, Bool.or_false, Bool.or_true, Bool.true_and, Bool.false_and, Bool.and_true, Bool.and_false, Bool.false_eq_true, if_true, if_false, true_and, and_true, eq_self_iff_true, beq_self_eq_true, atI_0, atI_1, atI_2, atI_3, atI_4, atI_5, atI_6, atI_7, atI_8, atI_9, atI_10, atI_11, atI_12, atI_13, atI_14, ixN_3_0, ixN_3_1, ixN_3_2, Option.some.injEq, exists_eq_left', Int.reduceToNat, Int.reduceNeg, rowT]
        refine ⟨by decide +kernel, ⟨by decide, nil_sh⟩, if_y (by decide) ?_⟩
        refine lc_map PyData.str (fun x => .str (dropS x i)) rfl (sl_le (by omega)) (fun x hx K2 hk2 => ?_) ?_
        · simp only [dSeq, dCut, dSet, dkE, dkL, dVar, dVarK, at', startD, dC, dOp, dCmp, dVal, dTest, dNot, dAnd, dOr, dAndV, dOrV, dNotV, dIf, dNil, dCons, dTup, dLst, dFrz, dCall, dMth, isStr, dPart0, dPart, dSl, gSlice, dStep, dRevL, dNext, dNever, dRet, dDrop, dIfS, dPar, dPar3, dAsg, dFor, dWhile, dLc, dLc2, gN, gTupD, gNc, gN0, dYes, dSq, dSeqL, dSeqT, dSeqS, dRng1, dRng2, dRng3, dEnum, dEnumT, dZip, dFn, dFnM, dFnK, own', isOwn, dMut, gApp, gExt, dSto, dIxO, dLenO, dLenS, dIxS', dFnS, scr', isScr, dRetN, dSeqN, dFnN, dFnNS, dIsi, dIsi2, dNeg, gAdd, Dl.gSub, gMul, gDiv, gMod, gPow, gEq, gNe, gLt, gLe, gGt, gGe, gIs, gIsNot, isNone, gIx, gLen, gMax, gMin, gSum, gAll, gAbs, gInt, gTuple, gList, gListS, gStrI, gRepr, gJoin, gSw, gEw, gAscii, gAlpha, gLower, List.set, List.map, List.length_cons, List.length_nil, List.cons_append, List.nil_append, List.replicate, dWipe, Nat.reduceAdd, Nat.reduceSub, dChain, gInTup, dFnMN, dkD, dInD, dNotInD, dGetD, dPutD, dic', isDic, keyQ, keyP, dLRg, dkN2, dBor, nstD, dN0, dFnNK, flatO, flatCl, dSortS, gNeS, gIn, gNotIn, gIndex, isLstD, dMthL, gDivmod, sh_non, sh_bl, sh_int, nd_non, nd_bl, nd_int, nd_str, nd_lst, nd_tup, nds_nil, nds_cons, ev_int, ev_str, ev_bl, isi_str_non, isi_str_bl, isi_str_int, isi_str_str, isi_str_lst, isi_str_tup, isi_int_non, isi_int_bl, isi_int_int, isi_int_str, isi_int_lst, isi_int_tup, isi_bool_non, isi_bool_bl, isi_bool_int, isi_bool_str, isi_bool_lst, isi_bool_tup, isi_list_non, isi_list_bl, isi_list_int, isi_list_str, isi_list_lst, isi_list_tup, isi_tuple_non, isi_tuple_bl, isi_tuple_int, isi_tuple_str, isi_tuple_lst, isi_tuple_tup, Bool.not_true, Bool.not_false, Bool.true_or, Bool.false_or, Bool.or_false, Bool.or_true, Bool.true_and, Bool.false_and, Bool.and_true, Bool.and_false, Bool.false_eq_true, if_true, if_false, true_and, and_true, eq_self_iff_true, beq_self_eq_true, atI_0, atI_1, atI_2, atI_3, atI_4, atI_5, atI_6, atI_7, atI_8, atI_9, atI_10, atI_11, atI_12, atI_13, atI_14, ixN_3_0, ixN_3_1, ixN_3_2, Option.some.injEq, exists_eq_left', Int.reduceToNat, Int.reduceNeg, rowT]
          have := (hin x hx).2
          refine ⟨sl_le (by omega), ?_⟩
          rw [cut_from]
          exact hk2 _ rfl
        · have e : (ws.take many).map (fun x => PyData.str (dropS x i)) = ((ws.take many).map fun x => dropS x i).map .str := by rw [List.map_map]; rfl
          rw [e]
          have lin : LineOk ((ws.take many).map fun x => dropS x i) := ⟨by rw [List.length_map]; omega, by rw [List.length_map]; omega, fun y hy => by
            obtain ⟨x, hx, rfl⟩ := List.mem_map.mp hy
            exact drop_ok (hin x hx)⟩
          simp only [dSeq, dCut, dSet, dkE, dkL, dVar, dVarK, at', startD, dC, dOp, dCmp, dVal, dTest, dNot, dAnd, dOr, dAndV, dOrV, dNotV, dIf, dNil, dCons, dTup, dLst, dFrz, dCall, dMth, isStr, dPart0, dPart, dSl, gSlice, dStep, dRevL, dNext, dNever, dRet, dDrop, dIfS, dPar, dPar3, dAsg, dFor, dWhile, dLc, dLc2, gN, gTupD, gNc, gN0, dYes, dSq, dSeqL, dSeqT, dSeqS, dRng1, dRng2, dRng3, dEnum, dEnumT, dZip, dFn, dFnM, dFnK, own', isOwn, dMut, gApp, gExt, dSto, dIxO, dLenO, dLenS, dIxS', dFnS, scr', isScr, dRetN, dSeqN, dFnN, dFnNS, dIsi, dIsi2, dNeg, gAdd, Dl.gSub, gMul, gDiv, gMod, gPow, gEq, gNe, gLt, gLe, gGt, gGe, gIs, gIsNot, isNone, gIx, gLen, gMax, gMin, gSum, gAll, gAbs, gInt, gTuple, gList, gListS, gStrI, gRepr, gJoin, gSw, gEw, gAscii, gAlpha, gLower, List.set, List.map, List.length_cons, List.length_nil, List.cons_append, List.nil_append, List.replicate, dWipe, Nat.reduceAdd, Nat.reduceSub, dChain, gInTup, dFnMN, dkD, dInD, dNotInD, dGetD, dPutD, dic', isDic, keyQ, keyP, dLRg, dkN2, dBor, nstD, dN0, dFnNK, flatO, flatCl, dSortS, gNeS, gIn, gNotIn, gIndex, isLstD, dMthL, gDivmod, sh_non, sh_bl, sh_int, nd_non, nd_bl, nd_int, nd_str, nd_lst, nd_tup, nds_nil, nds_cons, ev_int, ev_str, ev_bl, isi_str_non, isi_str_bl, isi_str_int, isi_str_str, isi_str_lst, isi_str_tup, isi_int_non, isi_int_bl, isi_int_int, isi_int_str, isi_int_lst, isi_int_tup, isi_bool_non, isi_bool_bl, isi_bool_int, isi_bool_str, isi_bool_lst, isi_bool_tup, isi_list_non, isi_list_bl, isi_list_int, isi_list_str, isi_list_lst, isi_list_tup, isi_tuple_non, isi_tuple_bl, isi_tuple_int, isi_tuple_str, isi_tuple_lst, isi_tuple_tup, Bool.not_true, Bool.not_false, Bool.true_or, Bool.false_or, Bool.or_false, Bool.or_true, Bool.true_and, Bool.false_and, Bool.and_true, Bool.and_false, Bool.false_eq_true, if_true, if_false, true_and, and_true, eq_self_iff_true, beq_self_eq_true, atI_0, atI_1, atI_2, atI_3, atI_4, atI_5, atI_6, atI_7, atI_8, atI_9, atI_10, atI_11, atI_12, atI_13, atI_14, ixN_3_0, ixN_3_1, ixN_3_2, Option.some.injEq, exists_eq_left', Int.reduceToNat, Int.reduceNeg, rowT]
          refine ⟨ws, (ws.take many).map fun x => dropS x i, rfl, hw, lin, by rw [List.length_map, htk]; exact hmod, ?_⟩
          cases hq : rquo ws ((ws.take many).map fun x => dropS x i) with
          | none =>
            refine if_n (by decide) (hk _ ⟨ps, _, _, _, _, rfl, by omega, hps, by rw [step, hcb, hq]; simp⟩)
          | some o =>
            have lo := rquo0_ok hw lin.ne hq
            refine if_y (by rfl) ⟨by decide +kernel, ?_, ?_⟩
            · rw [List.length_map]
              exact Nat.lt_of_le_of_lt hlen (Nat.lt_of_lt_of_le (by omega : i < 100) (sl_le (by decide)))
            · have e2 : ps.map pairT ++ [PyData.tuple [optT (some o), PyData.tuple (((ws.take many).map fun x => dropS x i).map .str)]] = (ps ++ [(o, (ws.take many).map fun x => dropS x i)]).map pairT := by rw [List.map_append]; rfl
              rw [e2]
              refine hk _ ⟨ps ++ [(o, (ws.take many).map fun x => dropS x i)], _, _, _, _, rfl, by rw [List.length_append]; simp; omega, fun q hq => ?_, by rw [step, hcb, hq]; simp⟩
              rcases List.mem_append.mp hq with g | g
              · exact hps q g
              · rw [List.mem_singleton] at g
                subst g
                exact ⟨lo, lin⟩
    · obtain ⟨ps, o3, o4, o5, o6, rfl, _, hps, hpe⟩ := h
      have el : (rngD 0 ((w0.length : Int) + 1).toNat).length = w0.length + 1 := by unfold rngD; rw [List.length_map, List.length_range]; omega
      rw [el] at hpe
      exact ⟨ps, o3, o4, o5, o6, rfl, hps, hpe⟩
  · rintro Γ ⟨ps, o3, o4, o5, o6, rfl, hps, hpe⟩
    rw [← hpe] at q
    exact q hps
end
end C12
namespace C12
open PySem PySem.Spec PyProof.Rows L2 TL Bl Dl Pm
-- DLJ DLK
section
variable {P : Program} {w : World} {K : PySem.W.Frag} {mg : Str → Option Value} {base : Heap}
theorem fd_none {x : Str} {st : Stmt} {ps : List Str} {k n : Nat} (a : At K mg x st ps) : FD P w K mg base x k n (fun _ _ => False) := by
  obtain ⟨f, fd, F, m, b⟩ := a
  exact ⟨f, fd, ps, ⟨fun vs H Q E h => by obtain ⟨_, _, _, _, _, _, h, _⟩ := h; exact h.elim, fun A outer s H args us vs Q E hr he hb hv h => by obtain ⟨_, _, _, _, _, _, h, _⟩ := h; exact h.elim⟩, m, F.kp, b⟩
def Atom (d : PyData) : Prop := d = .none ∨ (∃ b, d = .bool b) ∨ (∃ i, d = .int i) ∨ ∃ x, d = .str x ∧ SeqAt.shaped (.str x) = true
/-- data of so many levels -/
def Nic : Nat → PyData → Prop
  | 0, d => Atom d
  | m + 1, d => Atom d ∨ ∃ xs, (d = .list xs ∨ d = .tuple xs) ∧ xs.length ≤ 100000 ∧ ∀ x ∈ xs, Nic m x
theorem nic_row {b : Nat} {ws : List Str} (h : WdsOk b ws) (hl : ws.length ≤ 100000) : Nic 1 (rowT ws) := .inr ⟨_, .inr rfl, by rw [List.length_map]; exact hl, fun x hx => by
  obtain ⟨y, hy, rfl⟩ := List.mem_map.mp hx
  exact .inr (.inr (.inr ⟨y, rfl, (nice_str (h y hy)).sh (by decide)⟩))⟩
theorem nic_none {m : Nat} : Nic m .none := by
  cases m with
  | zero => exact .inl rfl
  | succ m => exact .inl (.inl rfl)
def t_same (m : Nat) : GN := fun ds Q => ∃ d, ds = [d, d] ∧ Nic m d ∧ Q (.bool true)
theorem all_true (n : Nat) : ((List.range n).map fun _ => true).all id = true := by simp
/-- one level more, from what holds for the levels below -/
theorem d_same1 (a : At K mg "_law_same" s__law_same ["found", "due"]) (B : Names mg) {k : Nat} {t : GN} {N : PyData → Prop} (hN : ∀ d Q, N d → Q (.bool true) → t [d, d] Q) (h__law_same : FD P w K mg base "_law_same" k 2 t) :
    FD P w K mg base "_law_same" (k + 1) 2 (fun ds Q => ∃ d, ds = [d, d] ∧ (Atom d ∨ ∃ xs, (d = .list xs ∨ d = .tuple xs) ∧ xs.length ≤ 100000 ∧ ∀ x ∈ xs, N x) ∧ Q (.bool true)) := by
  obtain ⟨f, fd, F, m, b⟩ := a
  refine ⟨f, fd, _, ok_D F sc__law_same (by decide) (fun cdv A outer s H E hr => (dss_cons (ds_if (dt_val (de_isiT2 (T := "list") (U := "tuple") (by decide) (by decide) (by rfl) B.isinstance (by rfl) (by rfl) B.list B.tuple (by decide +kernel) (by decide +kernel) (de_var 1))) (dss_cons (ds_if (DW.pt (dw_or (dt_cmp (op_neDD hr.units) (de_isi (T := "list") (by decide) (by rfl) B.isinstance (by rfl) B.list (by decide +kernel) (de_var 0)) (de_isi (T := "list") (by decide) (by rfl) B.isinstance (by rfl) B.list (by decide +kernel) (de_var 1))) (dw_or1 (dt_not (dt_val (de_isiT2 (T := "list") (U := "tuple") (by decide) (by decide) (by rfl) B.isinstance (by rfl) (by rfl) B.list B.tuple (by decide +kernel) (by decide +kernel) (de_var 0))))))) (dss_one (ds_ret de_bl)) dss_nil)
      (dss_cons (ds_if (dt_cmp (op_neDD hr.units) (de_callB cr_lenD (by rfl) B.len (by decide +kernel) (da_cons (de_var 0) da_nil)) (de_callB cr_lenD (by rfl) B.len (by decide +kernel) (da_cons (de_var 1) da_nil))) (dss_one (ds_ret de_bl)) dss_nil)
      (dss_one (ds_ret (de_callB (cr_allD rfl) (by rfl) B.all (by decide +kernel) (da_cons (de_frz (dl_lc (own := [("k", 2)]) rfl sc__law_same.nd (di_range1 (by rfl) B.range (da_cons (de_callB cr_lenD (by rfl) B.len (by decide +kernel) (da_cons (de_var 1) da_nil)) da_nil)) (blkOk_by (N := ["found", "due", "k"]) (sc := defScope s__law_same) (by decide +kernel)) (fun _ _ _ _ _ => (dg_name (i := 2) sc__law_same.nd rfl (Or.inl rfl))) (fun _ _ _ _ _ => dq_nil) (fun _ _ _ _ _ => (de_fn h__law_same (hr.mono (Nat.le_refl _)) (by rfl) (fun _ => pass0) (da_cons (de_ix ix_D (de_var 0) (de_var 2)) (da_cons (de_ix ix_D (de_var 1) (de_var 2)) da_nil)))))) da_nil)))))) dss_nil)
      (dss_cons (ds_if (DW.pt (dw_or (dt_cmp op_isD (de_var 1) de_non) (dw_or1 (dt_cmp op_isD (de_var 0) de_non)))) (dss_one (ds_ret (de_and (de_cmp op_isD (de_var 1) de_non) (de_one (de_cmp op_isD (de_var 0) de_non))))) dss_nil)
      (dss_cons (ds_if (DW.pt (dw_or (dt_val (de_isi (T := "bool") (by decide) (by rfl) B.isinstance (by rfl) B.bool (by decide +kernel) (de_var 1))) (dw_or1 (dt_val (de_isi (T := "bool") (by decide) (by rfl) B.isinstance (by rfl) B.bool (by decide +kernel) (de_var 0)))))) (dss_one (ds_ret (de_and (de_isi (T := "bool") (by decide) (by rfl) B.isinstance (by rfl) B.bool (by decide +kernel) (de_var 1)) (de_and (de_isi (T := "bool") (by decide) (by rfl) B.isinstance (by rfl) B.bool (by decide +kernel) (de_var 0)) (de_one (de_cmp (op_eqDD hr.units) (de_var 0) (de_var 1))))))) dss_nil)
      (dss_one (ds_ret (de_cmp (op_eqDD hr.units) (de_var 0) (de_var 1)))))))
      ) (fun ds Q0 hl h => ?_), m, F.kp, b⟩
  obtain ⟨d, rfl, hd, q⟩ := h
  rcases hd with (rfl | ⟨b, rfl⟩ | ⟨i, rfl⟩ | ⟨x, rfl, hx⟩) | ⟨xs, rfl | rfl, hlen, hxs⟩
  · simp only [dSeq, dCut, dSet, dkE, dkL, dVar, dVarK, at', startD, dC, dOp, dCmp, dVal, dTest, dNot, dAnd, dOr, dAndV, dOrV, dNotV, dIf, dNil, dCons, dTup, dLst, dFrz, dCall, dMth, isStr, dPart0, dPart, dSl, gSlice, dStep, dRevL, dNext, dNever, dRet, dDrop, dIfS, dPar, dPar3, dAsg, dFor, dWhile, dLc, dLc2, gN, gTupD, gNc, gN0, dYes, dSq, dSeqL, dSeqT, dSeqS, dRng1, dRng2, dRng3, dEnum, dEnumT, dZip, dFn, dFnM, dFnK, own', isOwn, dMut, gApp, gExt, dSto, dIxO, dLenO, dLenS, dIxS', dFnS, scr', isScr, dRetN, dSeqN, dFnN, dFnNS, dIsi, dIsi2, dNeg, gAdd, Dl.gSub, gMul, gDiv, gMod, gPow, gEq, gNe, gLt, gLe, gGt, gGe, gIs, gIsNot, isNone, gIx, gLen, gMax, gMin, gSum, gAll, gAbs, gInt, gTuple, gList, gListS, gStrI, gRepr, gJoin, gSw, gEw, gAscii, gAlpha, gLower, List.set, List.map, List.length_cons, List.length_nil, List.cons_append, List.nil_append, List.replicate, dWipe, Nat.reduceAdd, Nat.reduceSub, dChain, gInTup, dFnMN, dkD, dInD, dNotInD, dGetD, dPutD, dic', isDic, keyQ, keyP, dLRg, dkN2, dBor, nstD, dN0, dFnNK, flatO, flatCl, dSortS, gNeS, gIn, gNotIn, gIndex, isLstD, dMthL, gDivmod, sh_non, sh_bl, sh_int, nd_non, nd_bl, nd_int, nd_str, nd_lst, nd_tup, nds_nil, nds_cons, ev_int, ev_str, ev_bl, isi_str_non, isi_str_bl, isi_str_int, isi_str_str, isi_str_lst, isi_str_tup, isi_int_non, isi_int_bl, isi_int_int, isi_int_str, isi_int_lst, isi_int_tup, isi_bool_non, isi_bool_bl, isi_bool_int, isi_bool_str, isi_bool_lst, isi_bool_tup, isi_list_non, isi_list_bl, isi_list_int, isi_list_str, isi_list_lst, isi_list_tup, isi_tuple_non, isi_tuple_bl, isi_tuple_int, isi_tuple_str, isi_tuple_lst, isi_tuple_tup, Bool.not_true, Bool.not_false, Bool.true_or, Bool.false_or, Bool.or_false, Bool.or_true, Bool.true_and, Bool.false_and, Bool.and_true, Bool.and_false, Bool.false_eq_true, if_true, if_false, true_and, and_true, eq_self_iff_true, beq_self_eq_true, atI_0, atI_1, atI_2, atI_3, atI_4, atI_5, atI_6, atI_7, atI_8, atI_9, atI_10, atI_11, atI_12, atI_13, atI_14, ixN_3_0, ixN_3_1, ixN_3_2, Option.some.injEq, exists_eq_left', Int.reduceToNat, Int.reduceNeg, rowT]
    exact q
  · simp only [dSeq, dCut, dSet, dkE, dkL, dVar, dVarK, at', startD, dC, dOp, dCmp, dVal, dTest, dNot, dAnd, dOr, dAndV, dOrV, dNotV, dIf, dNil, dCons, dTup, dLst, dFrz, dCall, dMth, isStr, dPart0, dPart, dSl, gSlice, dStep, dRevL, dNext, dNever, dRet, dDrop, dIfS, dPar, dPar3, dAsg, dFor, dWhile, dLc, dLc2, gN, gTupD, gNc, gN0, dYes, dSq, dSeqL, dSeqT, dSeqS, dRng1, dRng2, dRng3, dEnum, dEnumT, dZip, dFn, dFnM, dFnK, own', isOwn, dMut, gApp, gExt, dSto, dIxO, dLenO, dLenS, dIxS', dFnS, scr', isScr, dRetN, dSeqN, dFnN, dFnNS, dIsi, dIsi2, dNeg, gAdd, Dl.gSub, gMul, gDiv, gMod, gPow, gEq, gNe, gLt, gLe, gGt, gGe, gIs, gIsNot, isNone, gIx, gLen, gMax, gMin, gSum, gAll, gAbs, gInt, gTuple, gList, gListS, gStrI, gRepr, gJoin, gSw, gEw, gAscii, gAlpha, gLower, List.set, List.map, List.length_cons, List.length_nil, List.cons_append, List.nil_append, List.replicate, dWipe, Nat.reduceAdd, Nat.reduceSub, dChain, gInTup, dFnMN, dkD, dInD, dNotInD, dGetD, dPutD, dic', isDic, keyQ, keyP, dLRg, dkN2, dBor, nstD, dN0, dFnNK, flatO, flatCl, dSortS, gNeS, gIn, gNotIn, gIndex, isLstD, dMthL, gDivmod, sh_non, sh_bl, sh_int, nd_non, nd_bl, nd_int, nd_str, nd_lst, nd_tup, nds_nil, nds_cons, ev_int, ev_str, ev_bl, isi_str_non, isi_str_bl, isi_str_int, isi_str_str, isi_str_lst, isi_str_tup, isi_int_non, isi_int_bl, isi_int_int, isi_int_str, isi_int_lst, isi_int_tup, isi_bool_non, isi_bool_bl, isi_bool_int, isi_bool_str, isi_bool_lst, isi_bool_tup, isi_list_non, isi_list_bl, isi_list_int, isi_list_str, isi_list_lst, isi_list_tup, isi_tuple_non, isi_tuple_bl, isi_tuple_int, isi_tuple_str, isi_tuple_lst, isi_tuple_tup, Bool.not_true, Bool.not_false, Bool.true_or, Bool.false_or, Bool.or_false, Bool.or_true, Bool.true_and, Bool.false_and, Bool.and_true, Bool.and_false, Bool.false_eq_true, if_true, if_false, true_and, and_true, eq_self_iff_true, beq_self_eq_true, atI_0, atI_1, atI_2, atI_3, atI_4, atI_5, atI_6, atI_7, atI_8, atI_9, atI_10, atI_11, atI_12, atI_13, atI_14, ixN_3_0, ixN_3_1, ixN_3_2, Option.some.injEq, exists_eq_left', Int.reduceToNat, Int.reduceNeg, rowT]
    exact q
  · simp only [dSeq, dCut, dSet, dkE, dkL, dVar, dVarK, at', startD, dC, dOp, dCmp, dVal, dTest, dNot, dAnd, dOr, dAndV, dOrV, dNotV, dIf, dNil, dCons, dTup, dLst, dFrz, dCall, dMth, isStr, dPart0, dPart, dSl, gSlice, dStep, dRevL, dNext, dNever, dRet, dDrop, dIfS, dPar, dPar3, dAsg, dFor, dWhile, dLc, dLc2, gN, gTupD, gNc, gN0, dYes, dSq, dSeqL, dSeqT, dSeqS, dRng1, dRng2, dRng3, dEnum, dEnumT, dZip, dFn, dFnM, dFnK, own', isOwn, dMut, gApp, gExt, dSto, dIxO, dLenO, dLenS, dIxS', dFnS, scr', isScr, dRetN, dSeqN, dFnN, dFnNS, dIsi, dIsi2, dNeg, gAdd, Dl.gSub, gMul, gDiv, gMod, gPow, gEq, gNe, gLt, gLe, gGt, gGe, gIs, gIsNot, isNone, gIx, gLen, gMax, gMin, gSum, gAll, gAbs, gInt, gTuple, gList, gListS, gStrI, gRepr, gJoin, gSw, gEw, gAscii, gAlpha, gLower, List.set, List.map, List.length_cons, List.length_nil, List.cons_append, List.nil_append, List.replicate, dWipe, Nat.reduceAdd, Nat.reduceSub, dChain, gInTup, dFnMN, dkD, dInD, dNotInD, dGetD, dPutD, dic', isDic, keyQ, keyP, dLRg, dkN2, dBor, nstD, dN0, dFnNK, flatO, flatCl, dSortS, gNeS, gIn, gNotIn, gIndex, isLstD, dMthL, gDivmod, sh_non, sh_bl, sh_int, nd_non, nd_bl, nd_int, nd_str, nd_lst, nd_tup, nds_nil, nds_cons, ev_int, ev_str, ev_bl, isi_str_non, isi_str_bl, isi_str_int, isi_str_str, isi_str_lst, isi_str_tup, isi_int_non, isi_int_bl, isi_int_int, isi_int_str, isi_int_lst, isi_int_tup, isi_bool_non, isi_bool_bl, isi_bool_int, isi_bool_str, isi_bool_lst, isi_bool_tup, isi_list_non, isi_list_bl, isi_list_int, isi_list_str, isi_list_lst, isi_list_tup, isi_tuple_non, isi_tuple_bl, isi_tuple_int, isi_tuple_str, isi_tuple_lst, isi_tuple_tup, Bool.not_true, Bool.not_false, Bool.true_or, Bool.false_or, Bool.or_false, Bool.or_true, Bool.true_and, Bool.false_and, Bool.and_true, Bool.and_false, Bool.false_eq_true, if_true, if_false, true_and, and_true, eq_self_iff_true, beq_self_eq_true, atI_0, atI_1, atI_2, atI_3, atI_4, atI_5, atI_6, atI_7, atI_8, atI_9, atI_10, atI_11, atI_12, atI_13, atI_14, ixN_3_0, ixN_3_1, ixN_3_2, Option.some.injEq, exists_eq_left', Int.reduceToNat, Int.reduceNeg, rowT]
    exact q
  · simp only [dSeq, dCut, dSet, dkE, dkL, dVar, dVarK, at', startD, dC, dOp, dCmp, dVal, dTest, dNot, dAnd, dOr, dAndV, dOrV, dNotV, dIf, dNil, dCons, dTup, dLst, dFrz, dCall, dMth, isStr, dPart0, dPart, dSl, gSlice, dStep, dRevL, dNext, dNever, dRet, dDrop, dIfS, dPar, dPar3, dAsg, dFor, dWhile, dLc, dLc2, gN, gTupD, gNc, gN0, dYes, dSq, dSeqL, dSeqT, dSeqS, dRng1, dRng2, dRng3, dEnum, dEnumT, dZip, dFn, dFnM, dFnK, own', isOwn, dMut, gApp, gExt, dSto, dIxO, dLenO, dLenS, dIxS', dFnS, scr', isScr, dRetN, dSeqN, dFnN, dFnNS, dIsi, dIsi2, dNeg, gAdd, Dl.gSub, gMul, gDiv, gMod, gPow, gEq, gNe, gLt, gLe, gGt, gGe, gIs, gIsNot, isNone, gIx, gLen, gMax, gMin, gSum, gAll, gAbs, gInt, gTuple, gList, gListS, gStrI, gRepr, gJoin, gSw, gEw, gAscii, gAlpha, gLower, List.set, List.map, List.length_cons, List.length_nil, List.cons_append, List.nil_append, List.replicate, dWipe, Nat.reduceAdd, Nat.reduceSub, dChain, gInTup, dFnMN, dkD, dInD, dNotInD, dGetD, dPutD, dic', isDic, keyQ, keyP, dLRg, dkN2, dBor, nstD, dN0, dFnNK, flatO, flatCl, dSortS, gNeS, gIn, gNotIn, gIndex, isLstD, dMthL, gDivmod, sh_non, sh_bl, sh_int, nd_non, nd_bl, nd_int, nd_str, nd_lst, nd_tup, nds_nil, nds_cons, ev_int, ev_str, ev_bl, isi_str_non, isi_str_bl, isi_str_int, isi_str_str, isi_str_lst, isi_str_tup, isi_int_non, isi_int_bl, isi_int_int, isi_int_str, isi_int_lst, isi_int_tup, isi_bool_non, isi_bool_bl, isi_bool_int, isi_bool_str, isi_bool_lst, isi_bool_tup, isi_list_non, isi_list_bl, isi_list_int, isi_list_str, isi_list_lst, isi_list_tup, isi_tuple_non, isi_tuple_bl, isi_tuple_int, isi_tuple_str, isi_tuple_lst, isi_tuple_tup, Bool.not_true, Bool.not_false, Bool.true_or, Bool.false_or, Bool.or_false, Bool.or_true, Bool.true_and, Bool.false_and, Bool.and_true, Bool.and_false, Bool.false_eq_true, if_true, if_false, true_and, and_true, eq_self_iff_true, beq_self_eq_true, atI_0, atI_1, atI_2, atI_3, atI_4, atI_5, atI_6, atI_7, atI_8, atI_9, atI_10, atI_11, atI_12, atI_13, atI_14, ixN_3_0, ixN_3_1, ixN_3_2, Option.some.injEq, exists_eq_left', Int.reduceToNat, Int.reduceNeg, rowT]
    exact ⟨⟨hx, hx⟩, q⟩
  · simp only [dSeq, dCut, dSet, dkE, dkL, dVar, dVarK, at', startD, dC, dOp, dCmp, dVal, dTest, dNot, dAnd, dOr, dAndV, dOrV, dNotV, dIf, dNil, dCons, dTup, dLst, dFrz, dCall, dMth, isStr, dPart0, dPart, dSl, gSlice, dStep, dRevL, dNext, dNever, dRet, dDrop, dIfS, dPar, dPar3, dAsg, dFor, dWhile, dLc, dLc2, gN, gTupD, gNc, gN0, dYes, dSq, dSeqL, dSeqT, dSeqS, dRng1, dRng2, dRng3, dEnum, dEnumT, dZip, dFn, dFnM, dFnK, own', isOwn, dMut, gApp, gExt, dSto, dIxO, dLenO, dLenS, dIxS', dFnS, scr', isScr, dRetN, dSeqN, dFnN, dFnNS, dIsi, dIsi2, dNeg, gAdd, Dl.gSub, gMul, gDiv, gMod, gPow, gEq, gNe, gLt, gLe, gGt, gGe, gIs, gIsNot, isNone, gIx, gLen, gMax, gMin, gSum, gAll, gAbs, gInt, gTuple, gList, gListS, gStrI, gRepr, gJoin, gSw, gEw, gAscii, gAlpha, gLower, List.set, List.map, List.length_cons, List.length_nil, List.cons_append, List.nil_append, List.replicate, dWipe, Nat.reduceAdd, Nat.reduceSub, dChain, gInTup, dFnMN, dkD, dInD, dNotInD, dGetD, dPutD, dic', isDic, keyQ, keyP, dLRg, dkN2, dBor, nstD, dN0, dFnNK, flatO, flatCl, dSortS, gNeS, gIn, gNotIn, gIndex, isLstD, dMthL, gDivmod, sh_non, sh_bl, sh_int, nd_non, nd_bl, nd_int, nd_str, nd_lst, nd_tup, nds_nil, nds_cons, ev_int, ev_str, ev_bl, isi_str_non, isi_str_bl, isi_str_int, isi_str_str, isi_str_lst, isi_str_tup, isi_int_non, isi_int_bl, isi_int_int, isi_int_str, isi_int_lst, isi_int_tup, isi_bool_non, isi_bool_bl, isi_bool_int, isi_bool_str, isi_bool_lst, isi_bool_tup, isi_list_non, isi_list_bl, isi_list_int, isi_list_str, isi_list_lst, isi_list_tup, isi_tuple_non, isi_tuple_bl, isi_tuple_int, isi_tuple_str, isi_tuple_lst, isi_tuple_tup, Bool.not_true, Bool.not_false, Bool.true_or, Bool.false_or, Bool.or_false, Bool.or_true, Bool.true_and, Bool.false_and, Bool.and_true, Bool.and_false, Bool.false_eq_true, if_true, if_false, true_and, and_true, eq_self_iff_true, beq_self_eq_true, atI_0, atI_1, atI_2, atI_3, atI_4, atI_5, atI_6, atI_7, atI_8, atI_9, atI_10, atI_11, atI_12, atI_13, atI_14, ixN_3_0, ixN_3_1, ixN_3_2, Option.some.injEq, exists_eq_left', Int.reduceToNat, Int.reduceNeg, rowT]
    refine ⟨⟨by omega, by omega⟩, ?_⟩
    rw [Int.toNat_natCast, rng_nat]
    refine lc_map (fun i : Nat => PyData.int (0 + (i : Int))) (fun _ => .bool true) rfl (sl_le (by rw [List.length_range]; omega)) (fun i hi K hk => ?_) ⟨(List.range xs.length).map fun _ => true, by rw [List.map_map]; rfl, ?_⟩
    · rw [List.mem_range] at hi
      have hx : atI xs (0 + (i : Int)) = some xs[i] := by
        rw [Int.zero_add]
        exact atI_nat (List.getElem?_eq_getElem hi)
      simp only [hx, dSeq, dCut, dSet, dkE, dkL, dVar, dVarK, at', startD, dC, dOp, dCmp, dVal, dTest, dNot, dAnd, dOr, dAndV, dOrV, dNotV, dIf, dNil, dCons, dTup, dLst, dFrz, dCall, dMth, isStr, dPart0, dPart, dSl, gSlice, dStep, dRevL, dNext, dNever, dRet, dDrop, dIfS, dPar, dPar3, dAsg, dFor, dWhile, dLc, dLc2, gN, gTupD, gNc, gN0, dYes, dSq, dSeqL, dSeqT, dSeqS, dRng1, dRng2, dRng3, dEnum, dEnumT, dZip, dFn, dFnM, dFnK, own', isOwn, dMut, gApp, gExt, dSto, dIxO, dLenO, dLenS, dIxS', dFnS, scr', isScr, dRetN, dSeqN, dFnN, dFnNS, dIsi, dIsi2, dNeg, gAdd, Dl.gSub, gMul, gDiv, gMod, gPow, gEq, gNe, gLt, gLe, gGt, gGe, gIs, gIsNot, isNone, gIx, gLen, gMax, gMin, gSum, gAll, gAbs, gInt, gTuple, gList, gListS, gStrI, gRepr, gJoin, gSw, gEw, gAscii, gAlpha, gLower, List.set, List.map, List.length_cons, List.length_nil, List.cons_append, List.nil_append, List.replicate, dWipe, Nat.reduceAdd, Nat.reduceSub, dChain, gInTup, dFnMN, dkD, dInD, dNotInD, dGetD, dPutD, dic', isDic, keyQ, keyP, dLRg, dkN2, dBor, nstD, dN0, dFnNK, flatO, flatCl, dSortS, gNeS, gIn, gNotIn, gIndex, isLstD, dMthL, gDivmod, sh_non, sh_bl, sh_int, nd_non, nd_bl, nd_int, nd_str, nd_lst, nd_tup, nds_nil, nds_cons, ev_int, ev_str, ev_bl, isi_str_non, isi_str_bl, isi_str_int, isi_str_str, isi_str_lst, isi_str_tup, isi_int_non, isi_int_bl, isi_int_int, isi_int_str, isi_int_lst, isi_int_tup, isi_bool_non, isi_bool_bl, isi_bool_int, isi_bool_str, isi_bool_lst, isi_bool_tup, isi_list_non, isi_list_bl, isi_list_int, isi_list_str, isi_list_lst, isi_list_tup, isi_tuple_non, isi_tuple_bl, isi_tuple_int, isi_tuple_str, isi_tuple_lst, isi_tuple_tup, Bool.not_true, Bool.not_false, Bool.true_or, Bool.false_or, Bool.or_false, Bool.or_true, Bool.true_and, Bool.false_and, Bool.and_true, Bool.and_false, Bool.false_eq_true, if_true, if_false, true_and, and_true, eq_self_iff_true, beq_self_eq_true, atI_0, atI_1, atI_2, atI_3, atI_4, atI_5, atI_6, atI_7, atI_8, atI_9, atI_10, atI_11, atI_12, atI_13, atI_14, ixN_3_0, ixN_3_1, ixN_3_2, Option.some.injEq, exists_eq_left', Int.reduceToNat, Int.reduceNeg, rowT]
      exact hN _ _ (hxs _ (List.getElem_mem hi)) (hk _ rfl)
    · rw [all_true]
      exact q
  · simp only [dSeq, dCut, dSet, dkE, dkL, dVar, dVarK, at', startD, dC, dOp, dCmp, dVal, dTest, dNot, dAnd, dOr, dAndV, dOrV, dNotV, dIf, dNil, dCons, dTup, dLst, dFrz, dCall, dMth, isStr, dPart0, dPart, dSl, gSlice, dStep, dRevL, dNext, dNever, dRet, dDrop, dIfS, dPar, dPar3, dAsg, dFor, dWhile, dLc, dLc2, gN, gTupD, gNc, gN0, dYes, dSq, dSeqL, dSeqT, dSeqS, dRng1, dRng2, dRng3, dEnum, dEnumT, dZip, dFn, dFnM, dFnK, own', isOwn, dMut, gApp, gExt, dSto, dIxO, dLenO, dLenS, dIxS', dFnS, scr', isScr, dRetN, dSeqN, dFnN, dFnNS, dIsi, dIsi2, dNeg, gAdd, Dl.gSub, gMul, gDiv, gMod, gPow, gEq, gNe, gLt, gLe, gGt, gGe, gIs, gIsNot, isNone, gIx, gLen, gMax, gMin, gSum, gAll, gAbs, gInt, gTuple, gList, gListS, gStrI, gRepr, gJoin, gSw, gEw, gAscii, gAlpha, gLower, List.set, List.map, List.length_cons, List.length_nil, List.cons_append, List.nil_append, List.replicate, dWipe, Nat.reduceAdd, Nat.reduceSub, dChain, gInTup, dFnMN, dkD, dInD, dNotInD, dGetD, dPutD, dic', isDic, keyQ, keyP, dLRg, dkN2, dBor, nstD, dN0, dFnNK, flatO, flatCl, dSortS, gNeS, gIn, gNotIn, gIndex, isLstD, dMthL, gDivmod, sh_non, sh_bl, sh_int, nd_non, nd_bl, nd_int, nd_str, nd_lst, nd_tup, nds_nil, nds_cons, ev_int, ev_str, ev_bl, isi_str_non, isi_str_bl, isi_str_int, isi_str_str, isi_str_lst, isi_str_tup, isi_int_non, isi_int_bl, isi_int_int, isi_int_str, isi_int_lst, isi_int_tup, isi_bool_non, isi_bool_bl, isi_bool_int, isi_bool_str, isi_bool_lst, isi_bool_tup, isi_list_non, isi_list_bl, isi_list_int, isi_list_str, isi_list_lst, isi_list_tup, isi_tuple_non, isi_tuple_bl, isi_tuple_int, isi_tuple_str, isi_tuple_lst, isi_tuple_tup, Bool.not_true, Bool.not_false, Bool.true_or, Bool.false_or, Bool.or_false, Bool.or_true, Bool.true_and, Bool.false_and, Bool.and_true, Bool.and_false, Bool.false_eq_true, if_true, if_false, true_and, and_true, eq_self_iff_true, beq_self_eq_true, atI_0, atI_1, atI_2, atI_3, atI_4, atI_5, atI_6, atI_7, atI_8, atI_9, atI_10, atI_11, atI_12, atI_13, atI_14, ixN_3_0, ixN_3_1, ixN_3_2, Option.some.injEq, exists_eq_left', Int.reduceToNat, Int.reduceNeg, rowT]
    refine ⟨⟨by omega, by omega⟩, ?_⟩
    rw [Int.toNat_natCast, rng_nat]
    refine lc_map (fun i : Nat => PyData.int (0 + (i : Int))) (fun _ => .bool true) rfl (sl_le (by rw [List.length_range]; omega)) (fun i hi K hk => ?_) ⟨(List.range xs.length).map fun _ => true, by rw [List.map_map]; rfl, ?_⟩
    · rw [List.mem_range] at hi
      have hx : atI xs (0 + (i : Int)) = some xs[i] := by
        rw [Int.zero_add]
        exact atI_nat (List.getElem?_eq_getElem hi)
      simp only [hx, dSeq, dCut, dSet, dkE, dkL, dVar, dVarK, at', startD, dC, dOp, dCmp, dVal, dTest, dNot, dAnd, dOr, dAndV, dOrV, dNotV, dIf, dNil, dCons, dTup, dLst, dFrz, dCall, dMth, isStr, dPart0, dPart, dSl, gSlice, dStep, dRevL, dNext, dNever, dRet, dDrop, dIfS, dPar, dPar3, dAsg, dFor, dWhile, dLc, dLc2, gN, gTupD, gNc, gN0, dYes, dSq, dSeqL, dSeqT, dSeqS, dRng1, dRng2, dRng3, dEnum, dEnumT, dZip, dFn, dFnM, dFnK, own', isOwn, dMut, gApp, gExt, dSto, dIxO, dLenO, dLenS, dIxS', dFnS, scr', isScr, dRetN, dSeqN, dFnN, dFnNS, dIsi, dIsi2, dNeg, gAdd, Dl.gSub, gMul, gDiv, gMod, gPow, gEq, gNe, gLt, gLe, gGt, gGe, gIs, gIsNot, isNone, gIx, gLen, gMax, gMin, gSum, gAll, gAbs, gInt, gTuple, gList, gListS, gStrI, gRepr, gJoin, gSw, gEw, gAscii, gAlpha, gLower, List.set, List.map, List.length_cons, List.length_nil, List.cons_append, List.nil_append, List.replicate, dWipe, Nat.reduceAdd, Nat.reduceSub, dChain, gInTup, dFnMN, dkD, dInD, dNotInD, dGetD, dPutD, dic', isDic, keyQ, keyP, dLRg, dkN2, dBor, nstD, dN0, dFnNK, flatO, flatCl, dSortS, gNeS, gIn, gNotIn, gIndex, isLstD, dMthL, gDivmod, sh_non, sh_bl, sh_int, nd_non, nd_bl, nd_int, nd_str, nd_lst, nd_tup, nds_nil, nds_cons, ev_int, ev_str, ev_bl, isi_str_non, isi_str_bl, isi_str_int, isi_str_str, isi_str_lst, isi_str_tup, isi_int_non, isi_int_bl, isi_int_int, isi_int_str, isi_int_lst, isi_int_tup, isi_bool_non, isi_bool_bl, isi_bool_int, isi_bool_str, isi_bool_lst, isi_bool_tup, isi_list_non, isi_list_bl, isi_list_int, isi_list_str, isi_list_lst, isi_list_tup, isi_tuple_non, isi_tuple_bl, isi_tuple_int, isi_tuple_str, isi_tuple_lst, isi_tuple_tup, Bool.not_true, Bool.not_false, Bool.true_or, Bool.false_or, Bool.or_false, Bool.or_true, Bool.true_and, Bool.false_and, Bool.and_true, Bool.and_false, Bool.false_eq_true, if_true, if_false, true_and, and_true, eq_self_iff_true, beq_self_eq_true, atI_0, atI_1, atI_2, atI_3, atI_4, atI_5, atI_6, atI_7, atI_8, atI_9, atI_10, atI_11, atI_12, atI_13, atI_14, ixN_3_0, ixN_3_1, ixN_3_2, Option.some.injEq, exists_eq_left', Int.reduceToNat, Int.reduceNeg, rowT]
      exact hN _ _ (hxs _ (List.getElem_mem hi)) (hk _ rfl)
    · rw [all_true]
      exact q
/-- the same data, of at most so many levels -/
theorem d_same (a : At K mg "_law_same" s__law_same ["found", "due"]) (B : Names mg) : ∀ m : Nat, FD P w K mg base "_law_same" (m + 1) 2 (t_same m)
  | 0 => by
    obtain ⟨f, fd, ps, O, m, kp, b⟩ := (d_same1 (P := P) (w := w) (base := base) (t := fun _ _ => False) (N := fun _ => False) a B (fun _ _ h _ => h) (fd_none (k := 0) (n := 2) a)).ex
    refine ⟨f, fd, ps, O.imp fun vs H Q E h => ?_, m, kp, b⟩
    obtain ⟨h1, Hf, ds, Q0, h2, h3, ⟨d, e, hd, q⟩, h5⟩ := h
    exact ⟨h1, Hf, ds, Q0, h2, h3, ⟨d, e, .inl hd, q⟩, h5⟩
  | m + 1 => d_same1 (t := t_same m) (N := Nic m) a B (fun d Q h q => ⟨d, rfl, h, q⟩) (d_same a B m)
end
end C12
namespace C12
open PySem PySem.Spec PyProof.Rows L2 TL Bl Dl Pm
-- DLJ DLK
section
variable {P : Program} {w : World} {K : PySem.W.Frag} {mg : Str → Option Value} {base : Heap}
theorem az_cut : ∀ a : Nat, a < 27 → ∀ c : Nat, c < 5 → a + c ≤ 26 → (cutS "abcdefghijklmnopqrstuvwxyz" (some (a : Int)) (some ((a : Int) + (c : Int)))).cps.toList = (List.range c).map (fun i => 97 + a + i) ∧ (cutS "abcdefghijklmnopqrstuvwxyz" (some (a : Int)) (some ((a : Int) + (c : Int)))).length ≤ 100 := by decide +kernel
/-- words of ascending letters -/
def Asc (b : Nat) (x : Str) : Prop := (tl x).Pairwise (· < ·) ∧ ∀ c ∈ tl x, c < 97 + b
structure BigF (b : Nat) (rs : List (List Str)) : Prop where
  row : ∀ r ∈ rs, (1 ≤ r.length ∧ r.length ≤ 4) ∧ WdsOk 1 r
  asc : ∀ x ∈ prodW rs, Asc b x
def lettersOf (a c : Nat) : List Str := (List.range c).map fun i => ⟨#[97 + a + i]⟩
theorem big_more {b c : Nat} {rs : List (List Str)} (h : BigF b rs) (hc : 1 ≤ c) (hc4 : c ≤ 4) (hb : b + c ≤ 26) : BigF (b + c) (rs ++ [lettersOf b c]) := by
  refine ⟨fun r hr => ?_, fun x hx => ?_⟩
  · rcases List.mem_append.mp hr with g | g
    · exact h.row r g
    · rw [List.mem_singleton] at g
      subst g
      refine ⟨⟨by unfold lettersOf; rw [List.length_map, List.length_range]; exact hc, by unfold lettersOf; rw [List.length_map, List.length_range]; exact hc4⟩, fun y hy => ?_⟩
      unfold lettersOf at hy
      obtain ⟨i, hi, rfl⟩ := List.mem_map.mp hy
      rw [List.mem_range] at hi
      exact ⟨lets_ch ⟨by omega, by omega⟩, Nat.le_refl 1⟩
  · rw [prodW_snoc] at hx
    unfold addRow at hx
    obtain ⟨y, hy, hx⟩ := List.mem_flatMap.mp hx
    obtain ⟨z, hz, rfl⟩ := List.mem_map.mp hx
    unfold lettersOf at hz
    obtain ⟨i, hi, rfl⟩ := List.mem_map.mp hz
    rw [List.mem_range] at hi
    obtain ⟨a1, a2⟩ := h.asc y hy
    unfold Asc
    rw [tl_append]
    have e : tl (⟨#[97 + b + i]⟩ : Str) = [97 + b + i] := rfl
    rw [e]
    refine ⟨List.pairwise_append.mpr ⟨a1, List.pairwise_singleton _ _, fun u hu v hv => ?_⟩, fun u hu => ?_⟩
    · rw [List.mem_singleton] at hv
      subst hv
      have := a2 u hu
      omega
    · rcases List.mem_append.mp hu with g | g
      · have := a2 u g
        omega
      · rw [List.mem_singleton] at g
        subst g
        omega
theorem tl_nil : tl ("" : Str) = [] := by decide +kernel
theorem big_nil : BigF 0 [] := ⟨fun r hr => (List.not_mem_nil hr).elim, fun x hx => by
  have : x = "" := by simpa [prodW] using hx
  subst this
  unfold Asc
  rw [tl_nil]
  exact ⟨List.Pairwise.nil, fun c hc => (List.not_mem_nil hc).elim⟩⟩
/-- the first three factors always find room -/
def Jn (i c b : Nat) : Prop := (i ≤ 3 → 2 ^ i ≤ c ∧ c ≤ 4 ^ i ∧ b ≤ 4 * i) ∧ (3 ≤ i → 8 ≤ c)
theorem jn_more {i c b k : Nat} (h : Jn i c b) (h2 : 2 ≤ k) (h4 : k ≤ 4) : Jn (i + 1) (c * k) (b + k) := by
  obtain ⟨x, y⟩ := h
  refine ⟨fun hi => ?_, fun hi => ?_⟩
  · obtain ⟨x1, x2, x3⟩ := x (by omega)
    rw [Nat.pow_succ, Nat.pow_succ]
    exact ⟨Nat.mul_le_mul x1 h2, Nat.mul_le_mul x2 h4, by omega⟩
  · by_cases c3 : 3 ≤ i
    · exact Nat.le_trans (y c3) (Nat.le_mul_of_pos_right _ (by omega))
    · have : i = 2 := by omega
      subst this
      obtain ⟨x1, _⟩ := x (by decide)
      exact Nat.le_trans (show 8 ≤ 2 ^ 2 * 2 from by decide) (Nat.mul_le_mul x1 h2)
theorem jn_skip {i c b k : Nat} (h : Jn i c b) (h4 : k ≤ 4) (n : ¬ (c * k ≤ 2000 ∧ b + k ≤ 26)) : Jn (i + 1) c b := by
  obtain ⟨x, y⟩ := h
  have i3 : 3 ≤ i := by
    refine Classical.byContradiction fun z => n ?_
    obtain ⟨x1, x2, x3⟩ := x (by omega)
    have : 4 ^ i ≤ 4 ^ 2 := Nat.pow_le_pow_right (by decide) (by omega)
    exact ⟨Nat.le_trans (Nat.mul_le_mul (Nat.le_trans x2 this) h4) (by decide), by omega⟩
  exact ⟨fun hi => absurd hi (by omega), fun _ => y i3⟩
theorem letters_at {a c i : Nat} (h : i < c) : (lettersOf a c).getD i "" = ⟨#[97 + a + i]⟩ := by
  unfold lettersOf
  rw [List.getD_eq_getElem?_getD, List.getElem?_map, List.getElem?_range h]
  rfl
theorem letr_nil : LetR [] := ⟨fun r hr => (List.not_mem_nil hr).elim, fun r hr => (List.not_mem_nil hr).elim, fun r hr => (List.not_mem_nil hr).elim⟩
theorem letr_more {b c : Nat} {rs : List (List Str)} (h : LetR rs) (hc : 2 ≤ c) : LetR (rs ++ [lettersOf b c]) := by
  have ll : (lettersOf b c).length = c := by unfold lettersOf; rw [List.length_map, List.length_range]
  refine ⟨fun r hr => ?_, fun r hr => ?_, fun r hr => ?_⟩ <;> rcases List.mem_append.mp hr with g | g
  · exact h.two r g
  · rw [List.mem_singleton] at g
    rw [g, ll]
    exact hc
  · exact h.one r g
  · rw [List.mem_singleton] at g
    subst g
    intro x hx
    unfold lettersOf at hx
    obtain ⟨i, _, rfl⟩ := List.mem_map.mp hx
    rfl
  · exact h.dif r g
  · rw [List.mem_singleton] at g
    subst g
    intro i j hi hj e
    rw [ll] at hi hj
    rw [letters_at hi, letters_at hj] at e
    have e := congrArg tl e
    have e : [97 + b + i] = [97 + b + j] := e
    have := (List.cons.inj e).1
    omega
def t_big : GNM := fun ys ds Q => ∃ n : Nat, BagOk n ys ∧ n ≤ 10 ^ 5 ∧ ds = [] ∧ ∀ (b : Nat) (rs : List (List Str)) ys', 1 ≤ rs.length → rs.length ≤ 11 → BigF b rs → Bl.cnt rs ≤ 2000 → 8 ≤ Bl.cnt rs ∧ LetR rs → BagOk (n + 30) ys' → Q (.list (rs.map rowT)) ys'
theorem d_big (a : At K mg "_law_big" s__law_big ["bag"]) (B : Names mg) (h__law_take : FM P w K mg base "_law_take" 1 2 t_take) : FM P w K mg base "_law_big" 2 1 t_big := by
  obtain ⟨f, fd, F, m, b⟩ := a
  refine ⟨f, fd, _, ok_M F sc__law_big (by decide) (fun cdv A outer s H E hr => (dss_cons (ds_par3 (i := 1) (j := 2) (l := 3) rfl sc__law_big.nd rfl rfl rfl (by decide) (by decide) (by decide) rfl rfl rfl (dk_l (dl_lst da_nil)) (dk_e de_int) (dk_e de_int) (by rfl))
      (dss_cut (ds_for PassesOwn.never rfl (di_range1 (by rfl) B.range (da_cons de_int da_nil)) (dg_name (i := 4) sc__law_big.nd rfl (Or.inl rfl)) (dss_cons (ds_set (i := 5) sc__law_big.nd rfl (Or.inl rfl) (dk_e (de_ix ix_D (de_frz (dl_lst (da_cons de_int (da_cons (de_op op_addD de_int (de_fnM 0 h__law_take (hr.mono (by decide)) (by rfl) (fun _ => pass0) (da_cons de_int da_nil))) da_nil)))) (de_fnM 0 h__law_take (hr.mono (by decide)) (by rfl) (fun _ => pass0) (da_cons de_int da_nil)))))
      (dss_one (ds_if (DW.pt (dw_and (dt_cmp op_leD (de_op op_mulD (de_var 2) (de_var 5)) de_int) (dw_and1 (dt_cmp op_leD (de_op op_addD (de_var 3) (de_var 5)) de_int)))) (dss_cons (ds_mut 1 PySem.F.slot_list_append PySem.F.type_list_append mt_appD (da_cons (de_callTy cr_tupleD (by rfl) B.tuple (by decide +kernel) (da_cons (de_callTy (cr_listSD rfl) (by rfl) B.list (by decide +kernel) (da_cons (de_slice de_str (do_some (de_var 3)) (do_some (de_op op_addD (de_var 3) (de_var 5)))) da_nil)) da_nil)) da_nil))
      (dss_one (ds_par (i := 2) (j := 3) rfl sc__law_big.nd rfl rfl (by decide) rfl rfl (dk_e (de_op op_mulD (de_var 2) (de_var 5))) (dk_e (de_op op_addD (de_var 3) (de_var 5))) (by rfl)))) dss_nil))))
      (dss_one (ds_ret (de_var 1)))))
      ) (fun p ys ds Q0 hl h => ?_), m, F.kp, b⟩
  obtain ⟨n, hb, hn, rfl, q⟩ := h
  simp only [dSeq, dSet, dkE, dkL, dVar, dVarK, at', startD, dC, dOp, dCmp, dVal, dTest, dNot, dAnd, dOr, dAndV, dOrV, dNotV, dIf, dNil, dCons, dTup, dLst, dFrz, dCall, dMth, isStr, dPart0, dPart, dSl, gSlice, dStep, dRevL, dNext, dNever, dRet, dDrop, dIfS, dPar, dPar3, dAsg, dFor, dWhile, dLc, dLc2, gN, gTupD, gNc, gN0, dYes, dSq, dSeqL, dSeqT, dSeqS, dRng1, dRng2, dRng3, dEnum, dEnumT, dZip, dFn, dFnM, dFnK, own', isOwn, dMut, gApp, gExt, dSto, dIxO, dLenO, dLenS, dIxS', dFnS, scr', isScr, dRetN, dSeqN, dFnN, dFnNS, dIsi, dIsi2, dNeg, gAdd, Dl.gSub, gMul, gDiv, gMod, gPow, gEq, gNe, gLt, gLe, gGt, gGe, gIs, gIsNot, isNone, gIx, gLen, gMax, gMin, gSum, gAll, gAbs, gInt, gTuple, gList, gListS, gStrI, gRepr, gJoin, gSw, gEw, gAscii, gAlpha, gLower, List.set, List.map, List.length_cons, List.length_nil, List.cons_append, List.nil_append, List.replicate, dWipe, Nat.reduceAdd, Nat.reduceSub, dChain, gInTup, dFnMN, dkD, dInD, dNotInD, dGetD, dPutD, dic', isDic, keyQ, keyP, dLRg, dkN2, dBor, nstD, dN0, dFnNK, flatO, flatCl, dSortS, gNeS, gIn, gNotIn, gIndex, isLstD, dMthL, gDivmod, sh_non, sh_bl, sh_int, nd_non, nd_bl, nd_int, nd_str, nd_lst, nd_tup, nds_nil, nds_cons, ev_int, ev_str, ev_bl, isi_str_non, isi_str_bl, isi_str_int, isi_str_str, isi_str_lst, isi_str_tup, isi_int_non, isi_int_bl, isi_int_int, isi_int_str, isi_int_lst, isi_int_tup, isi_bool_non, isi_bool_bl, isi_bool_int, isi_bool_str, isi_bool_lst, isi_bool_tup, isi_list_non, isi_list_bl, isi_list_int, isi_list_str, isi_list_lst, isi_list_tup, isi_tuple_non, isi_tuple_bl, isi_tuple_int, isi_tuple_str, isi_tuple_lst, isi_tuple_tup, Bool.not_true, Bool.not_false, Bool.true_or, Bool.false_or, Bool.or_false, Bool.or_true, Bool.true_and, Bool.false_and, Bool.and_true, Bool.and_false, Bool.false_eq_true, if_true, if_false, true_and, and_true, eq_self_iff_true, beq_self_eq_true, atI_0, atI_1, atI_2, atI_3, atI_4, atI_5, atI_6, atI_7, atI_8, atI_9, atI_10, atI_11, atI_12, atI_13, atI_14, ixN_3_0, ixN_3_1, ixN_3_2, Option.some.injEq, exists_eq_left', Int.reduceToNat, Int.reduceNeg, rowT]
  refine ⟨by decide +kernel, fun p1 => ?_⟩
  refine dCut_open (fun Γ => ∃ b rs ys' o4 o5, Γ = [some (.own p ys'), some (.own p1 (rs.map rowT)), some (.d (.int (Bl.cnt rs : Nat))), some (.d (.int (b : Nat))), o4, o5] ∧ 1 ≤ rs.length ∧ rs.length ≤ 11 ∧ BigF b rs ∧ Bl.cnt rs ≤ 2000 ∧ (8 ≤ Bl.cnt rs ∧ LetR rs) ∧ b ≤ 26 ∧ BagOk (n + 30) ys') ?_ ?_
  · simp only [dSeq, dSet, dkE, dkL, dVar, dVarK, at', startD, dC, dOp, dCmp, dVal, dTest, dNot, dAnd, dOr, dAndV, dOrV, dNotV, dIf, dNil, dCons, dTup, dLst, dFrz, dCall, dMth, isStr, dPart0, dPart, dSl, gSlice, dStep, dRevL, dNext, dNever, dRet, dDrop, dIfS, dPar, dPar3, dAsg, dFor, dWhile, dLc, dLc2, gN, gTupD, gNc, gN0, dYes, dSq, dSeqL, dSeqT, dSeqS, dRng1, dRng2, dRng3, dEnum, dEnumT, dZip, dFn, dFnM, dFnK, own', isOwn, dMut, gApp, gExt, dSto, dIxO, dLenO, dLenS, dIxS', dFnS, scr', isScr, dRetN, dSeqN, dFnN, dFnNS, dIsi, dIsi2, dNeg, gAdd, Dl.gSub, gMul, gDiv, gMod, gPow, gEq, gNe, gLt, gLe, gGt, gGe, gIs, gIsNot, isNone, gIx, gLen, gMax, gMin, gSum, gAll, gAbs, gInt, gTuple, gList, gListS, gStrI, gRepr, gJoin, gSw, gEw, gAscii, gAlpha, gLower, List.set, List.map, List.length_cons, List.length_nil, List.cons_append, List.nil_append, List.replicate, dWipe, Nat.reduceAdd, Nat.reduceSub, dChain, gInTup, dFnMN, dkD, dInD, dNotInD, dGetD, dPutD, dic', isDic, keyQ, keyP, dLRg, dkN2, dBor, nstD, dN0, dFnNK, flatO, flatCl, dSortS, gNeS, gIn, gNotIn, gIndex, isLstD, dMthL, gDivmod, sh_non, sh_bl, sh_int, nd_non, nd_bl, nd_int, nd_str, nd_lst, nd_tup, nds_nil, nds_cons, ev_int, ev_str, ev_bl, isi_str_non, isi_str_bl, isi_str_int, isi_str_str, isi_str_lst, isi_str_tup, isi_int_non, isi_int_bl, isi_int_int, isi_int_str, isi_int_lst, isi_int_tup, isi_bool_non, isi_bool_bl, isi_bool_int, isi_bool_str, isi_bool_lst, isi_bool_tup, isi_list_non, isi_list_bl, isi_list_int, isi_list_str, isi_list_lst, isi_list_tup, isi_tuple_non, isi_tuple_bl, isi_tuple_int, isi_tuple_str, isi_tuple_lst, isi_tuple_tup, Bool.not_true, Bool.not_false, Bool.true_or, Bool.false_or, Bool.or_false, Bool.or_true, Bool.true_and, Bool.false_and, Bool.and_true, Bool.and_false, Bool.false_eq_true, if_true, if_false, true_and, and_true, eq_self_iff_true, beq_self_eq_true, atI_0, atI_1, atI_2, atI_3, atI_4, atI_5, atI_6, atI_7, atI_8, atI_9, atI_10, atI_11, atI_12, atI_13, atI_14, ixN_3_0, ixN_3_1, ixN_3_2, Option.some.injEq, exists_eq_left', Int.reduceToNat, Int.reduceNeg, rowT]
    refine ⟨⟨by decide, by decide⟩, ?_⟩
    refine for_ind (fun i Γ => ∃ b rs ys' o4 o5, Γ = [some (.own p ys'), some (.own p1 (rs.map rowT)), some (.d (.int (Bl.cnt rs : Nat))), some (.d (.int (b : Nat))), o4, o5] ∧ (1 ≤ i → 1 ≤ rs.length) ∧ (rs.length = 0 → b = 0) ∧ rs.length ≤ i ∧ BigF b rs ∧ Bl.cnt rs ≤ 2000 ∧ (Jn i (Bl.cnt rs) b ∧ LetR rs) ∧ b ≤ 26 ∧ BagOk (n + 2 * i) ys') ⟨0, [], ys, none, none, rfl, fun h => absurd h (by decide), fun _ => rfl, Nat.le_refl _, big_nil, by decide, ⟨⟨fun _ => by decide, fun h => absurd h (by decide)⟩, letr_nil⟩, by decide, hb⟩ ?_ fun Γ h => ?_
    · rintro i d Γ hi ⟨b, rs, ys1, o4, o5, rfl, hne, hz, hlen, hbig, hcnt, ⟨hJ, hLr⟩, hb26, hb1⟩ K hk
      obtain ⟨hi2, rfl⟩ := rng1_at hi
      have hi11 : i < 11 := hi2
      simp only [dSeq, dSet, dkE, dkL, dVar, dVarK, at', startD, dC, dOp, dCmp, dVal, dTest, dNot, dAnd, dOr, dAndV, dOrV, dNotV, dIf, dNil, dCons, dTup, dLst, dFrz, dCall, dMth, isStr, dPart0, dPart, dSl, gSlice, dStep, dRevL, dNext, dNever, dRet, dDrop, dIfS, dPar, dPar3, dAsg, dFor, dWhile, dLc, dLc2, gN, gTupD, gNc, gN0, dYes, dSq, dSeqL, dSeqT, dSeqS, dRng1, dRng2, dRng3, dEnum, dEnumT, dZip, dFn, dFnM, dFnK, own', isOwn, dMut, gApp, gExt, dSto, dIxO, dLenO, dLenS, dIxS', dFnS, scr', isScr, dRetN, dSeqN, dFnN, dFnNS, dIsi, dIsi2, dNeg, gAdd, Dl.gSub, gMul, gDiv, gMod, gPow, gEq, gNe, gLt, gLe, gGt, gGe, gIs, gIsNot, isNone, gIx, gLen, gMax, gMin, gSum, gAll, gAbs, gInt, gTuple, gList, gListS, gStrI, gRepr, gJoin, gSw, gEw, gAscii, gAlpha, gLower, List.set, List.map, List.length_cons, List.length_nil, List.cons_append, List.nil_append, List.replicate, dWipe, Nat.reduceAdd, Nat.reduceSub, dChain, gInTup, dFnMN, dkD, dInD, dNotInD, dGetD, dPutD, dic', isDic, keyQ, keyP, dLRg, dkN2, dBor, nstD, dN0, dFnNK, flatO, flatCl, dSortS, gNeS, gIn, gNotIn, gIndex, isLstD, dMthL, gDivmod, sh_non, sh_bl, sh_int, nd_non, nd_bl, nd_int, nd_str, nd_lst, nd_tup, nds_nil, nds_cons, ev_int, ev_str, ev_bl, isi_str_non, isi_str_bl, isi_str_int, isi_str_str, isi_str_lst, isi_str_tup, isi_int_non, isi_int_bl, isi_int_int, isi_int_str, isi_int_lst, isi_int_tup, isi_bool_non, isi_bool_bl, isi_bool_int, isi_bool_str, isi_bool_lst, isi_bool_tup, isi_list_non, isi_list_bl, isi_list_int, isi_list_str, isi_list_lst, isi_list_tup, isi_tuple_non, isi_tuple_bl, isi_tuple_int, isi_tuple_str, isi_tuple_lst, isi_tuple_tup, Bool.not_true, Bool.not_false, Bool.true_or, Bool.false_or, Bool.or_false, Bool.or_true, Bool.true_and, Bool.false_and, Bool.and_true, Bool.and_false, Bool.false_eq_true, if_true, if_false, true_and, and_true, eq_self_iff_true, beq_self_eq_true, atI_0, atI_1, atI_2, atI_3, atI_4, atI_5, atI_6, atI_7, atI_8, atI_9, atI_10, atI_11, atI_12, atI_13, atI_14, ixN_3_0, ixN_3_1, ixN_3_2, Option.some.injEq, exists_eq_left', Int.reduceToNat, Int.reduceNeg, rowT]
      refine ⟨_, 3, hb1, by omega, rfl, by decide, by decide, fun v ys2 hv hb2 => ?_⟩
      simp only [dSeq, dSet, dkE, dkL, dVar, dVarK, at', startD, dC, dOp, dCmp, dVal, dTest, dNot, dAnd, dOr, dAndV, dOrV, dNotV, dIf, dNil, dCons, dTup, dLst, dFrz, dCall, dMth, isStr, dPart0, dPart, dSl, gSlice, dStep, dRevL, dNext, dNever, dRet, dDrop, dIfS, dPar, dPar3, dAsg, dFor, dWhile, dLc, dLc2, gN, gTupD, gNc, gN0, dYes, dSq, dSeqL, dSeqT, dSeqS, dRng1, dRng2, dRng3, dEnum, dEnumT, dZip, dFn, dFnM, dFnK, own', isOwn, dMut, gApp, gExt, dSto, dIxO, dLenO, dLenS, dIxS', dFnS, scr', isScr, dRetN, dSeqN, dFnN, dFnNS, dIsi, dIsi2, dNeg, gAdd, Dl.gSub, gMul, gDiv, gMod, gPow, gEq, gNe, gLt, gLe, gGt, gGe, gIs, gIsNot, isNone, gIx, gLen, gMax, gMin, gSum, gAll, gAbs, gInt, gTuple, gList, gListS, gStrI, gRepr, gJoin, gSw, gEw, gAscii, gAlpha, gLower, List.set, List.map, List.length_cons, List.length_nil, List.cons_append, List.nil_append, List.replicate, dWipe, Nat.reduceAdd, Nat.reduceSub, dChain, gInTup, dFnMN, dkD, dInD, dNotInD, dGetD, dPutD, dic', isDic, keyQ, keyP, dLRg, dkN2, dBor, nstD, dN0, dFnNK, flatO, flatCl, dSortS, gNeS, gIn, gNotIn, gIndex, isLstD, dMthL, gDivmod, sh_non, sh_bl, sh_int, nd_non, nd_bl, nd_int, nd_str, nd_lst, nd_tup, nds_nil, nds_cons, ev_int, ev_str, ev_bl, isi_str_non, isi_str_bl, isi_str_int, isi_str_str, isi_str_lst, isi_str_tup, isi_int_non, isi_int_bl, isi_int_int, isi_int_str, isi_int_lst, isi_int_tup, isi_bool_non, isi_bool_bl, isi_bool_int, isi_bool_str, isi_bool_lst, isi_bool_tup, isi_list_non, isi_list_bl, isi_list_int, isi_list_str, isi_list_lst, isi_list_tup, isi_tuple_non, isi_tuple_bl, isi_tuple_int, isi_tuple_str, isi_tuple_lst, isi_tuple_tup, Bool.not_true, Bool.not_false, Bool.true_or, Bool.false_or, Bool.or_false, Bool.or_true, Bool.true_and, Bool.false_and, Bool.and_true, Bool.and_false, Bool.false_eq_true, if_true, if_false, true_and, and_true, eq_self_iff_true, beq_self_eq_true, atI_0, atI_1, atI_2, atI_3, atI_4, atI_5, atI_6, atI_7, atI_8, atI_9, atI_10, atI_11, atI_12, atI_13, atI_14, ixN_3_0, ixN_3_1, ixN_3_2, Option.some.injEq, exists_eq_left', Int.reduceToNat, Int.reduceNeg, rowT]
      refine ⟨by decide +kernel, _, 2, hb2, by omega, rfl, by decide, by decide, fun u ys3 hu hb3 => ?_⟩
      simp only [dSeq, dSet, dkE, dkL, dVar, dVarK, at', startD, dC, dOp, dCmp, dVal, dTest, dNot, dAnd, dOr, dAndV, dOrV, dNotV, dIf, dNil, dCons, dTup, dLst, dFrz, dCall, dMth, isStr, dPart0, dPart, dSl, gSlice, dStep, dRevL, dNext, dNever, dRet, dDrop, dIfS, dPar, dPar3, dAsg, dFor, dWhile, dLc, dLc2, gN, gTupD, gNc, gN0, dYes, dSq, dSeqL, dSeqT, dSeqS, dRng1, dRng2, dRng3, dEnum, dEnumT, dZip, dFn, dFnM, dFnK, own', isOwn, dMut, gApp, gExt, dSto, dIxO, dLenO, dLenS, dIxS', dFnS, scr', isScr, dRetN, dSeqN, dFnN, dFnNS, dIsi, dIsi2, dNeg, gAdd, Dl.gSub, gMul, gDiv, gMod, gPow, gEq, gNe, gLt, gLe, gGt, gGe, gIs, gIsNot, isNone, gIx, gLen, gMax, gMin, gSum, gAll, gAbs, gInt, gTuple, gList, gListS, gStrI, gRepr, gJoin, gSw, gEw, gAscii, gAlpha, gLower, List.set, List.map, List.length_cons, List.length_nil, List.cons_append, List.nil_append, List.replicate, dWipe, Nat.reduceAdd, Nat.reduceSub, dChain, gInTup, dFnMN, dkD, dInD, dNotInD, dGetD, dPutD, dic', isDic, keyQ, keyP, dLRg, dkN2, dBor, nstD, dN0, dFnNK, flatO, flatCl, dSortS, gNeS, gIn, gNotIn, gIndex, isLstD, dMthL, gDivmod, sh_non, sh_bl, sh_int, nd_non, nd_bl, nd_int, nd_str, nd_lst, nd_tup, nds_nil, nds_cons, ev_int, ev_str, ev_bl, isi_str_non, isi_str_bl, isi_str_int, isi_str_str, isi_str_lst, isi_str_tup, isi_int_non, isi_int_bl, isi_int_int, isi_int_str, isi_int_lst, isi_int_tup, isi_bool_non, isi_bool_bl, isi_bool_int, isi_bool_str, isi_bool_lst, isi_bool_tup, isi_list_non, isi_list_bl, isi_list_int, isi_list_str, isi_list_lst, isi_list_tup, isi_tuple_non, isi_tuple_bl, isi_tuple_int, isi_tuple_str, isi_tuple_lst, isi_tuple_tup, Bool.not_true, Bool.not_false, Bool.true_or, Bool.false_or, Bool.or_false, Bool.or_true, Bool.true_and, Bool.false_and, Bool.and_true, Bool.and_false, Bool.false_eq_true, if_true, if_false, true_and, and_true, eq_self_iff_true, beq_self_eq_true, atI_0, atI_1, atI_2, atI_3, atI_4, atI_5, atI_6, atI_7, atI_8, atI_9, atI_10, atI_11, atI_12, atI_13, atI_14, ixN_3_0, ixN_3_1, ixN_3_2, Option.some.injEq, exists_eq_left', Int.reduceToNat, Int.reduceNeg, rowT]
      obtain ⟨c, hc2, hc4, hc⟩ : ∃ c : Nat, 2 ≤ c ∧ c ≤ 4 ∧ atI [PyData.int 2, PyData.int (2 + (v : Int))] (u : Int) = some (.int (c : Int)) := by
        match u, hu with
        | 0, _ => exact ⟨2, by decide, by decide, rfl⟩
        | 1, _ => exact ⟨2 + v, by omega, by omega, by rw [Int.natCast_add]; rfl⟩
      simp only [hc, dSeq, dSet, dkE, dkL, dVar, dVarK, at', startD, dC, dOp, dCmp, dVal, dTest, dNot, dAnd, dOr, dAndV, dOrV, dNotV, dIf, dNil, dCons, dTup, dLst, dFrz, dCall, dMth, isStr, dPart0, dPart, dSl, gSlice, dStep, dRevL, dNext, dNever, dRet, dDrop, dIfS, dPar, dPar3, dAsg, dFor, dWhile, dLc, dLc2, gN, gTupD, gNc, gN0, dYes, dSq, dSeqL, dSeqT, dSeqS, dRng1, dRng2, dRng3, dEnum, dEnumT, dZip, dFn, dFnM, dFnK, own', isOwn, dMut, gApp, gExt, dSto, dIxO, dLenO, dLenS, dIxS', dFnS, scr', isScr, dRetN, dSeqN, dFnN, dFnNS, dIsi, dIsi2, dNeg, gAdd, Dl.gSub, gMul, gDiv, gMod, gPow, gEq, gNe, gLt, gLe, gGt, gGe, gIs, gIsNot, isNone, gIx, gLen, gMax, gMin, gSum, gAll, gAbs, gInt, gTuple, gList, gListS, gStrI, gRepr, gJoin, gSw, gEw, gAscii, gAlpha, gLower, List.set, List.map, List.length_cons, List.length_nil, List.cons_append, List.nil_append, List.replicate, dWipe, Nat.reduceAdd, Nat.reduceSub, dChain, gInTup, dFnMN, dkD, dInD, dNotInD, dGetD, dPutD, dic', isDic, keyQ, keyP, dLRg, dkN2, dBor, nstD, dN0, dFnNK, flatO, flatCl, dSortS, gNeS, gIn, gNotIn, gIndex, isLstD, dMthL, gDivmod, sh_non, sh_bl, sh_int, nd_non, nd_bl, nd_int, nd_str, nd_lst, nd_tup, nds_nil, nds_cons, ev_int, ev_str, ev_bl, isi_str_non, isi_str_bl, isi_str_int, isi_str_str, isi_str_lst, isi_str_tup, isi_int_non, isi_int_bl, isi_int_int, isi_int_str, isi_int_lst, isi_int_tup, isi_bool_non, isi_bool_bl, isi_bool_int, isi_bool_str, isi_bool_lst, isi_bool_tup, isi_list_non, isi_list_bl, isi_list_int, isi_list_str, isi_list_lst, isi_list_tup, isi_tuple_non, isi_tuple_bl, isi_tuple_int, isi_tuple_str, isi_tuple_lst, isi_tuple_tup, Bool.not_true, Bool.not_false, Bool.true_or, Bool.false_or, Bool.or_false, Bool.or_true, Bool.true_and, Bool.false_and, Bool.and_true, Bool.and_false, Bool.false_eq_true, if_true, if_false, true_and, and_true, eq_self_iff_true, beq_self_eq_true, atI_0, atI_1, atI_2, atI_3, atI_4, atI_5, atI_6, atI_7, atI_8, atI_9, atI_10, atI_11, atI_12, atI_13, atI_14, ixN_3_0, ixN_3_1, ixN_3_2, Option.some.injEq, exists_eq_left', Int.reduceToNat, Int.reduceNeg, rowT]
      have wm : CMulW ((Bl.cnt rs : Nat) : Int) (c : Int) := wide_nat (n := 13) (m := 13) (by omega) (by omega) (by decide) (by decide) (by decide)
      refine ⟨wm, ?_⟩
      have hpos : 0 < Bl.cnt rs := cnt_pos fun r hr => (hbig.row r hr).1.1
      by_cases h1 : Bl.cnt rs * c ≤ 2000
      · refine if_y (by rw [← Int.natCast_mul]; exact decide_eq_true (by omega)) ?_
        by_cases h2 : b + c ≤ 26
        · obtain ⟨z1, z2⟩ := az_cut b (by omega) c (by omega) h2
          refine if_y (decide_eq_true (by omega)) ⟨by decide +kernel, sl_le (by omega), ?_, wm, ?_⟩
          · rw [List.length_map]
            exact Nat.lt_of_le_of_lt hlen (Nat.lt_of_lt_of_le (by omega : i < 100) (sl_le (by decide)))
          · rw [z1]
            have e : List.map rowT rs ++ [PyData.tuple (List.map (fun c => PyData.str ⟨#[c]⟩) ((List.range c).map fun i => 97 + b + i))] = (rs ++ [lettersOf b c]).map rowT := by
              rw [List.map_append]
              unfold lettersOf
              simp only [List.map_cons, List.map_nil, rowT, List.map_map]
              rfl
            have e2 : ((Bl.cnt rs : Nat) : Int) * (c : Int) = ((Bl.cnt (rs ++ [lettersOf b c]) : Nat) : Int) := by
              rw [cnt_snoc, Int.natCast_mul]
              unfold lettersOf
              rw [List.length_map, List.length_range]
            have e3 : (b : Int) + (c : Int) = ((b + c : Nat) : Int) := (Int.natCast_add b c).symm
            rw [e, e2, e3]
            refine hk _ ⟨b + c, rs ++ [lettersOf b c], ys3, _, _, rfl, fun _ => by simp, fun h => by simp at h, by simp; omega, big_more hbig (by omega) hc4 h2, ?_, ?_, h2, hb3.mono (by omega)⟩
            · rw [cnt_snoc]
              unfold lettersOf
              rw [List.length_map, List.length_range]
              exact h1
            · refine ⟨?_, letr_more hLr hc2⟩
              rw [cnt_snoc]
              unfold lettersOf
              rw [List.length_map, List.length_range]
              exact jn_more hJ hc2 hc4
        · refine if_n (by simp only [decide_eq_true_eq]; omega) (hk _ ⟨b, rs, ys3, _, _, rfl, fun _ => ?_, hz, by omega, hbig, hcnt, ⟨jn_skip hJ hc4 (fun z => h2 z.2), hLr⟩, hb26, hb3.mono (by omega)⟩)
          rcases Nat.eq_zero_or_pos rs.length with z | z
          · have := hz z
            omega
          · exact z
      · refine if_n (by rw [← Int.natCast_mul]; simp only [decide_eq_true_eq]; omega) (hk _ ⟨b, rs, ys3, _, _, rfl, fun _ => ?_, hz, by omega, hbig, hcnt, ⟨jn_skip hJ hc4 (fun z => h1 z.1), hLr⟩, hb26, hb3.mono (by omega)⟩)
        rcases Nat.eq_zero_or_pos rs.length with z | z
        · have : rs = [] := List.length_eq_zero_iff.mp z
          subst this
          exact absurd (by rw [show Bl.cnt [] = 1 from rfl]; omega) h1
        · exact z
    · obtain ⟨b, rs, ys', o4, o5, rfl, hne, _, hlen, hbig, hcnt, hJ, hb26, hb1⟩ := h
      have e : (rngD 0 11).length = 11 := by decide
      rw [e] at hne hlen hb1 hJ
      exact ⟨b, rs, ys', o4, o5, rfl, hne (by decide), hlen, hbig, hcnt, ⟨hJ.1.2 (by decide), hJ.2⟩, hb26, hb1.mono (by omega)⟩
  · rintro Γ ⟨b, rs, ys', o4, o5, rfl, hne, hlen, hbig, hcnt, hc8, hb26, hb1⟩
    simp only [dSeq, dSet, dkE, dkL, dVar, dVarK, at', startD, dC, dOp, dCmp, dVal, dTest, dNot, dAnd, dOr, dAndV, dOrV, dNotV, dIf, dNil, dCons, dTup, dLst, dFrz, dCall, dMth, isStr, dPart0, dPart, dSl, gSlice, dStep, dRevL, dNext, dNever, dRet, dDrop, dIfS, dPar, dPar3, dAsg, dFor, dWhile, dLc, dLc2, gN, gTupD, gNc, gN0, dYes, dSq, dSeqL, dSeqT, dSeqS, dRng1, dRng2, dRng3, dEnum, dEnumT, dZip, dFn, dFnM, dFnK, own', isOwn, dMut, gApp, gExt, dSto, dIxO, dLenO, dLenS, dIxS', dFnS, scr', isScr, dRetN, dSeqN, dFnN, dFnNS, dIsi, dIsi2, dNeg, gAdd, Dl.gSub, gMul, gDiv, gMod, gPow, gEq, gNe, gLt, gLe, gGt, gGe, gIs, gIsNot, isNone, gIx, gLen, gMax, gMin, gSum, gAll, gAbs, gInt, gTuple, gList, gListS, gStrI, gRepr, gJoin, gSw, gEw, gAscii, gAlpha, gLower, List.set, List.map, List.length_cons, List.length_nil, List.cons_append, List.nil_append, List.replicate, dWipe, Nat.reduceAdd, Nat.reduceSub, dChain, gInTup, dFnMN, dkD, dInD, dNotInD, dGetD, dPutD, dic', isDic, keyQ, keyP, dLRg, dkN2, dBor, nstD, dN0, dFnNK, flatO, flatCl, dSortS, gNeS, gIn, gNotIn, gIndex, isLstD, dMthL, gDivmod, sh_non, sh_bl, sh_int, nd_non, nd_bl, nd_int, nd_str, nd_lst, nd_tup, nds_nil, nds_cons, ev_int, ev_str, ev_bl, isi_str_non, isi_str_bl, isi_str_int, isi_str_str, isi_str_lst, isi_str_tup, isi_int_non, isi_int_bl, isi_int_int, isi_int_str, isi_int_lst, isi_int_tup, isi_bool_non, isi_bool_bl, isi_bool_int, isi_bool_str, isi_bool_lst, isi_bool_tup, isi_list_non, isi_list_bl, isi_list_int, isi_list_str, isi_list_lst, isi_list_tup, isi_tuple_non, isi_tuple_bl, isi_tuple_int, isi_tuple_str, isi_tuple_lst, isi_tuple_tup, Bool.not_true, Bool.not_false, Bool.true_or, Bool.false_or, Bool.or_false, Bool.or_true, Bool.true_and, Bool.false_and, Bool.and_true, Bool.and_false, Bool.false_eq_true, if_true, if_false, true_and, and_true, eq_self_iff_true, beq_self_eq_true, atI_0, atI_1, atI_2, atI_3, atI_4, atI_5, atI_6, atI_7, atI_8, atI_9, atI_10, atI_11, atI_12, atI_13, atI_14, ixN_3_0, ixN_3_1, ixN_3_2, Option.some.injEq, exists_eq_left', Int.reduceToNat, Int.reduceNeg, rowT]
    exact q b rs ys' hne hlen hbig hcnt hc8 hb1
end
end C12
namespace C12
open PySem PySem.Spec PyProof.Rows L2 TL Bl Dl Pm
-- DLJ DLK
section
variable {P : Program} {w : World} {K : PySem.W.Frag} {mg : Str → Option Value} {base : Heap}
theorem cuts_sh {ps : List (List Str × List Str)} (h : ∀ p ∈ ps, LineOk p.1 ∧ LineOk p.2) : noDic (.list (ps.map pairT)) = true ∧ SeqAt.shaped (.list (ps.map pairT)) = true := by
  have n : Nice 3 (.list (ps.map pairT)) := nice_list (k := 2) fun d hd => by
    obtain ⟨p, hp, rfl⟩ := List.mem_map.mp hd
    obtain ⟨a, b⟩ := h p hp
    exact nice_tup (k := 1) (ds := [rowT p.1, rowT p.2]) fun e he => by
      simp only [List.mem_cons, List.not_mem_nil, or_false] at he
      rcases he with rfl | rfl
      · exact nice_row a.ok
      · exact nice_row b.ok
  exact ⟨n.1, n.sh (by decide)⟩
theorem cuts_eqv {ps : List (List Str × List Str)} : PyData.eqv (.list (ps.map pairT)) (.list []) = decide (ps = []) := by
  cases ps with
  | nil => decide +kernel
  | cons p r =>
    rw [decide_eq_false (by simp)]
    rfl
theorem line_row {ws : List Str} (h : LineOk ws) : RowOk ws := ⟨h.ne, Nat.le_trans h.len (by decide), fun x hx => ⟨(h.ok x hx).1, Nat.le_trans (h.ok x hx).2 (by decide)⟩⟩
theorem rsz_len (ws : List Str) : (rsz ws).length ≤ ws.length := by
  unfold rsz
  refine Nat.le_trans (List.length_filter_le _ _) ?_
  rw [List.length_map, List.length_range]
  exact Nat.le_refl _
theorem nic_nats {ms : List Nat} (h : ms.length ≤ 100000) : Nic 1 (.list (natsL ms)) := .inr ⟨_, .inl rfl, by unfold natsL; rw [List.length_map]; exact h, fun x hx => by
  unfold natsL at hx
  obtain ⟨m, _, rfl⟩ := List.mem_map.mp hx
  exact .inr (.inr (.inl ⟨_, rfl⟩))⟩
theorem nic_two {a b : PyData} (ha : Nic 1 a) (hb : Nic 1 b) : Nic 2 (.list [a, b]) := .inr ⟨_, .inl rfl, by simp, fun x hx => by
  simp only [List.mem_cons, List.not_mem_nil, or_false] at hx
  rcases hx with rfl | rfl
  · exact ha
  · exact hb⟩
theorem nic_up {d : PyData} (h : Nic 1 d) : Nic 2 d := by
  rcases h with h | ⟨xs, h1, h2, h3⟩
  · exact .inl h
  · exact .inr ⟨xs, h1, h2, fun x hx => .inl (h3 x hx)⟩
def t_dues : GN := fun ds Q => ∃ ws : List Str, ds = [rowT ws] ∧ LineOk ws ∧ Q (.list (natsL (rsz ws)))
theorem d_dues (a : At K mg "_law_due_sizes" s__law_due_sizes ["line"]) (B : Names mg) (h__law_cuts : FD P w K mg base "_law_cuts" 2 2 t_cuts) : FD P w K mg base "_law_due_sizes" 3 1 t_dues := by
  obtain ⟨f, fd, F, m, b⟩ := a
  refine ⟨f, fd, _, ok_D F sc__law_due_sizes (by decide) (fun cdv A outer s H E hr => (dss_one (ds_ret (de_frz (dl_lc (own := [("many", 1)]) rfl sc__law_due_sizes.nd (di_range2 (by rfl) B.range (da_cons de_int (da_cons (de_op op_addD (de_callB cr_lenD (by rfl) B.len (by decide +kernel) (da_cons (de_var 0) da_nil)) de_int) da_nil))) (blkOk_by (N := ["line", "many"]) (sc := defScope s__law_due_sizes) (by decide +kernel)) (fun _ _ _ _ _ => (dg_name (i := 1) sc__law_due_sizes.nd rfl (Or.inl rfl))) (fun _ _ _ _ _ => (dq_one (dt_cmp (op_neDD hr.units) (de_fn h__law_cuts (hr.mono (by decide)) (by rfl) (fun _ => pass0) (da_cons (de_var 0) (da_cons (de_var 1) da_nil))) (de_frz (dl_lst da_nil))))) (fun _ _ _ _ _ => (de_var 1))))))
      ) (fun ds Q0 hl h => ?_), m, F.kp, b⟩
  obtain ⟨ws, rfl, hw, q⟩ := h
  simp only [dSeq, dSet, dkE, dkL, dVar, dVarK, at', startD, dC, dOp, dCmp, dVal, dTest, dNot, dAnd, dOr, dAndV, dOrV, dNotV, dIf, dNil, dCons, dTup, dLst, dFrz, dCall, dMth, isStr, dPart0, dPart, dSl, gSlice, dStep, dRevL, dNext, dNever, dRet, dDrop, dIfS, dPar, dPar3, dAsg, dFor, dWhile, dLc, dLc2, gN, gTupD, gNc, gN0, dYes, dSq, dSeqL, dSeqT, dSeqS, dRng1, dRng2, dRng3, dEnum, dEnumT, dZip, dFn, dFnM, dFnK, own', isOwn, dMut, gApp, gExt, dSto, dIxO, dLenO, dLenS, dIxS', dFnS, scr', isScr, dRetN, dSeqN, dFnN, dFnNS, dIsi, dIsi2, dNeg, gAdd, Dl.gSub, gMul, gDiv, gMod, gPow, gEq, gNe, gLt, gLe, gGt, gGe, gIs, gIsNot, isNone, gIx, gLen, gMax, gMin, gSum, gAll, gAbs, gInt, gTuple, gList, gListS, gStrI, gRepr, gJoin, gSw, gEw, gAscii, gAlpha, gLower, List.set, List.map, List.length_cons, List.length_nil, List.cons_append, List.nil_append, List.replicate, dWipe, Nat.reduceAdd, Nat.reduceSub, dChain, gInTup, dFnMN, dkD, dInD, dNotInD, dGetD, dPutD, dic', isDic, keyQ, keyP, dLRg, dkN2, dBor, nstD, dN0, dFnNK, flatO, flatCl, dSortS, gNeS, gIn, gNotIn, gIndex, isLstD, dMthL, gDivmod, sh_non, sh_bl, sh_int, nd_non, nd_bl, nd_int, nd_str, nd_lst, nd_tup, nds_nil, nds_cons, ev_int, ev_str, ev_bl, isi_str_non, isi_str_bl, isi_str_int, isi_str_str, isi_str_lst, isi_str_tup, isi_int_non, isi_int_bl, isi_int_int, isi_int_str, isi_int_lst, isi_int_tup, isi_bool_non, isi_bool_bl, isi_bool_int, isi_bool_str, isi_bool_lst, isi_bool_tup, isi_list_non, isi_list_bl, isi_list_int, isi_list_str, isi_list_lst, isi_list_tup, isi_tuple_non, isi_tuple_bl, isi_tuple_int, isi_tuple_str, isi_tuple_lst, isi_tuple_tup, Bool.not_true, Bool.not_false, Bool.true_or, Bool.false_or, Bool.or_false, Bool.or_true, Bool.true_and, Bool.false_and, Bool.and_true, Bool.and_false, Bool.false_eq_true, if_true, if_false, true_and, and_true, eq_self_iff_true, beq_self_eq_true, atI_0, atI_1, atI_2, atI_3, atI_4, atI_5, atI_6, atI_7, atI_8, atI_9, atI_10, atI_11, atI_12, atI_13, atI_14, ixN_3_0, ixN_3_1, ixN_3_2, Option.some.injEq, exists_eq_left', Int.reduceToNat, Int.reduceNeg, rowT]
  have n1 := hw.ne
  have n4 := hw.len
  rw [List.length_map]
  refine ⟨⟨by decide, by decide, by omega, by omega⟩, ?_⟩
  have en : (((ws.length : Nat) : Int) + 1 - 1).toNat = ws.length := by omega
  rw [en]
  refine lc_filter (fun (i : Nat) => PyData.int (1 + (i : Int))) (fun (i : Nat) => PyData.int (1 + (i : Int))) (fun i => decide (conf ws (i + 1) = none)) rfl (sl_le (by rw [List.length_range]; omega)) (fun i hi K2 K0 hk2 hk0 => ?_) ?_
  · have hi := List.mem_range.mp hi
    have e1 : (1 : Int) + (i : Int) = ((i + 1 : Nat) : Int) := by omega
    simp only [dSeq, dSet, dkE, dkL, dVar, dVarK, at', startD, dC, dOp, dCmp, dVal, dTest, dNot, dAnd, dOr, dAndV, dOrV, dNotV, dIf, dNil, dCons, dTup, dLst, dFrz, dCall, dMth, isStr, dPart0, dPart, dSl, gSlice, dStep, dRevL, dNext, dNever, dRet, dDrop, dIfS, dPar, dPar3, dAsg, dFor, dWhile, dLc, dLc2, gN, gTupD, gNc, gN0, dYes, dSq, dSeqL, dSeqT, dSeqS, dRng1, dRng2, dRng3, dEnum, dEnumT, dZip, dFn, dFnM, dFnK, own', isOwn, dMut, gApp, gExt, dSto, dIxO, dLenO, dLenS, dIxS', dFnS, scr', isScr, dRetN, dSeqN, dFnN, dFnNS, dIsi, dIsi2, dNeg, gAdd, Dl.gSub, gMul, gDiv, gMod, gPow, gEq, gNe, gLt, gLe, gGt, gGe, gIs, gIsNot, isNone, gIx, gLen, gMax, gMin, gSum, gAll, gAbs, gInt, gTuple, gList, gListS, gStrI, gRepr, gJoin, gSw, gEw, gAscii, gAlpha, gLower, List.set, List.map, List.length_cons, List.length_nil, List.cons_append, List.nil_append, List.replicate, dWipe, Nat.reduceAdd, Nat.reduceSub, dChain, gInTup, dFnMN, dkD, dInD, dNotInD, dGetD, dPutD, dic', isDic, keyQ, keyP, dLRg, dkN2, dBor, nstD, dN0, dFnNK, flatO, flatCl, dSortS, gNeS, gIn, gNotIn, gIndex, isLstD, dMthL, gDivmod, sh_non, sh_bl, sh_int, nd_non, nd_bl, nd_int, nd_str, nd_lst, nd_tup, nds_nil, nds_cons, ev_int, ev_str, ev_bl, isi_str_non, isi_str_bl, isi_str_int, isi_str_str, isi_str_lst, isi_str_tup, isi_int_non, isi_int_bl, isi_int_int, isi_int_str, isi_int_lst, isi_int_tup, isi_bool_non, isi_bool_bl, isi_bool_int, isi_bool_str, isi_bool_lst, isi_bool_tup, isi_list_non, isi_list_bl, isi_list_int, isi_list_str, isi_list_lst, isi_list_tup, isi_tuple_non, isi_tuple_bl, isi_tuple_int, isi_tuple_str, isi_tuple_lst, isi_tuple_tup, Bool.not_true, Bool.not_false, Bool.true_or, Bool.false_or, Bool.or_false, Bool.or_true, Bool.true_and, Bool.false_and, Bool.and_true, Bool.and_false, Bool.false_eq_true, if_true, if_false, true_and, and_true, eq_self_iff_true, beq_self_eq_true, atI_0, atI_1, atI_2, atI_3, atI_4, atI_5, atI_6, atI_7, atI_8, atI_9, atI_10, atI_11, atI_12, atI_13, atI_14, ixN_3_0, ixN_3_1, ixN_3_2, Option.some.injEq, exists_eq_left', Int.reduceToNat, Int.reduceNeg, rowT]
    refine ⟨ws, i + 1, by rw [e1]; rfl, hw, by omega, Nat.lt_of_le_of_lt (by omega : i + 1 ≤ 5000) (by decide), fun hp => ?_⟩
    obtain ⟨c1, c2⟩ := cuts_sh hp
    refine ⟨sl_le (by decide), ⟨c1, c2, nil_sh⟩, ?_⟩
    rw [cuts_eqv]
    have key := cuts_none hw.ne (show 1 ≤ i + 1 by omega)
    cases hc : conf ws (i + 1) with
    | none =>
      have := key.mp hc
      exact if_y (by simp [this]) (hk2 (by rw [hc]; rfl) _ rfl)
    | some p =>
      have : cutsL ws (i + 1) = [] := Classical.byContradiction fun z => by rw [key.mpr z] at hc; cases hc
      exact if_n (by simp [this]) (hk0 (by rw [hc]; rfl) _ rfl)
  · have e : ((List.range ws.length).filter fun i => decide (conf ws (i + 1) = none)).map (fun (i : Nat) => PyData.int (1 + (i : Int))) = natsL (rsz ws) := by
      unfold natsL rsz
      rw [List.filter_map, List.map_map]
      refine List.map_congr_left fun i _ => ?_
      show PyData.int (1 + (i : Int)) = PyData.int ((i + 1 : Nat) : Int)
      rw [show (1 : Int) + (i : Int) = ((i + 1 : Nat) : Int) from by omega]
    rw [e]
    exact q
def t_right : GNM := fun ys ds Q => ∃ n most : Nat, BagOk n ys ∧ n ≤ 50000 ∧ ds = [.int (most : Int)] ∧ 1 ≤ most ∧ most ≤ 60 ∧ ∀ ys', BagOk (n + 3000) ys' → Q (.bool true) ys'
theorem d_right (a : At K mg "_law_right" s__law_right ["bag", "most"]) (B : Names mg) (h__law_factors : FM P w K mg base "_law_factors" 4 2 t_factors) (h__law_whole : FD P w K mg base "_law_whole" 2 1 t_whole) (h__law_bent : FM P w K mg base "_law_bent" 2 2 t_bent) (h__law_due_sizes : FD P w K mg base "_law_due_sizes" 3 1 t_dues) (h_right_sizes : FN P w K mg base "right_sizes" 4 1 t_rsz) (hk_right_sizes_row : FNK P w K mg base "right_sizes" ["row"] [0] 4 1 t_rsz) (h__law_same : FD P w K mg base "_law_same" 3 2 (t_same 2)) : FM P w K mg base "_law_right" 5 2 t_right := by
  obtain ⟨f, fd, F, m, b⟩ := a
  refine ⟨f, fd, _, ok_M F sc__law_right (by decide) (fun cdv A outer s H E hr => (dss_cut (ds_set (i := 2) sc__law_right.nd rfl (Or.inl rfl) (dk_e (de_fnM 0 h__law_bent (hr.mono (by decide)) (by rfl) (fun _ => pass0) (da_cons (de_fn h__law_whole (hr.mono (by decide)) (by rfl) (fun _ => pass0) (da_cons (de_fnM 0 h__law_factors (hr.mono (by decide)) (by rfl) (fun _ => pass0) (da_cons (de_var 1) da_nil)) da_nil)) da_nil))))
      (dss_cut (ds_set (i := 3) sc__law_right.nd rfl (Or.inl rfl) (dk_e (de_fn h__law_due_sizes (hr.mono (by decide)) (by rfl) (fun _ => pass0) (da_cons (de_var 2) da_nil))))
      (dss_cut (ds_set (i := 4) sc__law_right.nd rfl (Or.inl rfl) (dk_nst2 (dl_fnN h_right_sizes (hr.mono (by decide)) (by rfl) (fun _ => pass0) (da_cons (de_var 2) da_nil)) (dl_fnNK hk_right_sizes_row (hr.mono (by decide)) (by rfl) (fun _ => pass0) (dkw_cons (de_var 2) dkw_nil))))
      (dss_cut (ds_if (dt_not (dt_val (de_bor 4 (de_fn h__law_same (hr.mono (by decide)) (by rfl) (fun _ => pass0) (da_cons (de_var 4) (da_cons (de_frz (dl_lst (da_cons (de_var 3) (da_cons (de_var 3) da_nil)))) da_nil)))))) (dss_one (ds_ret de_bl)) dss_nil)
      (dss_cut (ds_n0app 4)
      (dss_cut (ds_n0rev 4)
      (dss_one (ds_ret (de_fn h__law_same (hr.mono (by decide)) (by rfl) (fun _ => pass0) (da_cons (de_frz (dl_fnN h_right_sizes (hr.mono (by decide)) (by rfl) (fun _ => pass0) (da_cons (de_var 2) da_nil))) (da_cons (de_var 3) da_nil)))))))))))
      ) (fun p ys ds Q0 hl h => ?_), m, F.kp, b⟩
  obtain ⟨n, most, hb, hn, rfl, hm1, hm, q⟩ := h
  simp only [dSeq, dSet, dkE, dkL, dVar, dVarK, at', startD, dC, dOp, dCmp, dVal, dTest, dNot, dAnd, dOr, dAndV, dOrV, dNotV, dIf, dNil, dCons, dTup, dLst, dFrz, dCall, dMth, isStr, dPart0, dPart, dSl, gSlice, dStep, dRevL, dNext, dNever, dRet, dDrop, dIfS, dPar, dPar3, dAsg, dFor, dWhile, dLc, dLc2, gN, gTupD, gNc, gN0, dYes, dSq, dSeqL, dSeqT, dSeqS, dRng1, dRng2, dRng3, dEnum, dEnumT, dZip, dFn, dFnM, dFnK, own', isOwn, dMut, gApp, gExt, dSto, dIxO, dLenO, dLenS, dIxS', dFnS, scr', isScr, dRetN, dSeqN, dFnN, dFnNS, dIsi, dIsi2, dNeg, gAdd, Dl.gSub, gMul, gDiv, gMod, gPow, gEq, gNe, gLt, gLe, gGt, gGe, gIs, gIsNot, isNone, gIx, gLen, gMax, gMin, gSum, gAll, gAbs, gInt, gTuple, gList, gListS, gStrI, gRepr, gJoin, gSw, gEw, gAscii, gAlpha, gLower, List.set, List.map, List.length_cons, List.length_nil, List.cons_append, List.nil_append, List.replicate, dWipe, Nat.reduceAdd, Nat.reduceSub, dChain, gInTup, dFnMN, dkD, dInD, dNotInD, dGetD, dPutD, dic', isDic, keyQ, keyP, dLRg, dkN2, dBor, nstD, dN0, dFnNK, flatO, flatCl, dSortS, gNeS, gIn, gNotIn, gIndex, isLstD, dMthL, gDivmod, sh_non, sh_bl, sh_int, nd_non, nd_bl, nd_int, nd_str, nd_lst, nd_tup, nds_nil, nds_cons, ev_int, ev_str, ev_bl, isi_str_non, isi_str_bl, isi_str_int, isi_str_str, isi_str_lst, isi_str_tup, isi_int_non, isi_int_bl, isi_int_int, isi_int_str, isi_int_lst, isi_int_tup, isi_bool_non, isi_bool_bl, isi_bool_int, isi_bool_str, isi_bool_lst, isi_bool_tup, isi_list_non, isi_list_bl, isi_list_int, isi_list_str, isi_list_lst, isi_list_tup, isi_tuple_non, isi_tuple_bl, isi_tuple_int, isi_tuple_str, isi_tuple_lst, isi_tuple_tup, Bool.not_true, Bool.not_false, Bool.true_or, Bool.false_or, Bool.or_false, Bool.or_true, Bool.true_and, Bool.false_and, Bool.and_true, Bool.and_false, Bool.false_eq_true, if_true, if_false, true_and, and_true, eq_self_iff_true, beq_self_eq_true, atI_0, atI_1, atI_2, atI_3, atI_4, atI_5, atI_6, atI_7, atI_8, atI_9, atI_10, atI_11, atI_12, atI_13, atI_14, ixN_3_0, ixN_3_1, ixN_3_2, Option.some.injEq, exists_eq_left', Int.reduceToNat, Int.reduceNeg, rowT]
  refine dCut_open (fun Γ => ∃ (ws : List Str) (ys' : List PyData), Γ = [some (.own p ys'), some (.d (.int (most : Int))), some (.d (rowT ws)), none, none] ∧ LineOk ws ∧ BagOk (n + 1002) ys') ?_ ?_
  · simp only [dSeq, dSet, dkE, dkL, dVar, dVarK, at', startD, dC, dOp, dCmp, dVal, dTest, dNot, dAnd, dOr, dAndV, dOrV, dNotV, dIf, dNil, dCons, dTup, dLst, dFrz, dCall, dMth, isStr, dPart0, dPart, dSl, gSlice, dStep, dRevL, dNext, dNever, dRet, dDrop, dIfS, dPar, dPar3, dAsg, dFor, dWhile, dLc, dLc2, gN, gTupD, gNc, gN0, dYes, dSq, dSeqL, dSeqT, dSeqS, dRng1, dRng2, dRng3, dEnum, dEnumT, dZip, dFn, dFnM, dFnK, own', isOwn, dMut, gApp, gExt, dSto, dIxO, dLenO, dLenS, dIxS', dFnS, scr', isScr, dRetN, dSeqN, dFnN, dFnNS, dIsi, dIsi2, dNeg, gAdd, Dl.gSub, gMul, gDiv, gMod, gPow, gEq, gNe, gLt, gLe, gGt, gGe, gIs, gIsNot, isNone, gIx, gLen, gMax, gMin, gSum, gAll, gAbs, gInt, gTuple, gList, gListS, gStrI, gRepr, gJoin, gSw, gEw, gAscii, gAlpha, gLower, List.set, List.map, List.length_cons, List.length_nil, List.cons_append, List.nil_append, List.replicate, dWipe, Nat.reduceAdd, Nat.reduceSub, dChain, gInTup, dFnMN, dkD, dInD, dNotInD, dGetD, dPutD, dic', isDic, keyQ, keyP, dLRg, dkN2, dBor, nstD, dN0, dFnNK, flatO, flatCl, dSortS, gNeS, gIn, gNotIn, gIndex, isLstD, dMthL, gDivmod, sh_non, sh_bl, sh_int, nd_non, nd_bl, nd_int, nd_str, nd_lst, nd_tup, nds_nil, nds_cons, ev_int, ev_str, ev_bl, isi_str_non, isi_str_bl, isi_str_int, isi_str_str, isi_str_lst, isi_str_tup, isi_int_non, isi_int_bl, isi_int_int, isi_int_str, isi_int_lst, isi_int_tup, isi_bool_non, isi_bool_bl, isi_bool_int, isi_bool_str, isi_bool_lst, isi_bool_tup, isi_list_non, isi_list_bl, isi_list_int, isi_list_str, isi_list_lst, isi_list_tup, isi_tuple_non, isi_tuple_bl, isi_tuple_int, isi_tuple_str, isi_tuple_lst, isi_tuple_tup, Bool.not_true, Bool.not_false, Bool.true_or, Bool.false_or, Bool.or_false, Bool.or_true, Bool.true_and, Bool.false_and, Bool.and_true, Bool.and_false, Bool.false_eq_true, if_true, if_false, true_and, and_true, eq_self_iff_true, beq_self_eq_true, atI_0, atI_1, atI_2, atI_3, atI_4, atI_5, atI_6, atI_7, atI_8, atI_9, atI_10, atI_11, atI_12, atI_13, atI_14, ixN_3_0, ixN_3_1, ixN_3_2, Option.some.injEq, exists_eq_left', Int.reduceToNat, Int.reduceNeg, rowT]
    refine ⟨n, most, hb, by omega, rfl, hm1, by omega, fun rs ys1 hr1 f1 hb1 => ?_⟩
    have hrow : ∀ r ∈ rs, 1 ≤ r.length ∧ WdsOk 4000 r := fun r hr => ⟨(f1.row r hr).1.1, fun x hx => ⟨((f1.row r hr).2 x hx).1, Nat.le_trans ((f1.row r hr).2 x hx).2 (by decide)⟩⟩
    have c1 := f1.cnt
    refine ⟨_, rs, rfl, .inl rfl, ⟨by have := f1.len; omega, hrow, by omega⟩, ?_⟩
    have p1 : 0 < Bl.cnt rs := cnt_pos fun r hr => (f1.row r hr).1.1
    have L1 : LineOk (prodW rs) := ⟨by rw [prodW_len]; exact p1, by rw [prodW_len]; omega, fun x hx => ⟨(f1.wds x hx).1, Nat.le_trans (f1.wds x hx).2 (by decide)⟩⟩
    exact ⟨_, _, hb1, by omega, rfl, L1, fun vs ys2 hv hb2 => ⟨vs, ys2, rfl, hv, hb2.mono (by omega)⟩⟩
  rintro Γ ⟨ws, ys1, rfl, hw, hb1⟩
  have hl := rsz_len ws
  have hl2 := hw.len
  refine dCut_open (fun Γ => Γ = [some (.own p ys1), some (.d (.int (most : Int))), some (.d (rowT ws)), some (.d (.list (natsL (rsz ws)))), none]) ?_ ?_
  · simp only [dSeq, dSet, dkE, dkL, dVar, dVarK, at', startD, dC, dOp, dCmp, dVal, dTest, dNot, dAnd, dOr, dAndV, dOrV, dNotV, dIf, dNil, dCons, dTup, dLst, dFrz, dCall, dMth, isStr, dPart0, dPart, dSl, gSlice, dStep, dRevL, dNext, dNever, dRet, dDrop, dIfS, dPar, dPar3, dAsg, dFor, dWhile, dLc, dLc2, gN, gTupD, gNc, gN0, dYes, dSq, dSeqL, dSeqT, dSeqS, dRng1, dRng2, dRng3, dEnum, dEnumT, dZip, dFn, dFnM, dFnK, own', isOwn, dMut, gApp, gExt, dSto, dIxO, dLenO, dLenS, dIxS', dFnS, scr', isScr, dRetN, dSeqN, dFnN, dFnNS, dIsi, dIsi2, dNeg, gAdd, Dl.gSub, gMul, gDiv, gMod, gPow, gEq, gNe, gLt, gLe, gGt, gGe, gIs, gIsNot, isNone, gIx, gLen, gMax, gMin, gSum, gAll, gAbs, gInt, gTuple, gList, gListS, gStrI, gRepr, gJoin, gSw, gEw, gAscii, gAlpha, gLower, List.set, List.map, List.length_cons, List.length_nil, List.cons_append, List.nil_append, List.replicate, dWipe, Nat.reduceAdd, Nat.reduceSub, dChain, gInTup, dFnMN, dkD, dInD, dNotInD, dGetD, dPutD, dic', isDic, keyQ, keyP, dLRg, dkN2, dBor, nstD, dN0, dFnNK, flatO, flatCl, dSortS, gNeS, gIn, gNotIn, gIndex, isLstD, dMthL, gDivmod, sh_non, sh_bl, sh_int, nd_non, nd_bl, nd_int, nd_str, nd_lst, nd_tup, nds_nil, nds_cons, ev_int, ev_str, ev_bl, isi_str_non, isi_str_bl, isi_str_int, isi_str_str, isi_str_lst, isi_str_tup, isi_int_non, isi_int_bl, isi_int_int, isi_int_str, isi_int_lst, isi_int_tup, isi_bool_non, isi_bool_bl, isi_bool_int, isi_bool_str, isi_bool_lst, isi_bool_tup, isi_list_non, isi_list_bl, isi_list_int, isi_list_str, isi_list_lst, isi_list_tup, isi_tuple_non, isi_tuple_bl, isi_tuple_int, isi_tuple_str, isi_tuple_lst, isi_tuple_tup, Bool.not_true, Bool.not_false, Bool.true_or, Bool.false_or, Bool.or_false, Bool.or_true, Bool.true_and, Bool.false_and, Bool.and_true, Bool.and_false, Bool.false_eq_true, if_true, if_false, true_and, and_true, eq_self_iff_true, beq_self_eq_true, atI_0, atI_1, atI_2, atI_3, atI_4, atI_5, atI_6, atI_7, atI_8, atI_9, atI_10, atI_11, atI_12, atI_13, atI_14, ixN_3_0, ixN_3_1, ixN_3_2, Option.some.injEq, exists_eq_left', Int.reduceToNat, Int.reduceNeg, rowT]
    exact ⟨ws, rfl, hw, rfl⟩
  rintro Γ rfl
  refine dCut_open (fun Γ => ∃ p1 q1 q2, Γ = [some (.own p ys1), some (.d (.int (most : Int))), some (.d (rowT ws)), some (.d (.list (natsL (rsz ws)))), some (.nst p1 [(q1, natsL (rsz ws)), (q2, natsL (rsz ws))])]) ?_ ?_
  · simp only [dSeq, dSet, dkE, dkL, dVar, dVarK, at', startD, dC, dOp, dCmp, dVal, dTest, dNot, dAnd, dOr, dAndV, dOrV, dNotV, dIf, dNil, dCons, dTup, dLst, dFrz, dCall, dMth, isStr, dPart0, dPart, dSl, gSlice, dStep, dRevL, dNext, dNever, dRet, dDrop, dIfS, dPar, dPar3, dAsg, dFor, dWhile, dLc, dLc2, gN, gTupD, gNc, gN0, dYes, dSq, dSeqL, dSeqT, dSeqS, dRng1, dRng2, dRng3, dEnum, dEnumT, dZip, dFn, dFnM, dFnK, own', isOwn, dMut, gApp, gExt, dSto, dIxO, dLenO, dLenS, dIxS', dFnS, scr', isScr, dRetN, dSeqN, dFnN, dFnNS, dIsi, dIsi2, dNeg, gAdd, Dl.gSub, gMul, gDiv, gMod, gPow, gEq, gNe, gLt, gLe, gGt, gGe, gIs, gIsNot, isNone, gIx, gLen, gMax, gMin, gSum, gAll, gAbs, gInt, gTuple, gList, gListS, gStrI, gRepr, gJoin, gSw, gEw, gAscii, gAlpha, gLower, List.set, List.map, List.length_cons, List.length_nil, List.cons_append, List.nil_append, List.replicate, dWipe, Nat.reduceAdd, Nat.reduceSub, dChain, gInTup, dFnMN, dkD, dInD, dNotInD, dGetD, dPutD, dic', isDic, keyQ, keyP, dLRg, dkN2, dBor, nstD, dN0, dFnNK, flatO, flatCl, dSortS, gNeS, gIn, gNotIn, gIndex, isLstD, dMthL, gDivmod, sh_non, sh_bl, sh_int, nd_non, nd_bl, nd_int, nd_str, nd_lst, nd_tup, nds_nil, nds_cons, ev_int, ev_str, ev_bl, isi_str_non, isi_str_bl, isi_str_int, isi_str_str, isi_str_lst, isi_str_tup, isi_int_non, isi_int_bl, isi_int_int, isi_int_str, isi_int_lst, isi_int_tup, isi_bool_non, isi_bool_bl, isi_bool_int, isi_bool_str, isi_bool_lst, isi_bool_tup, isi_list_non, isi_list_bl, isi_list_int, isi_list_str, isi_list_lst, isi_list_tup, isi_tuple_non, isi_tuple_bl, isi_tuple_int, isi_tuple_str, isi_tuple_lst, isi_tuple_tup, Bool.not_true, Bool.not_false, Bool.true_or, Bool.false_or, Bool.or_false, Bool.or_true, Bool.true_and, Bool.false_and, Bool.and_true, Bool.and_false, Bool.false_eq_true, if_true, if_false, true_and, and_true, eq_self_iff_true, beq_self_eq_true, atI_0, atI_1, atI_2, atI_3, atI_4, atI_5, atI_6, atI_7, atI_8, atI_9, atI_10, atI_11, atI_12, atI_13, atI_14, ixN_3_0, ixN_3_1, ixN_3_2, Option.some.injEq, exists_eq_left', Int.reduceToNat, Int.reduceNeg, rowT]
    exact ⟨ws, rfl, line_row hw, rfl, ws, rfl, line_row hw, sl_le (by decide), fun p1 q1 q2 => ⟨p1, q1, q2, rfl⟩⟩
  rintro Γ ⟨p1, q1, q2, rfl⟩
  refine dCut_open (fun Γ => Γ = [some (.own p ys1), some (.d (.int (most : Int))), some (.d (rowT ws)), some (.d (.list (natsL (rsz ws)))), some (.nst p1 [(q1, natsL (rsz ws)), (q2, natsL (rsz ws))])]) ?_ ?_
  · simp only [dSeq, dSet, dkE, dkL, dVar, dVarK, at', startD, dC, dOp, dCmp, dVal, dTest, dNot, dAnd, dOr, dAndV, dOrV, dNotV, dIf, dNil, dCons, dTup, dLst, dFrz, dCall, dMth, isStr, dPart0, dPart, dSl, gSlice, dStep, dRevL, dNext, dNever, dRet, dDrop, dIfS, dPar, dPar3, dAsg, dFor, dWhile, dLc, dLc2, gN, gTupD, gNc, gN0, dYes, dSq, dSeqL, dSeqT, dSeqS, dRng1, dRng2, dRng3, dEnum, dEnumT, dZip, dFn, dFnM, dFnK, own', isOwn, dMut, gApp, gExt, dSto, dIxO, dLenO, dLenS, dIxS', dFnS, scr', isScr, dRetN, dSeqN, dFnN, dFnNS, dIsi, dIsi2, dNeg, gAdd, Dl.gSub, gMul, gDiv, gMod, gPow, gEq, gNe, gLt, gLe, gGt, gGe, gIs, gIsNot, isNone, gIx, gLen, gMax, gMin, gSum, gAll, gAbs, gInt, gTuple, gList, gListS, gStrI, gRepr, gJoin, gSw, gEw, gAscii, gAlpha, gLower, List.set, List.map, List.length_cons, List.length_nil, List.cons_append, List.nil_append, List.replicate, dWipe, Nat.reduceAdd, Nat.reduceSub, dChain, gInTup, dFnMN, dkD, dInD, dNotInD, dGetD, dPutD, dic', isDic, keyQ, keyP, dLRg, dkN2, dBor, nstD, dN0, dFnNK, flatO, flatCl, dSortS, gNeS, gIn, gNotIn, gIndex, isLstD, dMthL, gDivmod, sh_non, sh_bl, sh_int, nd_non, nd_bl, nd_int, nd_str, nd_lst, nd_tup, nds_nil, nds_cons, ev_int, ev_str, ev_bl, isi_str_non, isi_str_bl, isi_str_int, isi_str_str, isi_str_lst, isi_str_tup, isi_int_non, isi_int_bl, isi_int_int, isi_int_str, isi_int_lst, isi_int_tup, isi_bool_non, isi_bool_bl, isi_bool_int, isi_bool_str, isi_bool_lst, isi_bool_tup, isi_list_non, isi_list_bl, isi_list_int, isi_list_str, isi_list_lst, isi_list_tup, isi_tuple_non, isi_tuple_bl, isi_tuple_int, isi_tuple_str, isi_tuple_lst, isi_tuple_tup, Bool.not_true, Bool.not_false, Bool.true_or, Bool.false_or, Bool.or_false, Bool.or_true, Bool.true_and, Bool.false_and, Bool.and_true, Bool.and_false, Bool.false_eq_true, if_true, if_false, true_and, and_true, eq_self_iff_true, beq_self_eq_true, atI_0, atI_1, atI_2, atI_3, atI_4, atI_5, atI_6, atI_7, atI_8, atI_9, atI_10, atI_11, atI_12, atI_13, atI_14, ixN_3_0, ixN_3_1, ixN_3_2, Option.some.injEq, exists_eq_left', Int.reduceToNat, Int.reduceNeg, rowT]
    have fl : ∃ is : List Int, ys1 = is.map .int := by
      obtain ⟨a, b, c, e, _⟩ := hb1
      exact ⟨[a, b, c], e⟩
    exact ⟨⟨fl, fun c hc => by cases hc⟩, sl_le (by decide), _, rfl, nic_two (nic_nats (by omega)) (nic_nats (by omega)), ⟨_, rfl⟩, if_n (by decide) trivial⟩
  rintro Γ rfl
  refine dCut_open (fun Γ => ∃ zs, Γ = [some (.own p ys1), some (.d (.int (most : Int))), some (.d (rowT ws)), some (.d (.list (natsL (rsz ws)))), some (.nst p1 [(q1, zs), (q2, natsL (rsz ws))])]) ?_ ?_
  · simp only [dSeq, dSet, dkE, dkL, dVar, dVarK, at', startD, dC, dOp, dCmp, dVal, dTest, dNot, dAnd, dOr, dAndV, dOrV, dNotV, dIf, dNil, dCons, dTup, dLst, dFrz, dCall, dMth, isStr, dPart0, dPart, dSl, gSlice, dStep, dRevL, dNext, dNever, dRet, dDrop, dIfS, dPar, dPar3, dAsg, dFor, dWhile, dLc, dLc2, gN, gTupD, gNc, gN0, dYes, dSq, dSeqL, dSeqT, dSeqS, dRng1, dRng2, dRng3, dEnum, dEnumT, dZip, dFn, dFnM, dFnK, own', isOwn, dMut, gApp, gExt, dSto, dIxO, dLenO, dLenS, dIxS', dFnS, scr', isScr, dRetN, dSeqN, dFnN, dFnNS, dIsi, dIsi2, dNeg, gAdd, Dl.gSub, gMul, gDiv, gMod, gPow, gEq, gNe, gLt, gLe, gGt, gGe, gIs, gIsNot, isNone, gIx, gLen, gMax, gMin, gSum, gAll, gAbs, gInt, gTuple, gList, gListS, gStrI, gRepr, gJoin, gSw, gEw, gAscii, gAlpha, gLower, List.set, List.map, List.length_cons, List.length_nil, List.cons_append, List.nil_append, List.replicate, dWipe, Nat.reduceAdd, Nat.reduceSub, dChain, gInTup, dFnMN, dkD, dInD, dNotInD, dGetD, dPutD, dic', isDic, keyQ, keyP, dLRg, dkN2, dBor, nstD, dN0, dFnNK, flatO, flatCl, dSortS, gNeS, gIn, gNotIn, gIndex, isLstD, dMthL, gDivmod, sh_non, sh_bl, sh_int, nd_non, nd_bl, nd_int, nd_str, nd_lst, nd_tup, nds_nil, nds_cons, ev_int, ev_str, ev_bl, isi_str_non, isi_str_bl, isi_str_int, isi_str_str, isi_str_lst, isi_str_tup, isi_int_non, isi_int_bl, isi_int_int, isi_int_str, isi_int_lst, isi_int_tup, isi_bool_non, isi_bool_bl, isi_bool_int, isi_bool_str, isi_bool_lst, isi_bool_tup, isi_list_non, isi_list_bl, isi_list_int, isi_list_str, isi_list_lst, isi_list_tup, isi_tuple_non, isi_tuple_bl, isi_tuple_int, isi_tuple_str, isi_tuple_lst, isi_tuple_tup, Bool.not_true, Bool.not_false, Bool.true_or, Bool.false_or, Bool.or_false, Bool.or_true, Bool.true_and, Bool.false_and, Bool.and_true, Bool.and_false, Bool.false_eq_true, if_true, if_false, true_and, and_true, eq_self_iff_true, beq_self_eq_true, atI_0, atI_1, atI_2, atI_3, atI_4, atI_5, atI_6, atI_7, atI_8, atI_9, atI_10, atI_11, atI_12, atI_13, atI_14, ixN_3_0, ixN_3_1, ixN_3_2, Option.some.injEq, exists_eq_left', Int.reduceToNat, Int.reduceNeg, rowT]
    exact ⟨by unfold natsL; rw [List.length_map]; exact Nat.lt_of_lt_of_le (by omega : (rsz ws).length < 100) (sl_le (by decide)), _, rfl⟩
  rintro Γ ⟨zs, rfl⟩
  refine dCut_open (fun Γ => ∃ zs, Γ = [some (.own p ys1), some (.d (.int (most : Int))), some (.d (rowT ws)), some (.d (.list (natsL (rsz ws)))), some (.nst p1 [(q1, zs), (q2, natsL (rsz ws))])]) ?_ ?_
  · simp only [dSeq, dSet, dkE, dkL, dVar, dVarK, at', startD, dC, dOp, dCmp, dVal, dTest, dNot, dAnd, dOr, dAndV, dOrV, dNotV, dIf, dNil, dCons, dTup, dLst, dFrz, dCall, dMth, isStr, dPart0, dPart, dSl, gSlice, dStep, dRevL, dNext, dNever, dRet, dDrop, dIfS, dPar, dPar3, dAsg, dFor, dWhile, dLc, dLc2, gN, gTupD, gNc, gN0, dYes, dSq, dSeqL, dSeqT, dSeqS, dRng1, dRng2, dRng3, dEnum, dEnumT, dZip, dFn, dFnM, dFnK, own', isOwn, dMut, gApp, gExt, dSto, dIxO, dLenO, dLenS, dIxS', dFnS, scr', isScr, dRetN, dSeqN, dFnN, dFnNS, dIsi, dIsi2, dNeg, gAdd, Dl.gSub, gMul, gDiv, gMod, gPow, gEq, gNe, gLt, gLe, gGt, gGe, gIs, gIsNot, isNone, gIx, gLen, gMax, gMin, gSum, gAll, gAbs, gInt, gTuple, gList, gListS, gStrI, gRepr, gJoin, gSw, gEw, gAscii, gAlpha, gLower, List.set, List.map, List.length_cons, List.length_nil, List.cons_append, List.nil_append, List.replicate, dWipe, Nat.reduceAdd, Nat.reduceSub, dChain, gInTup, dFnMN, dkD, dInD, dNotInD, dGetD, dPutD, dic', isDic, keyQ, keyP, dLRg, dkN2, dBor, nstD, dN0, dFnNK, flatO, flatCl, dSortS, gNeS, gIn, gNotIn, gIndex, isLstD, dMthL, gDivmod, sh_non, sh_bl, sh_int, nd_non, nd_bl, nd_int, nd_str, nd_lst, nd_tup, nds_nil, nds_cons, ev_int, ev_str, ev_bl, isi_str_non, isi_str_bl, isi_str_int, isi_str_str, isi_str_lst, isi_str_tup, isi_int_non, isi_int_bl, isi_int_int, isi_int_str, isi_int_lst, isi_int_tup, isi_bool_non, isi_bool_bl, isi_bool_int, isi_bool_str, isi_bool_lst, isi_bool_tup, isi_list_non, isi_list_bl, isi_list_int, isi_list_str, isi_list_lst, isi_list_tup, isi_tuple_non, isi_tuple_bl, isi_tuple_int, isi_tuple_str, isi_tuple_lst, isi_tuple_tup, Bool.not_true, Bool.not_false, Bool.true_or, Bool.false_or, Bool.or_false, Bool.or_true, Bool.true_and, Bool.false_and, Bool.and_true, Bool.and_false, Bool.false_eq_true, if_true, if_false, true_and, and_true, eq_self_iff_true, beq_self_eq_true, atI_0, atI_1, atI_2, atI_3, atI_4, atI_5, atI_6, atI_7, atI_8, atI_9, atI_10, atI_11, atI_12, atI_13, atI_14, ixN_3_0, ixN_3_1, ixN_3_2, Option.some.injEq, exists_eq_left', Int.reduceToNat, Int.reduceNeg, rowT]
    exact ⟨_, rfl⟩
  rintro Γ ⟨zs, rfl⟩
  simp only [dSeq, dSet, dkE, dkL, dVar, dVarK, at', startD, dC, dOp, dCmp, dVal, dTest, dNot, dAnd, dOr, dAndV, dOrV, dNotV, dIf, dNil, dCons, dTup, dLst, dFrz, dCall, dMth, isStr, dPart0, dPart, dSl, gSlice, dStep, dRevL, dNext, dNever, dRet, dDrop, dIfS, dPar, dPar3, dAsg, dFor, dWhile, dLc, dLc2, gN, gTupD, gNc, gN0, dYes, dSq, dSeqL, dSeqT, dSeqS, dRng1, dRng2, dRng3, dEnum, dEnumT, dZip, dFn, dFnM, dFnK, own', isOwn, dMut, gApp, gExt, dSto, dIxO, dLenO, dLenS, dIxS', dFnS, scr', isScr, dRetN, dSeqN, dFnN, dFnNS, dIsi, dIsi2, dNeg, gAdd, Dl.gSub, gMul, gDiv, gMod, gPow, gEq, gNe, gLt, gLe, gGt, gGe, gIs, gIsNot, isNone, gIx, gLen, gMax, gMin, gSum, gAll, gAbs, gInt, gTuple, gList, gListS, gStrI, gRepr, gJoin, gSw, gEw, gAscii, gAlpha, gLower, List.set, List.map, List.length_cons, List.length_nil, List.cons_append, List.nil_append, List.replicate, dWipe, Nat.reduceAdd, Nat.reduceSub, dChain, gInTup, dFnMN, dkD, dInD, dNotInD, dGetD, dPutD, dic', isDic, keyQ, keyP, dLRg, dkN2, dBor, nstD, dN0, dFnNK, flatO, flatCl, dSortS, gNeS, gIn, gNotIn, gIndex, isLstD, dMthL, gDivmod, sh_non, sh_bl, sh_int, nd_non, nd_bl, nd_int, nd_str, nd_lst, nd_tup, nds_nil, nds_cons, ev_int, ev_str, ev_bl, isi_str_non, isi_str_bl, isi_str_int, isi_str_str, isi_str_lst, isi_str_tup, isi_int_non, isi_int_bl, isi_int_int, isi_int_str, isi_int_lst, isi_int_tup, isi_bool_non, isi_bool_bl, isi_bool_int, isi_bool_str, isi_bool_lst, isi_bool_tup, isi_list_non, isi_list_bl, isi_list_int, isi_list_str, isi_list_lst, isi_list_tup, isi_tuple_non, isi_tuple_bl, isi_tuple_int, isi_tuple_str, isi_tuple_lst, isi_tuple_tup, Bool.not_true, Bool.not_false, Bool.true_or, Bool.false_or, Bool.or_false, Bool.or_true, Bool.true_and, Bool.false_and, Bool.and_true, Bool.and_false, Bool.false_eq_true, if_true, if_false, true_and, and_true, eq_self_iff_true, beq_self_eq_true, atI_0, atI_1, atI_2, atI_3, atI_4, atI_5, atI_6, atI_7, atI_8, atI_9, atI_10, atI_11, atI_12, atI_13, atI_14, ixN_3_0, ixN_3_1, ixN_3_2, Option.some.injEq, exists_eq_left', Int.reduceToNat, Int.reduceNeg, rowT]
  exact ⟨ws, rfl, line_row hw, _, rfl, nic_up (nic_nats (by omega)), q _ (hb1.mono (by omega))⟩
end
end C12
namespace C12
open PySem PySem.Spec PyProof.Rows L2 TL Bl Dl Pm
-- DLJ DLK
section
variable {P : Program} {w : World} {K : PySem.W.Frag} {mg : Str → Option Value} {base : Heap}
theorem tails_last (S : List (List Str)) : ∃ xs, tails S = xs ++ [cnt S] := by
  cases S with
  | nil => exact ⟨[], rfl⟩
  | cons r S => exact ⟨tails S, rfl⟩
theorem tails_len : ∀ S : List (List Str), (tails S).length = S.length + 1
  | [] => rfl
  | r :: S => by
    show (tails S ++ [cnt (r :: S)]).length = _
    rw [List.length_append, tails_len S]
    rfl
theorem last_at (S : List (List Str)) : atI (natsL (tails S)) (-1) = some (.int (cnt S : Nat)) := by
  obtain ⟨xs, e⟩ := tails_last S
  rw [e]
  unfold natsL
  refine atI_last (by simp) ?_
  rw [List.map_append, List.getElem?_append_right (by simp)]
  simp
def t_bigr : GNM := fun ys ds Q => ∃ n : Nat, BagOk n ys ∧ n ≤ 1000 ∧ ds = [] ∧ ∀ ys', BagOk (n + 31) ys' → Q (.bool true) ys'
theorem d_big_right (a : At K mg "_law_big_right" s__law_big_right ["bag"]) (B : Names mg) (h__law_big : FM P w K mg base "_law_big" 2 1 t_big) (h_written_out : FD P w K mg base "written_out" 5 1 t_written_out) (h_right_sizes : FN P w K mg base "right_sizes" 4 1 t_rsz) (h__law_same : FD P w K mg base "_law_same" 3 2 (t_same 2)) : FM P w K mg base "_law_big_right" 6 1 t_bigr := by
  obtain ⟨f, fd, F, m, b⟩ := a
  refine ⟨f, fd, _, ok_M F sc__law_big_right (by decide) (fun cdv A outer s H E hr => (dss_cut (ds_par (i := 1) (j := 2) rfl sc__law_big_right.nd rfl rfl (by decide) rfl rfl (dk_e (de_fnM 0 h__law_big (hr.mono (by decide)) (by rfl) (fun _ => pass0) da_nil)) (dk_l (dl_lst (da_cons de_int da_nil))) (by rfl))
      (dss_cut (ds_for PassesOwn.never rfl (di_sq (de_revL (de_var 1))) (dg_name (i := 3) sc__law_big_right.nd rfl (Or.inl rfl)) (dss_one (ds_mut 2 PySem.F.slot_list_append PySem.F.type_list_append mt_appD (da_cons (de_op op_mulD (de_ixO 2 (de_neg de_int)) (de_callB cr_lenD (by rfl) B.len (by decide +kernel) (da_cons (de_var 3) da_nil))) da_nil))))
      (dss_one (ds_ret (de_fn h__law_same (hr.mono (by decide)) (by rfl) (fun _ => pass0) (da_cons (de_frz (dl_fnN h_right_sizes (hr.mono (by decide)) (by rfl) (fun _ => pass0) (da_cons (de_fn h_written_out (hr.mono (by decide)) (by rfl) (fun _ => pass0) (da_cons (de_callTy cr_tupleD (by rfl) B.tuple (by decide +kernel) (da_cons (de_var 1) da_nil)) da_nil)) da_nil))) (da_cons (de_var 2) da_nil)))))))
      ) (fun p ys ds Q0 hl h => ?_), m, F.kp, b⟩
  obtain ⟨n, hb, hn, rfl, q⟩ := h
  simp only [dSeq, dSet, dkE, dkL, dVar, dVarK, at', startD, dC, dOp, dCmp, dVal, dTest, dNot, dAnd, dOr, dAndV, dOrV, dNotV, dIf, dNil, dCons, dTup, dLst, dFrz, dCall, dMth, isStr, dPart0, dPart, dSl, gSlice, dStep, dRevL, dNext, dNever, dRet, dDrop, dIfS, dPar, dPar3, dAsg, dFor, dWhile, dLc, dLc2, gN, gTupD, gNc, gN0, dYes, dSq, dSeqL, dSeqT, dSeqS, dRng1, dRng2, dRng3, dEnum, dEnumT, dZip, dFn, dFnM, dFnK, own', isOwn, dMut, gApp, gExt, dSto, dIxO, dLenO, dLenS, dIxS', dFnS, scr', isScr, dRetN, dSeqN, dFnN, dFnNS, dIsi, dIsi2, dNeg, gAdd, Dl.gSub, gMul, gDiv, gMod, gPow, gEq, gNe, gLt, gLe, gGt, gGe, gIs, gIsNot, isNone, gIx, gLen, gMax, gMin, gSum, gAll, gAbs, gInt, gTuple, gList, gListS, gStrI, gRepr, gJoin, gSw, gEw, gAscii, gAlpha, gLower, List.set, List.map, List.length_cons, List.length_nil, List.cons_append, List.nil_append, List.replicate, dWipe, Nat.reduceAdd, Nat.reduceSub, dChain, gInTup, dFnMN, dkD, dInD, dNotInD, dGetD, dPutD, dic', isDic, keyQ, keyP, dLRg, dkN2, dBor, nstD, dN0, dFnNK, flatO, flatCl, dSortS, gNeS, gIn, gNotIn, gIndex, isLstD, dMthL, gDivmod, sh_non, sh_bl, sh_int, nd_non, nd_bl, nd_int, nd_str, nd_lst, nd_tup, nds_nil, nds_cons, ev_int, ev_str, ev_bl, isi_str_non, isi_str_bl, isi_str_int, isi_str_str, isi_str_lst, isi_str_tup, isi_int_non, isi_int_bl, isi_int_int, isi_int_str, isi_int_lst, isi_int_tup, isi_bool_non, isi_bool_bl, isi_bool_int, isi_bool_str, isi_bool_lst, isi_bool_tup, isi_list_non, isi_list_bl, isi_list_int, isi_list_str, isi_list_lst, isi_list_tup, isi_tuple_non, isi_tuple_bl, isi_tuple_int, isi_tuple_str, isi_tuple_lst, isi_tuple_tup, Bool.not_true, Bool.not_false, Bool.true_or, Bool.false_or, Bool.or_false, Bool.or_true, Bool.true_and, Bool.false_and, Bool.and_true, Bool.and_false, Bool.false_eq_true, if_true, if_false, true_and, and_true, eq_self_iff_true, beq_self_eq_true, atI_0, atI_1, atI_2, atI_3, atI_4, atI_5, atI_6, atI_7, atI_8, atI_9, atI_10, atI_11, atI_12, atI_13, atI_14, ixN_3_0, ixN_3_1, ixN_3_2, Option.some.injEq, exists_eq_left', Int.reduceToNat, Int.reduceNeg, rowT]
  refine dCut_open (fun Γ => ∃ (bb : Nat) (rs : List (List Str)) (ys' : List PyData) (p1 : Addr), Γ = [some (.own p ys'), some (.d (.list (rs.map rowT))), some (.own p1 [.int 1]), none] ∧ (1 ≤ rs.length ∧ rs.length ≤ 11 ∧ BigF bb rs ∧ Bl.cnt rs ≤ 2000 ∧ LetR rs) ∧ BagOk (n + 30) ys') ?_ ?_
  · simp only [dSeq, dSet, dkE, dkL, dVar, dVarK, at', startD, dC, dOp, dCmp, dVal, dTest, dNot, dAnd, dOr, dAndV, dOrV, dNotV, dIf, dNil, dCons, dTup, dLst, dFrz, dCall, dMth, isStr, dPart0, dPart, dSl, gSlice, dStep, dRevL, dNext, dNever, dRet, dDrop, dIfS, dPar, dPar3, dAsg, dFor, dWhile, dLc, dLc2, gN, gTupD, gNc, gN0, dYes, dSq, dSeqL, dSeqT, dSeqS, dRng1, dRng2, dRng3, dEnum, dEnumT, dZip, dFn, dFnM, dFnK, own', isOwn, dMut, gApp, gExt, dSto, dIxO, dLenO, dLenS, dIxS', dFnS, scr', isScr, dRetN, dSeqN, dFnN, dFnNS, dIsi, dIsi2, dNeg, gAdd, Dl.gSub, gMul, gDiv, gMod, gPow, gEq, gNe, gLt, gLe, gGt, gGe, gIs, gIsNot, isNone, gIx, gLen, gMax, gMin, gSum, gAll, gAbs, gInt, gTuple, gList, gListS, gStrI, gRepr, gJoin, gSw, gEw, gAscii, gAlpha, gLower, List.set, List.map, List.length_cons, List.length_nil, List.cons_append, List.nil_append, List.replicate, dWipe, Nat.reduceAdd, Nat.reduceSub, dChain, gInTup, dFnMN, dkD, dInD, dNotInD, dGetD, dPutD, dic', isDic, keyQ, keyP, dLRg, dkN2, dBor, nstD, dN0, dFnNK, flatO, flatCl, dSortS, gNeS, gIn, gNotIn, gIndex, isLstD, dMthL, gDivmod, sh_non, sh_bl, sh_int, nd_non, nd_bl, nd_int, nd_str, nd_lst, nd_tup, nds_nil, nds_cons, ev_int, ev_str, ev_bl, isi_str_non, isi_str_bl, isi_str_int, isi_str_str, isi_str_lst, isi_str_tup, isi_int_non, isi_int_bl, isi_int_int, isi_int_str, isi_int_lst, isi_int_tup, isi_bool_non, isi_bool_bl, isi_bool_int, isi_bool_str, isi_bool_lst, isi_bool_tup, isi_list_non, isi_list_bl, isi_list_int, isi_list_str, isi_list_lst, isi_list_tup, isi_tuple_non, isi_tuple_bl, isi_tuple_int, isi_tuple_str, isi_tuple_lst, isi_tuple_tup, Bool.not_true, Bool.not_false, Bool.true_or, Bool.false_or, Bool.or_false, Bool.or_true, Bool.true_and, Bool.false_and, Bool.and_true, Bool.and_false, Bool.false_eq_true, if_true, if_false, true_and, and_true, eq_self_iff_true, beq_self_eq_true, atI_0, atI_1, atI_2, atI_3, atI_4, atI_5, atI_6, atI_7, atI_8, atI_9, atI_10, atI_11, atI_12, atI_13, atI_14, ixN_3_0, ixN_3_1, ixN_3_2, Option.some.injEq, exists_eq_left', Int.reduceToNat, Int.reduceNeg, rowT]
    refine ⟨n, hb, by omega, rfl, fun bb rs ys' h1 h2 h3 h4 h5 hb2 => ?_⟩
    exact ⟨sl_le (by decide), fun p1 => ⟨bb, rs, ys', p1, rfl, ⟨h1, h2, h3, h4, h5.2⟩, hb2⟩⟩
  rintro Γ ⟨bb, rs, ys1, p1, rfl, ⟨r1, r11, hF, c2, hL⟩, hb1⟩
  have hpos : ∀ r ∈ rs, 1 ≤ r.length := fun r hr => (hF.row r hr).1.1
  have hp : ProdOk rs := ⟨r1, by omega, fun r hr => ⟨(hF.row r hr).1.1, by have := (hF.row r hr).1.2; omega, fun x hx => ⟨((hF.row r hr).2 x hx).1, Nat.le_trans ((hF.row r hr).2 x hx).2 (by decide)⟩⟩⟩
  have hw : RowOk (prodW rs) := ⟨by rw [prodW_len]; exact hL.pos, by rw [prodW_len]; omega, fun x hx => by
    have z := prodW_ok (b := 1) (rs := rs) (fun r hr => (hF.row r hr).2) x hx
    exact ⟨z.1, by omega⟩⟩
  refine dCut_open (fun Γ => ∃ o3, Γ = [some (.own p ys1), some (.d (.list (rs.map rowT))), some (.own p1 (natsL (tails rs))), o3]) ?_ ?_
  · simp only [stpL_rev, dSeq, dSet, dkE, dkL, dVar, dVarK, at', startD, dC, dOp, dCmp, dVal, dTest, dNot, dAnd, dOr, dAndV, dOrV, dNotV, dIf, dNil, dCons, dTup, dLst, dFrz, dCall, dMth, isStr, dPart0, dPart, dSl, gSlice, dStep, dRevL, dNext, dNever, dRet, dDrop, dIfS, dPar, dPar3, dAsg, dFor, dWhile, dLc, dLc2, gN, gTupD, gNc, gN0, dYes, dSq, dSeqL, dSeqT, dSeqS, dRng1, dRng2, dRng3, dEnum, dEnumT, dZip, dFn, dFnM, dFnK, own', isOwn, dMut, gApp, gExt, dSto, dIxO, dLenO, dLenS, dIxS', dFnS, scr', isScr, dRetN, dSeqN, dFnN, dFnNS, dIsi, dIsi2, dNeg, gAdd, Dl.gSub, gMul, gDiv, gMod, gPow, gEq, gNe, gLt, gLe, gGt, gGe, gIs, gIsNot, isNone, gIx, gLen, gMax, gMin, gSum, gAll, gAbs, gInt, gTuple, gList, gListS, gStrI, gRepr, gJoin, gSw, gEw, gAscii, gAlpha, gLower, List.set, List.map, List.length_cons, List.length_nil, List.cons_append, List.nil_append, List.replicate, dWipe, Nat.reduceAdd, Nat.reduceSub, dChain, gInTup, dFnMN, dkD, dInD, dNotInD, dGetD, dPutD, dic', isDic, keyQ, keyP, dLRg, dkN2, dBor, nstD, dN0, dFnNK, flatO, flatCl, dSortS, gNeS, gIn, gNotIn, gIndex, isLstD, dMthL, gDivmod, sh_non, sh_bl, sh_int, nd_non, nd_bl, nd_int, nd_str, nd_lst, nd_tup, nds_nil, nds_cons, ev_int, ev_str, ev_bl, isi_str_non, isi_str_bl, isi_str_int, isi_str_str, isi_str_lst, isi_str_tup, isi_int_non, isi_int_bl, isi_int_int, isi_int_str, isi_int_lst, isi_int_tup, isi_bool_non, isi_bool_bl, isi_bool_int, isi_bool_str, isi_bool_lst, isi_bool_tup, isi_list_non, isi_list_bl, isi_list_int, isi_list_str, isi_list_lst, isi_list_tup, isi_tuple_non, isi_tuple_bl, isi_tuple_int, isi_tuple_str, isi_tuple_lst, isi_tuple_tup, Bool.not_true, Bool.not_false, Bool.true_or, Bool.false_or, Bool.or_false, Bool.or_true, Bool.true_and, Bool.false_and, Bool.and_true, Bool.and_false, Bool.false_eq_true, if_true, if_false, true_and, and_true, eq_self_iff_true, beq_self_eq_true, atI_0, atI_1, atI_2, atI_3, atI_4, atI_5, atI_6, atI_7, atI_8, atI_9, atI_10, atI_11, atI_12, atI_13, atI_14, ixN_3_0, ixN_3_1, ixN_3_2, Option.some.injEq, exists_eq_left', Int.reduceToNat, Int.reduceNeg, rowT]
    rw [← List.map_reverse]
    refine for_ind (fun i Γ => ∃ o3, Γ = [some (.own p ys1), some (.d (.list (rs.map rowT))), some (.own p1 (natsL (tails (rs.drop (rs.length - i))))), o3]) ⟨none, ?_⟩ ?_ fun Γ h => ?_
    · rw [Nat.sub_zero, List.drop_length]
      rfl
    · rintro i d Γ hi ⟨o3, rfl⟩ K hk
      rw [List.getElem?_map] at hi
      obtain ⟨r, hr, rfl⟩ := Option.map_eq_some_iff.mp hi
      have hi2 : i < rs.length := by
        have := (List.getElem?_eq_some_iff.mp hr).1
        rw [List.length_reverse] at this
        exact this
      have hmem : r ∈ rs := List.mem_reverse.mp (List.mem_of_getElem? hr)
      rw [drop_one hr] at hk
      have hSl : (rs.drop (rs.length - i)).length ≤ 40 := by rw [List.length_drop]; omega
      have hS : ∀ q ∈ rs.drop (rs.length - i), q.length ≤ 4000 := fun q hq => by have := (hF.row q (List.mem_of_mem_drop hq)).1.2; omega
      generalize rs.drop (rs.length - i) = S at hk hSl hS ⊢
      have rl := (hF.row r hmem).1.2
      simp only [last_at, List.length_map, dSeq, dSet, dkE, dkL, dVar, dVarK, at', startD, dC, dOp, dCmp, dVal, dTest, dNot, dAnd, dOr, dAndV, dOrV, dNotV, dIf, dNil, dCons, dTup, dLst, dFrz, dCall, dMth, isStr, dPart0, dPart, dSl, gSlice, dStep, dRevL, dNext, dNever, dRet, dDrop, dIfS, dPar, dPar3, dAsg, dFor, dWhile, dLc, dLc2, gN, gTupD, gNc, gN0, dYes, dSq, dSeqL, dSeqT, dSeqS, dRng1, dRng2, dRng3, dEnum, dEnumT, dZip, dFn, dFnM, dFnK, own', isOwn, dMut, gApp, gExt, dSto, dIxO, dLenO, dLenS, dIxS', dFnS, scr', isScr, dRetN, dSeqN, dFnN, dFnNS, dIsi, dIsi2, dNeg, gAdd, Dl.gSub, gMul, gDiv, gMod, gPow, gEq, gNe, gLt, gLe, gGt, gGe, gIs, gIsNot, isNone, gIx, gLen, gMax, gMin, gSum, gAll, gAbs, gInt, gTuple, gList, gListS, gStrI, gRepr, gJoin, gSw, gEw, gAscii, gAlpha, gLower, List.set, List.map, List.length_cons, List.length_nil, List.cons_append, List.nil_append, List.replicate, dWipe, Nat.reduceAdd, Nat.reduceSub, dChain, gInTup, dFnMN, dkD, dInD, dNotInD, dGetD, dPutD, dic', isDic, keyQ, keyP, dLRg, dkN2, dBor, nstD, dN0, dFnNK, flatO, flatCl, dSortS, gNeS, gIn, gNotIn, gIndex, isLstD, dMthL, gDivmod, sh_non, sh_bl, sh_int, nd_non, nd_bl, nd_int, nd_str, nd_lst, nd_tup, nds_nil, nds_cons, ev_int, ev_str, ev_bl, isi_str_non, isi_str_bl, isi_str_int, isi_str_str, isi_str_lst, isi_str_tup, isi_int_non, isi_int_bl, isi_int_int, isi_int_str, isi_int_lst, isi_int_tup, isi_bool_non, isi_bool_bl, isi_bool_int, isi_bool_str, isi_bool_lst, isi_bool_tup, isi_list_non, isi_list_bl, isi_list_int, isi_list_str, isi_list_lst, isi_list_tup, isi_tuple_non, isi_tuple_bl, isi_tuple_int, isi_tuple_str, isi_tuple_lst, isi_tuple_tup, Bool.not_true, Bool.not_false, Bool.true_or, Bool.false_or, Bool.or_false, Bool.or_true, Bool.true_and, Bool.false_and, Bool.and_true, Bool.and_false, Bool.false_eq_true, if_true, if_false, true_and, and_true, eq_self_iff_true, beq_self_eq_true, atI_0, atI_1, atI_2, atI_3, atI_4, atI_5, atI_6, atI_7, atI_8, atI_9, atI_10, atI_11, atI_12, atI_13, atI_14, ixN_3_0, ixN_3_1, ixN_3_2, Option.some.injEq, exists_eq_left', Int.reduceToNat, Int.reduceNeg, rowT]
      have e1 : ((cnt S : Nat) : Int) * ((r.length : Nat) : Int) = ((cnt (r :: S) : Nat) : Int) := by rw [Pm.cnt_cons, Int.natCast_mul]
      have e2 : natsL (tails S) ++ [PyData.int ((cnt (r :: S) : Nat) : Int)] = natsL (tails (r :: S)) := by
        show natsL (tails S) ++ natsL [cnt (r :: S)] = natsL (tails S ++ [cnt (r :: S)])
        unfold natsL
        rw [List.map_append]
      rw [e1, e2]
      have wd : CMulW ((cnt S : Nat) : Int) ((r.length : Nat) : Int) := wide_nat (n := 12 * S.length + 1) (m := 13) (cnt_lt hS) (Nat.lt_of_le_of_lt rl (by decide)) (by omega) (by decide) (by omega)
      refine ⟨wd, ?_, hk _ ⟨_, rfl⟩⟩
      unfold natsL
      rw [List.length_map, tails_len]
      exact Nat.lt_of_lt_of_le (by omega : S.length + 1 < 100) (sl_le (by decide))
    · obtain ⟨o3, rfl⟩ := h
      rw [List.length_map, List.length_reverse, Nat.sub_self, List.drop_zero]
      exact ⟨_, rfl⟩
  rintro Γ ⟨o3, rfl⟩
  simp only [dSeq, dSet, dkE, dkL, dVar, dVarK, at', startD, dC, dOp, dCmp, dVal, dTest, dNot, dAnd, dOr, dAndV, dOrV, dNotV, dIf, dNil, dCons, dTup, dLst, dFrz, dCall, dMth, isStr, dPart0, dPart, dSl, gSlice, dStep, dRevL, dNext, dNever, dRet, dDrop, dIfS, dPar, dPar3, dAsg, dFor, dWhile, dLc, dLc2, gN, gTupD, gNc, gN0, dYes, dSq, dSeqL, dSeqT, dSeqS, dRng1, dRng2, dRng3, dEnum, dEnumT, dZip, dFn, dFnM, dFnK, own', isOwn, dMut, gApp, gExt, dSto, dIxO, dLenO, dLenS, dIxS', dFnS, scr', isScr, dRetN, dSeqN, dFnN, dFnNS, dIsi, dIsi2, dNeg, gAdd, Dl.gSub, gMul, gDiv, gMod, gPow, gEq, gNe, gLt, gLe, gGt, gGe, gIs, gIsNot, isNone, gIx, gLen, gMax, gMin, gSum, gAll, gAbs, gInt, gTuple, gList, gListS, gStrI, gRepr, gJoin, gSw, gEw, gAscii, gAlpha, gLower, List.set, List.map, List.length_cons, List.length_nil, List.cons_append, List.nil_append, List.replicate, dWipe, Nat.reduceAdd, Nat.reduceSub, dChain, gInTup, dFnMN, dkD, dInD, dNotInD, dGetD, dPutD, dic', isDic, keyQ, keyP, dLRg, dkN2, dBor, nstD, dN0, dFnNK, flatO, flatCl, dSortS, gNeS, gIn, gNotIn, gIndex, isLstD, dMthL, gDivmod, sh_non, sh_bl, sh_int, nd_non, nd_bl, nd_int, nd_str, nd_lst, nd_tup, nds_nil, nds_cons, ev_int, ev_str, ev_bl, isi_str_non, isi_str_bl, isi_str_int, isi_str_str, isi_str_lst, isi_str_tup, isi_int_non, isi_int_bl, isi_int_int, isi_int_str, isi_int_lst, isi_int_tup, isi_bool_non, isi_bool_bl, isi_bool_int, isi_bool_str, isi_bool_lst, isi_bool_tup, isi_list_non, isi_list_bl, isi_list_int, isi_list_str, isi_list_lst, isi_list_tup, isi_tuple_non, isi_tuple_bl, isi_tuple_int, isi_tuple_str, isi_tuple_lst, isi_tuple_tup, Bool.not_true, Bool.not_false, Bool.true_or, Bool.false_or, Bool.or_false, Bool.or_true, Bool.true_and, Bool.false_and, Bool.and_true, Bool.and_false, Bool.false_eq_true, if_true, if_false, true_and, and_true, eq_self_iff_true, beq_self_eq_true, atI_0, atI_1, atI_2, atI_3, atI_4, atI_5, atI_6, atI_7, atI_8, atI_9, atI_10, atI_11, atI_12, atI_13, atI_14, ixN_3_0, ixN_3_1, ixN_3_2, Option.some.injEq, exists_eq_left', Int.reduceToNat, Int.reduceNeg, rowT]
  refine ⟨rs, rfl, hp, c2, prodW rs, rfl, hw, ?_⟩
  rw [rsz_tails hL]
  exact ⟨_, rfl, nic_up (nic_nats (by rw [tails_len]; omega)), q _ (hb1.mono (by omega))⟩
end
end C12
namespace C12
open PySem PySem.Spec PyProof.Rows L2 TL Bl Dl Pm
-- DLJ DLK
-- GI MOST_WORDS 2000
-- HAVE _law_same s__law_same [found, due] h__law_same := d_same (P := l.prog) (w := w) (base := base) A# T 2
section
variable {P : Program} {w : World} {K : PySem.W.Frag} {mg : Str → Option Value} {base : Heap}
theorem if_b {c : Prop} {i : Decidable c} {A B : Prop} (a : c → A) (b : ¬ c → B) : @ite Prop c i A B := by
  split
  · exact a ‹_›
  · exact b ‹_›
theorem six : ∀ {j : Nat} {d : PyData}, [PyData.int 60, .int 24, .int 24, .int 12, .int 12, .int 6][j]? = some d → ∃ mo : Nat, 1 ≤ mo ∧ mo ≤ 60 ∧ d = .int (mo : Int) ∧ j < 6
  | 0, _, hj => ⟨60, by decide, by decide, (Option.some.inj hj).symm, by decide⟩
  | 1, _, hj => ⟨24, by decide, by decide, (Option.some.inj hj).symm, by decide⟩
  | 2, _, hj => ⟨24, by decide, by decide, (Option.some.inj hj).symm, by decide⟩
  | 3, _, hj => ⟨12, by decide, by decide, (Option.some.inj hj).symm, by decide⟩
  | 4, _, hj => ⟨12, by decide, by decide, (Option.some.inj hj).symm, by decide⟩
  | 5, _, hj => ⟨6, by decide, by decide, (Option.some.inj hj).symm, by decide⟩
  | k + 6, _, hj => by cases hj
def rowB (ws : List Str) : Bool := decide (1 ≤ ws.length) && decide (ws.length ≤ 10) && ws.all fun x => ((tl x).all fun c => decide (97 ≤ c) && decide (c ≤ 122)) && decide (x.length ≤ 10)
theorem rowB_ok {ws : List Str} (h : rowB ws = true) : RowOk ws := by
  unfold rowB at h
  simp only [Bool.and_eq_true, decide_eq_true_eq, List.all_eq_true] at h
  exact ⟨h.1.1, by omega, fun x hx => ⟨fun c hc => (h.2 x hx).1 c hc, by have := (h.2 x hx).2; omega⟩⟩
def rows9 : List (List Str) := [["", "x", "xx", "xxx", "xxxx", "xxxxx"], ["b", "ab", "aab", "aaab"], ["xxx", "xx", "x", ""], ["a"], ["a", "a"], ["ac", "ad", "bc", "bd"], ["ac", "ad", "bd", "bc"], ["ab", "ba", "aab", "aba"], ["", "", "", "", "", ""]]
def dues9 : List (List Nat) := [[1, 2, 3, 6], [1, 2, 4], [1, 2, 4], [1], [1, 2], [1, 2, 4], [1, 4], [1, 2, 4], [1, 2, 3, 6]]
theorem nine_ok : ∀ r ∈ rows9, RowOk r := fun r hr => rowB_ok ((List.all_eq_true.mp (show rows9.all rowB = true by decide +kernel)) r hr)
theorem nine_sz : rows9.map rsz = dues9 := by decide +kernel
theorem o_law {f : Addr} {fd : FuncData} (F : Fun K "law" "law" s_law f fd) (B : Names mg) (h__law_cell_at : FS P w K mg base "_law_cell_at" 1 2 t_cell_at) (h__law_bag : FN P w K mg base "_law_bag" 1 2 t_bag) (h__law_big_right : FM P w K mg base "_law_big_right" 6 1 t_bigr) (h__law_right : FM P w K mg base "_law_right" 5 2 t_right) (h_right_sizes : FN P w K mg base "right_sizes" 4 1 t_rsz) : FnG P w K mg base CX0 7 f fd ["script"] (spLaw K) := by
  refine ok_law F sc_law (by decide) (fun cdv A outer s H E hgd hr => (dss_cut (ds_for PassesOwn.never rfl (di_range1 (by rfl) B.range (da_cons (de_callB (cr_maxD rfl) (by rfl) B.max (by decide +kernel) (da_cons de_int (da_cons (de_callB (cr_minD rfl) (by rfl) B.min (by decide +kernel) (da_cons de_int (da_cons (de_lenS 0 (by rfl) B.len) da_nil))) da_nil))) da_nil)) (dg_name (i := 1) sc_law.nd rfl (Or.inl rfl)) (dss_cut (ds_set (i := 2) sc_law.nd rfl (Or.inl rfl) (dk_l (dl_fnN h__law_bag (hr.mono (by decide)) (by rfl) (fun _ => pass0) (da_cons (de_fnS 0 h__law_cell_at (hr.mono (by decide)) (by rfl) (fun _ => pass0) (da_cons (de_var 1) da_nil)) (da_cons (de_var 1) da_nil)))))
      (dss_cut (ds_if (DW.pt (dw_and (dt_cmp (op_eqDD hr.units) (de_var 1) de_int) (dw_and1 (dt_not (dt_val (de_fnM 2 h__law_big_right (hr.mono (by decide)) (by rfl) (fun _ => pass0) da_nil)))))) (dss_one (ds_ret de_bl)) dss_nil)
      (dss_one (ds_for PassesOwn.never rfl (di_sq (de_frz (dl_lst (da_cons de_int (da_cons de_int (da_cons de_int (da_cons de_int (da_cons de_int (da_cons de_int da_nil))))))))) (dg_name (i := 3) sc_law.nd rfl (Or.inl rfl)) (dss_one (ds_if (dt_not (dt_val (de_fnM 2 h__law_right (hr.mono (by decide)) (by rfl) (fun _ => pass0) (da_cons (de_var 3) da_nil)))) (dss_one (ds_ret de_bl)) dss_nil)))))))
      (dss_cut (ds_set (i := 4) sc_law.nd rfl (Or.inl rfl) (dk_e (de_frz (dl_lst (da_cons (de_tup (da_cons de_str (da_cons de_str (da_cons de_str (da_cons de_str (da_cons de_str (da_cons de_str da_nil))))))) (da_cons (de_tup (da_cons de_str (da_cons de_str (da_cons de_str (da_cons de_str da_nil))))) (da_cons (de_tup (da_cons de_str (da_cons de_str (da_cons de_str (da_cons de_str da_nil))))) da_nil)))))))
      (dss_cut (ds_set (i := 4) sc_law.nd rfl (Or.inl rfl) (dk_e (de_op op_addD (de_var 4) (de_frz (dl_lst (da_cons (de_tup (da_cons de_str da_nil)) (da_cons (de_tup (da_cons de_str (da_cons de_str da_nil))) (da_cons (de_tup (da_cons de_str (da_cons de_str (da_cons de_str (da_cons de_str da_nil))))) (da_cons (de_tup (da_cons de_str (da_cons de_str (da_cons de_str (da_cons de_str da_nil))))) da_nil)))))))))
      (dss_cut (ds_set (i := 4) sc_law.nd rfl (Or.inl rfl) (dk_e (de_op op_addD (de_var 4) (de_frz (dl_lst (da_cons (de_tup (da_cons de_str (da_cons de_str (da_cons de_str (da_cons de_str da_nil))))) (da_cons (de_op op_mulD (de_tup (da_cons de_str da_nil)) de_int) da_nil)))))))
      (dss_cut (ds_set (i := 5) sc_law.nd rfl (Or.inl rfl) (dk_e (de_frz (dl_lst (da_cons (de_frz (dl_lst (da_cons de_int (da_cons de_int (da_cons de_int (da_cons de_int da_nil)))))) (da_cons (de_frz (dl_lst (da_cons de_int (da_cons de_int (da_cons de_int da_nil))))) (da_cons (de_frz (dl_lst (da_cons de_int (da_cons de_int (da_cons de_int da_nil))))) (da_cons (de_frz (dl_lst (da_cons de_int da_nil))) (da_cons (de_frz (dl_lst (da_cons de_int (da_cons de_int da_nil)))) (da_cons (de_frz (dl_lst (da_cons de_int (da_cons de_int (da_cons de_int da_nil))))) (da_cons (de_frz (dl_lst (da_cons de_int (da_cons de_int da_nil)))) (da_cons (de_frz (dl_lst (da_cons de_int (da_cons de_int (da_cons de_int da_nil))))) (da_cons (de_frz (dl_lst (da_cons de_int (da_cons de_int (da_cons de_int (da_cons de_int da_nil)))))) da_nil)))))))))))))
      (dss_one (ds_ret (de_cmp (op_eqDD hr.units) (de_frz (dl_lc (own := [("line", 6)]) rfl sc_law.nd (di_sq (de_var 4)) (blkOk_by (N := ["script", "k", "bag", "most", "rows", "due", "line"]) (sc := defScope s_law) (by decide +kernel)) (fun _ _ _ _ _ => (dg_name (i := 6) sc_law.nd rfl (Or.inl rfl))) (fun _ _ _ _ _ => dq_nil) (fun _ _ _ _ _ => (de_frz (dl_fnN h_right_sizes (hr.mono (by decide)) (by rfl) (fun _ => pass0) (da_cons (de_var 6) da_nil)))))) (de_var 5)))))))))
      ) (fun ns hns => ?_)
  refine dCut_open (fun Γ => ∃ o1 o2 o3, Γ = [some (.scr ns), o1, o2, o3, none, none, none]) ?_ ?_
  · simp only [dSeq, dSet, dkE, dkL, dVar, dVarK, at', startD, dC, dOp, dCmp, dVal, dTest, dNot, dAnd, dOr, dAndV, dOrV, dNotV, dIf, dNil, dCons, dTup, dLst, dFrz, dCall, dMth, isStr, dPart0, dPart, dSl, gSlice, dStep, dRevL, dNext, dNever, dRet, dDrop, dIfS, dPar, dPar3, dAsg, dFor, dWhile, dLc, dLc2, gN, gTupD, gNc, gN0, dYes, dSq, dSeqL, dSeqT, dSeqS, dRng1, dRng2, dRng3, dEnum, dEnumT, dZip, dFn, dFnM, dFnK, own', isOwn, dMut, gApp, gExt, dSto, dIxO, dLenO, dLenS, dIxS', dFnS, scr', isScr, dRetN, dSeqN, dFnN, dFnNS, dIsi, dIsi2, dNeg, gAdd, Dl.gSub, gMul, gDiv, gMod, gPow, gEq, gNe, gLt, gLe, gGt, gGe, gIs, gIsNot, isNone, gIx, gLen, gMax, gMin, gSum, gAll, gAbs, gInt, gTuple, gList, gListS, gStrI, gRepr, gJoin, gSw, gEw, gAscii, gAlpha, gLower, List.set, List.map, List.length_cons, List.length_nil, List.cons_append, List.nil_append, List.replicate, dWipe, Nat.reduceAdd, Nat.reduceSub, dChain, gInTup, dFnMN, dkD, dInD, dNotInD, dGetD, dPutD, dic', isDic, keyQ, keyP, dLRg, dkN2, dBor, nstD, dN0, dFnNK, flatO, flatCl, dSortS, gNeS, gIn, gNotIn, gIndex, isLstD, dMthL, gDivmod, sh_non, sh_bl, sh_int, nd_non, nd_bl, nd_int, nd_str, nd_lst, nd_tup, nds_nil, nds_cons, ev_int, ev_str, ev_bl, isi_str_non, isi_str_bl, isi_str_int, isi_str_str, isi_str_lst, isi_str_tup, isi_int_non, isi_int_bl, isi_int_int, isi_int_str, isi_int_lst, isi_int_tup, isi_bool_non, isi_bool_bl, isi_bool_int, isi_bool_str, isi_bool_lst, isi_bool_tup, isi_list_non, isi_list_bl, isi_list_int, isi_list_str, isi_list_lst, isi_list_tup, isi_tuple_non, isi_tuple_bl, isi_tuple_int, isi_tuple_str, isi_tuple_lst, isi_tuple_tup, Bool.not_true, Bool.not_false, Bool.true_or, Bool.false_or, Bool.or_false, Bool.or_true, Bool.true_and, Bool.false_and, Bool.and_true, Bool.and_false, Bool.false_eq_true, if_true, if_false, true_and, and_true, eq_self_iff_true, beq_self_eq_true, atI_0, atI_1, atI_2, atI_3, atI_4, atI_5, atI_6, atI_7, atI_8, atI_9, atI_10, atI_11, atI_12, atI_13, atI_14, ixN_3_0, ixN_3_1, ixN_3_2, Option.some.injEq, exists_eq_left', Int.reduceToNat, Int.reduceNeg, rowT]
    obtain ⟨N, hN⟩ : ∃ N : Int, N = if (if (ns.length : Int) < 4 then (ns.length : Int) else 4) > 1 then if (ns.length : Int) < 4 then (ns.length : Int) else 4 else 1 := ⟨_, rfl⟩
    have hN4 : 0 ≤ N ∧ N ≤ 4 := by
      subst hN
      split <;> split <;> omega
    rw [← hN]
    refine ⟨⟨by omega, by omega⟩, ?_⟩
    refine for_ind (fun i Γ => ∃ o1 o2 o3, Γ = [some (.scr ns), o1, o2, o3, none, none, none]) ⟨none, none, none, rfl⟩ ?_ fun Γ h => h
    rintro i d Γ hi ⟨o1, o2, o3, rfl⟩ K hk
    obtain ⟨hi2, rfl⟩ := rng1_at hi
    have hi4 : i < 4 := by omega
    refine dCut_open (fun Γ => ∃ p ys, Γ = [some (.scr ns), some (.d (.int (0 + (i : Int)))), some (.own p ys), o3, none, none, none] ∧ BagOk 0 ys) ?_ ?_
    · simp only [dSeq, dSet, dkE, dkL, dVar, dVarK, at', startD, dC, dOp, dCmp, dVal, dTest, dNot, dAnd, dOr, dAndV, dOrV, dNotV, dIf, dNil, dCons, dTup, dLst, dFrz, dCall, dMth, isStr, dPart0, dPart, dSl, gSlice, dStep, dRevL, dNext, dNever, dRet, dDrop, dIfS, dPar, dPar3, dAsg, dFor, dWhile, dLc, dLc2, gN, gTupD, gNc, gN0, dYes, dSq, dSeqL, dSeqT, dSeqS, dRng1, dRng2, dRng3, dEnum, dEnumT, dZip, dFn, dFnM, dFnK, own', isOwn, dMut, gApp, gExt, dSto, dIxO, dLenO, dLenS, dIxS', dFnS, scr', isScr, dRetN, dSeqN, dFnN, dFnNS, dIsi, dIsi2, dNeg, gAdd, Dl.gSub, gMul, gDiv, gMod, gPow, gEq, gNe, gLt, gLe, gGt, gGe, gIs, gIsNot, isNone, gIx, gLen, gMax, gMin, gSum, gAll, gAbs, gInt, gTuple, gList, gListS, gStrI, gRepr, gJoin, gSw, gEw, gAscii, gAlpha, gLower, List.set, List.map, List.length_cons, List.length_nil, List.cons_append, List.nil_append, List.replicate, dWipe, Nat.reduceAdd, Nat.reduceSub, dChain, gInTup, dFnMN, dkD, dInD, dNotInD, dGetD, dPutD, dic', isDic, keyQ, keyP, dLRg, dkN2, dBor, nstD, dN0, dFnNK, flatO, flatCl, dSortS, gNeS, gIn, gNotIn, gIndex, isLstD, dMthL, gDivmod, sh_non, sh_bl, sh_int, nd_non, nd_bl, nd_int, nd_str, nd_lst, nd_tup, nds_nil, nds_cons, ev_int, ev_str, ev_bl, isi_str_non, isi_str_bl, isi_str_int, isi_str_str, isi_str_lst, isi_str_tup, isi_int_non, isi_int_bl, isi_int_int, isi_int_str, isi_int_lst, isi_int_tup, isi_bool_non, isi_bool_bl, isi_bool_int, isi_bool_str, isi_bool_lst, isi_bool_tup, isi_list_non, isi_list_bl, isi_list_int, isi_list_str, isi_list_lst, isi_list_tup, isi_tuple_non, isi_tuple_bl, isi_tuple_int, isi_tuple_str, isi_tuple_lst, isi_tuple_tup, Bool.not_true, Bool.not_false, Bool.true_or, Bool.false_or, Bool.or_false, Bool.or_true, Bool.true_and, Bool.false_and, Bool.and_true, Bool.and_false, Bool.false_eq_true, if_true, if_false, true_and, and_true, eq_self_iff_true, beq_self_eq_true, atI_0, atI_1, atI_2, atI_3, atI_4, atI_5, atI_6, atI_7, atI_8, atI_9, atI_10, atI_11, atI_12, atI_13, atI_14, ixN_3_0, ixN_3_1, ixN_3_2, Option.some.injEq, exists_eq_left', Int.reduceToNat, Int.reduceNeg, rowT]
      exact ⟨i, by rw [Int.zero_add], fun c => ⟨c, i, by rw [Int.zero_add], by omega, fun ys hb p => ⟨p, ys, rfl, hb⟩⟩⟩
    rintro Γ ⟨p, ys, rfl, hb⟩
    refine dCut_open (fun Γ => ∃ ys, Γ = [some (.scr ns), some (.d (.int (0 + (i : Int)))), some (.own p ys), o3, none, none, none] ∧ BagOk 100 ys) ?_ ?_
    · simp only [dSeq, dSet, dkE, dkL, dVar, dVarK, at', startD, dC, dOp, dCmp, dVal, dTest, dNot, dAnd, dOr, dAndV, dOrV, dNotV, dIf, dNil, dCons, dTup, dLst, dFrz, dCall, dMth, isStr, dPart0, dPart, dSl, gSlice, dStep, dRevL, dNext, dNever, dRet, dDrop, dIfS, dPar, dPar3, dAsg, dFor, dWhile, dLc, dLc2, gN, gTupD, gNc, gN0, dYes, dSq, dSeqL, dSeqT, dSeqS, dRng1, dRng2, dRng3, dEnum, dEnumT, dZip, dFn, dFnM, dFnK, own', isOwn, dMut, gApp, gExt, dSto, dIxO, dLenO, dLenS, dIxS', dFnS, scr', isScr, dRetN, dSeqN, dFnN, dFnNS, dIsi, dIsi2, dNeg, gAdd, Dl.gSub, gMul, gDiv, gMod, gPow, gEq, gNe, gLt, gLe, gGt, gGe, gIs, gIsNot, isNone, gIx, gLen, gMax, gMin, gSum, gAll, gAbs, gInt, gTuple, gList, gListS, gStrI, gRepr, gJoin, gSw, gEw, gAscii, gAlpha, gLower, List.set, List.map, List.length_cons, List.length_nil, List.cons_append, List.nil_append, List.replicate, dWipe, Nat.reduceAdd, Nat.reduceSub, dChain, gInTup, dFnMN, dkD, dInD, dNotInD, dGetD, dPutD, dic', isDic, keyQ, keyP, dLRg, dkN2, dBor, nstD, dN0, dFnNK, flatO, flatCl, dSortS, gNeS, gIn, gNotIn, gIndex, isLstD, dMthL, gDivmod, sh_non, sh_bl, sh_int, nd_non, nd_bl, nd_int, nd_str, nd_lst, nd_tup, nds_nil, nds_cons, ev_int, ev_str, ev_bl, isi_str_non, isi_str_bl, isi_str_int, isi_str_str, isi_str_lst, isi_str_tup, isi_int_non, isi_int_bl, isi_int_int, isi_int_str, isi_int_lst, isi_int_tup, isi_bool_non, isi_bool_bl, isi_bool_int, isi_bool_str, isi_bool_lst, isi_bool_tup, isi_list_non, isi_list_bl, isi_list_int, isi_list_str, isi_list_lst, isi_list_tup, isi_tuple_non, isi_tuple_bl, isi_tuple_int, isi_tuple_str, isi_tuple_lst, isi_tuple_tup, Bool.not_true, Bool.not_false, Bool.true_or, Bool.false_or, Bool.or_false, Bool.or_true, Bool.true_and, Bool.false_and, Bool.and_true, Bool.and_false, Bool.false_eq_true, if_true, if_false, true_and, and_true, eq_self_iff_true, beq_self_eq_true, atI_0, atI_1, atI_2, atI_3, atI_4, atI_5, atI_6, atI_7, atI_8, atI_9, atI_10, atI_11, atI_12, atI_13, atI_14, ixN_3_0, ixN_3_1, ixN_3_2, Option.some.injEq, exists_eq_left', Int.reduceToNat, Int.reduceNeg, rowT]
      refine if_b (fun _ => ⟨0, hb, by decide, rfl, fun zs hz => if_n (by decide) ⟨zs, rfl, hz.mono (by decide)⟩⟩) fun _ => ⟨ys, rfl, hb.mono (by decide)⟩
    rintro Γ ⟨ys, rfl, hb⟩
    simp only [dSeq, dSet, dkE, dkL, dVar, dVarK, at', startD, dC, dOp, dCmp, dVal, dTest, dNot, dAnd, dOr, dAndV, dOrV, dNotV, dIf, dNil, dCons, dTup, dLst, dFrz, dCall, dMth, isStr, dPart0, dPart, dSl, gSlice, dStep, dRevL, dNext, dNever, dRet, dDrop, dIfS, dPar, dPar3, dAsg, dFor, dWhile, dLc, dLc2, gN, gTupD, gNc, gN0, dYes, dSq, dSeqL, dSeqT, dSeqS, dRng1, dRng2, dRng3, dEnum, dEnumT, dZip, dFn, dFnM, dFnK, own', isOwn, dMut, gApp, gExt, dSto, dIxO, dLenO, dLenS, dIxS', dFnS, scr', isScr, dRetN, dSeqN, dFnN, dFnNS, dIsi, dIsi2, dNeg, gAdd, Dl.gSub, gMul, gDiv, gMod, gPow, gEq, gNe, gLt, gLe, gGt, gGe, gIs, gIsNot, isNone, gIx, gLen, gMax, gMin, gSum, gAll, gAbs, gInt, gTuple, gList, gListS, gStrI, gRepr, gJoin, gSw, gEw, gAscii, gAlpha, gLower, List.set, List.map, List.length_cons, List.length_nil, List.cons_append, List.nil_append, List.replicate, dWipe, Nat.reduceAdd, Nat.reduceSub, dChain, gInTup, dFnMN, dkD, dInD, dNotInD, dGetD, dPutD, dic', isDic, keyQ, keyP, dLRg, dkN2, dBor, nstD, dN0, dFnNK, flatO, flatCl, dSortS, gNeS, gIn, gNotIn, gIndex, isLstD, dMthL, gDivmod, sh_non, sh_bl, sh_int, nd_non, nd_bl, nd_int, nd_str, nd_lst, nd_tup, nds_nil, nds_cons, ev_int, ev_str, ev_bl, isi_str_non, isi_str_bl, isi_str_int, isi_str_str, isi_str_lst, isi_str_tup, isi_int_non, isi_int_bl, isi_int_int, isi_int_str, isi_int_lst, isi_int_tup, isi_bool_non, isi_bool_bl, isi_bool_int, isi_bool_str, isi_bool_lst, isi_bool_tup, isi_list_non, isi_list_bl, isi_list_int, isi_list_str, isi_list_lst, isi_list_tup, isi_tuple_non, isi_tuple_bl, isi_tuple_int, isi_tuple_str, isi_tuple_lst, isi_tuple_tup, Bool.not_true, Bool.not_false, Bool.true_or, Bool.false_or, Bool.or_false, Bool.or_true, Bool.true_and, Bool.false_and, Bool.and_true, Bool.and_false, Bool.false_eq_true, if_true, if_false, true_and, and_true, eq_self_iff_true, beq_self_eq_true, atI_0, atI_1, atI_2, atI_3, atI_4, atI_5, atI_6, atI_7, atI_8, atI_9, atI_10, atI_11, atI_12, atI_13, atI_14, ixN_3_0, ixN_3_1, ixN_3_2, Option.some.injEq, exists_eq_left', Int.reduceToNat, Int.reduceNeg, rowT]
    refine ⟨sl_le (by decide), ?_⟩
    refine for_ind (fun j Γ => ∃ ys' o3, Γ = [some (.scr ns), some (.d (.int (0 + (i : Int)))), some (.own p ys'), o3, none, none, none] ∧ BagOk (100 + 3000 * j) ys') ⟨ys, o3, rfl, hb⟩ ?_ fun Γ h => ?_
    · rintro j d Γ hj ⟨ys', o3, rfl, hb'⟩ K2 hk2
      obtain ⟨mo, m1, m24, rfl, hj4⟩ := six hj
      simp only [dSeq, dSet, dkE, dkL, dVar, dVarK, at', startD, dC, dOp, dCmp, dVal, dTest, dNot, dAnd, dOr, dAndV, dOrV, dNotV, dIf, dNil, dCons, dTup, dLst, dFrz, dCall, dMth, isStr, dPart0, dPart, dSl, gSlice, dStep, dRevL, dNext, dNever, dRet, dDrop, dIfS, dPar, dPar3, dAsg, dFor, dWhile, dLc, dLc2, gN, gTupD, gNc, gN0, dYes, dSq, dSeqL, dSeqT, dSeqS, dRng1, dRng2, dRng3, dEnum, dEnumT, dZip, dFn, dFnM, dFnK, own', isOwn, dMut, gApp, gExt, dSto, dIxO, dLenO, dLenS, dIxS', dFnS, scr', isScr, dRetN, dSeqN, dFnN, dFnNS, dIsi, dIsi2, dNeg, gAdd, Dl.gSub, gMul, gDiv, gMod, gPow, gEq, gNe, gLt, gLe, gGt, gGe, gIs, gIsNot, isNone, gIx, gLen, gMax, gMin, gSum, gAll, gAbs, gInt, gTuple, gList, gListS, gStrI, gRepr, gJoin, gSw, gEw, gAscii, gAlpha, gLower, List.set, List.map, List.length_cons, List.length_nil, List.cons_append, List.nil_append, List.replicate, dWipe, Nat.reduceAdd, Nat.reduceSub, dChain, gInTup, dFnMN, dkD, dInD, dNotInD, dGetD, dPutD, dic', isDic, keyQ, keyP, dLRg, dkN2, dBor, nstD, dN0, dFnNK, flatO, flatCl, dSortS, gNeS, gIn, gNotIn, gIndex, isLstD, dMthL, gDivmod, sh_non, sh_bl, sh_int, nd_non, nd_bl, nd_int, nd_str, nd_lst, nd_tup, nds_nil, nds_cons, ev_int, ev_str, ev_bl, isi_str_non, isi_str_bl, isi_str_int, isi_str_str, isi_str_lst, isi_str_tup, isi_int_non, isi_int_bl, isi_int_int, isi_int_str, isi_int_lst, isi_int_tup, isi_bool_non, isi_bool_bl, isi_bool_int, isi_bool_str, isi_bool_lst, isi_bool_tup, isi_list_non, isi_list_bl, isi_list_int, isi_list_str, isi_list_lst, isi_list_tup, isi_tuple_non, isi_tuple_bl, isi_tuple_int, isi_tuple_str, isi_tuple_lst, isi_tuple_tup, Bool.not_true, Bool.not_false, Bool.true_or, Bool.false_or, Bool.or_false, Bool.or_true, Bool.true_and, Bool.false_and, Bool.and_true, Bool.and_false, Bool.false_eq_true, if_true, if_false, true_and, and_true, eq_self_iff_true, beq_self_eq_true, atI_0, atI_1, atI_2, atI_3, atI_4, atI_5, atI_6, atI_7, atI_8, atI_9, atI_10, atI_11, atI_12, atI_13, atI_14, ixN_3_0, ixN_3_1, ixN_3_2, Option.some.injEq, exists_eq_left', Int.reduceToNat, Int.reduceNeg, rowT]
      exact ⟨_, mo, hb', by omega, rfl, m1, m24, fun ys2 hb2 => if_n (by decide) (hk2 _ ⟨ys2, _, rfl, hb2.mono (by omega)⟩)⟩
    · obtain ⟨ys', o3, rfl, _⟩ := h
      exact hk _ ⟨_, _, _, rfl⟩
  rintro Γ ⟨o1, o2, o3, rfl⟩
  refine dCut_open (fun Γ => Γ = [some (.scr ns), o1, o2, o3, some (.d (.list ((rows9.take 3).map rowT))), none, none]) ?_ ?_
  · simp only [dSeq, dSet, dkE, dkL, dVar, dVarK, at', startD, dC, dOp, dCmp, dVal, dTest, dNot, dAnd, dOr, dAndV, dOrV, dNotV, dIf, dNil, dCons, dTup, dLst, dFrz, dCall, dMth, isStr, dPart0, dPart, dSl, gSlice, dStep, dRevL, dNext, dNever, dRet, dDrop, dIfS, dPar, dPar3, dAsg, dFor, dWhile, dLc, dLc2, gN, gTupD, gNc, gN0, dYes, dSq, dSeqL, dSeqT, dSeqS, dRng1, dRng2, dRng3, dEnum, dEnumT, dZip, dFn, dFnM, dFnK, own', isOwn, dMut, gApp, gExt, dSto, dIxO, dLenO, dLenS, dIxS', dFnS, scr', isScr, dRetN, dSeqN, dFnN, dFnNS, dIsi, dIsi2, dNeg, gAdd, Dl.gSub, gMul, gDiv, gMod, gPow, gEq, gNe, gLt, gLe, gGt, gGe, gIs, gIsNot, isNone, gIx, gLen, gMax, gMin, gSum, gAll, gAbs, gInt, gTuple, gList, gListS, gStrI, gRepr, gJoin, gSw, gEw, gAscii, gAlpha, gLower, List.set, List.map, List.length_cons, List.length_nil, List.cons_append, List.nil_append, List.replicate, dWipe, Nat.reduceAdd, Nat.reduceSub, dChain, gInTup, dFnMN, dkD, dInD, dNotInD, dGetD, dPutD, dic', isDic, keyQ, keyP, dLRg, dkN2, dBor, nstD, dN0, dFnNK, flatO, flatCl, dSortS, gNeS, gIn, gNotIn, gIndex, isLstD, dMthL, gDivmod, sh_non, sh_bl, sh_int, nd_non, nd_bl, nd_int, nd_str, nd_lst, nd_tup, nds_nil, nds_cons, ev_int, ev_str, ev_bl, isi_str_non, isi_str_bl, isi_str_int, isi_str_str, isi_str_lst, isi_str_tup, isi_int_non, isi_int_bl, isi_int_int, isi_int_str, isi_int_lst, isi_int_tup, isi_bool_non, isi_bool_bl, isi_bool_int, isi_bool_str, isi_bool_lst, isi_bool_tup, isi_list_non, isi_list_bl, isi_list_int, isi_list_str, isi_list_lst, isi_list_tup, isi_tuple_non, isi_tuple_bl, isi_tuple_int, isi_tuple_str, isi_tuple_lst, isi_tuple_tup, Bool.not_true, Bool.not_false, Bool.true_or, Bool.false_or, Bool.or_false, Bool.or_true, Bool.true_and, Bool.false_and, Bool.and_true, Bool.and_false, Bool.false_eq_true, if_true, if_false, true_and, and_true, eq_self_iff_true, beq_self_eq_true, atI_0, atI_1, atI_2, atI_3, atI_4, atI_5, atI_6, atI_7, atI_8, atI_9, atI_10, atI_11, atI_12, atI_13, atI_14, ixN_3_0, ixN_3_1, ixN_3_2, Option.some.injEq, exists_eq_left', Int.reduceToNat, Int.reduceNeg, rowT]
    exact ⟨sl_le (by decide), sl_le (by decide), sl_le (by decide), sl_le (by decide), rfl⟩
  rintro Γ rfl
  refine dCut_open (fun Γ => Γ = [some (.scr ns), o1, o2, o3, some (.d (.list ((rows9.take 7).map rowT))), none, none]) ?_ ?_
  · simp only [dSeq, dSet, dkE, dkL, dVar, dVarK, at', startD, dC, dOp, dCmp, dVal, dTest, dNot, dAnd, dOr, dAndV, dOrV, dNotV, dIf, dNil, dCons, dTup, dLst, dFrz, dCall, dMth, isStr, dPart0, dPart, dSl, gSlice, dStep, dRevL, dNext, dNever, dRet, dDrop, dIfS, dPar, dPar3, dAsg, dFor, dWhile, dLc, dLc2, gN, gTupD, gNc, gN0, dYes, dSq, dSeqL, dSeqT, dSeqS, dRng1, dRng2, dRng3, dEnum, dEnumT, dZip, dFn, dFnM, dFnK, own', isOwn, dMut, gApp, gExt, dSto, dIxO, dLenO, dLenS, dIxS', dFnS, scr', isScr, dRetN, dSeqN, dFnN, dFnNS, dIsi, dIsi2, dNeg, gAdd, Dl.gSub, gMul, gDiv, gMod, gPow, gEq, gNe, gLt, gLe, gGt, gGe, gIs, gIsNot, isNone, gIx, gLen, gMax, gMin, gSum, gAll, gAbs, gInt, gTuple, gList, gListS, gStrI, gRepr, gJoin, gSw, gEw, gAscii, gAlpha, gLower, List.set, List.map, List.length_cons, List.length_nil, List.cons_append, List.nil_append, List.replicate, dWipe, Nat.reduceAdd, Nat.reduceSub, dChain, gInTup, dFnMN, dkD, dInD, dNotInD, dGetD, dPutD, dic', isDic, keyQ, keyP, dLRg, dkN2, dBor, nstD, dN0, dFnNK, flatO, flatCl, dSortS, gNeS, gIn, gNotIn, gIndex, isLstD, dMthL, gDivmod, sh_non, sh_bl, sh_int, nd_non, nd_bl, nd_int, nd_str, nd_lst, nd_tup, nds_nil, nds_cons, ev_int, ev_str, ev_bl, isi_str_non, isi_str_bl, isi_str_int, isi_str_str, isi_str_lst, isi_str_tup, isi_int_non, isi_int_bl, isi_int_int, isi_int_str, isi_int_lst, isi_int_tup, isi_bool_non, isi_bool_bl, isi_bool_int, isi_bool_str, isi_bool_lst, isi_bool_tup, isi_list_non, isi_list_bl, isi_list_int, isi_list_str, isi_list_lst, isi_list_tup, isi_tuple_non, isi_tuple_bl, isi_tuple_int, isi_tuple_str, isi_tuple_lst, isi_tuple_tup, Bool.not_true, Bool.not_false, Bool.true_or, Bool.false_or, Bool.or_false, Bool.or_true, Bool.true_and, Bool.false_and, Bool.and_true, Bool.and_false, Bool.false_eq_true, if_true, if_false, true_and, and_true, eq_self_iff_true, beq_self_eq_true, atI_0, atI_1, atI_2, atI_3, atI_4, atI_5, atI_6, atI_7, atI_8, atI_9, atI_10, atI_11, atI_12, atI_13, atI_14, ixN_3_0, ixN_3_1, ixN_3_2, Option.some.injEq, exists_eq_left', Int.reduceToNat, Int.reduceNeg, rowT]
    exact ⟨sl_le (by decide), sl_le (by decide), sl_le (by decide), sl_le (by decide), sl_le (by decide), sl_le (by decide), rfl⟩
  rintro Γ rfl
  refine dCut_open (fun Γ => Γ = [some (.scr ns), o1, o2, o3, some (.d (.list (rows9.map rowT))), none, none]) ?_ ?_
  · simp only [dSeq, dSet, dkE, dkL, dVar, dVarK, at', startD, dC, dOp, dCmp, dVal, dTest, dNot, dAnd, dOr, dAndV, dOrV, dNotV, dIf, dNil, dCons, dTup, dLst, dFrz, dCall, dMth, isStr, dPart0, dPart, dSl, gSlice, dStep, dRevL, dNext, dNever, dRet, dDrop, dIfS, dPar, dPar3, dAsg, dFor, dWhile, dLc, dLc2, gN, gTupD, gNc, gN0, dYes, dSq, dSeqL, dSeqT, dSeqS, dRng1, dRng2, dRng3, dEnum, dEnumT, dZip, dFn, dFnM, dFnK, own', isOwn, dMut, gApp, gExt, dSto, dIxO, dLenO, dLenS, dIxS', dFnS, scr', isScr, dRetN, dSeqN, dFnN, dFnNS, dIsi, dIsi2, dNeg, gAdd, Dl.gSub, gMul, gDiv, gMod, gPow, gEq, gNe, gLt, gLe, gGt, gGe, gIs, gIsNot, isNone, gIx, gLen, gMax, gMin, gSum, gAll, gAbs, gInt, gTuple, gList, gListS, gStrI, gRepr, gJoin, gSw, gEw, gAscii, gAlpha, gLower, List.set, List.map, List.length_cons, List.length_nil, List.cons_append, List.nil_append, List.replicate, dWipe, Nat.reduceAdd, Nat.reduceSub, dChain, gInTup, dFnMN, dkD, dInD, dNotInD, dGetD, dPutD, dic', isDic, keyQ, keyP, dLRg, dkN2, dBor, nstD, dN0, dFnNK, flatO, flatCl, dSortS, gNeS, gIn, gNotIn, gIndex, isLstD, dMthL, gDivmod, sh_non, sh_bl, sh_int, nd_non, nd_bl, nd_int, nd_str, nd_lst, nd_tup, nds_nil, nds_cons, ev_int, ev_str, ev_bl, isi_str_non, isi_str_bl, isi_str_int, isi_str_str, isi_str_lst, isi_str_tup, isi_int_non, isi_int_bl, isi_int_int, isi_int_str, isi_int_lst, isi_int_tup, isi_bool_non, isi_bool_bl, isi_bool_int, isi_bool_str, isi_bool_lst, isi_bool_tup, isi_list_non, isi_list_bl, isi_list_int, isi_list_str, isi_list_lst, isi_list_tup, isi_tuple_non, isi_tuple_bl, isi_tuple_int, isi_tuple_str, isi_tuple_lst, isi_tuple_tup, Bool.not_true, Bool.not_false, Bool.true_or, Bool.false_or, Bool.or_false, Bool.or_true, Bool.true_and, Bool.false_and, Bool.and_true, Bool.and_false, Bool.false_eq_true, if_true, if_false, true_and, and_true, eq_self_iff_true, beq_self_eq_true, atI_0, atI_1, atI_2, atI_3, atI_4, atI_5, atI_6, atI_7, atI_8, atI_9, atI_10, atI_11, atI_12, atI_13, atI_14, ixN_3_0, ixN_3_1, ixN_3_2, Option.some.injEq, exists_eq_left', Int.reduceToNat, Int.reduceNeg, rowT]
    exact ⟨sl_le (by decide), sl_le (by decide), ⟨by simp, by decide, by decide, by decide⟩, sl_le (by decide), sl_le (by decide), rfl⟩
  rintro Γ rfl
  refine dCut_open (fun Γ => Γ = [some (.scr ns), o1, o2, o3, some (.d (.list (rows9.map rowT))), some (.d (.list (dues9.map fun d => .list (natsL d)))), none]) ?_ ?_
  · simp only [dSeq, dSet, dkE, dkL, dVar, dVarK, at', startD, dC, dOp, dCmp, dVal, dTest, dNot, dAnd, dOr, dAndV, dOrV, dNotV, dIf, dNil, dCons, dTup, dLst, dFrz, dCall, dMth, isStr, dPart0, dPart, dSl, gSlice, dStep, dRevL, dNext, dNever, dRet, dDrop, dIfS, dPar, dPar3, dAsg, dFor, dWhile, dLc, dLc2, gN, gTupD, gNc, gN0, dYes, dSq, dSeqL, dSeqT, dSeqS, dRng1, dRng2, dRng3, dEnum, dEnumT, dZip, dFn, dFnM, dFnK, own', isOwn, dMut, gApp, gExt, dSto, dIxO, dLenO, dLenS, dIxS', dFnS, scr', isScr, dRetN, dSeqN, dFnN, dFnNS, dIsi, dIsi2, dNeg, gAdd, Dl.gSub, gMul, gDiv, gMod, gPow, gEq, gNe, gLt, gLe, gGt, gGe, gIs, gIsNot, isNone, gIx, gLen, gMax, gMin, gSum, gAll, gAbs, gInt, gTuple, gList, gListS, gStrI, gRepr, gJoin, gSw, gEw, gAscii, gAlpha, gLower, List.set, List.map, List.length_cons, List.length_nil, List.cons_append, List.nil_append, List.replicate, dWipe, Nat.reduceAdd, Nat.reduceSub, dChain, gInTup, dFnMN, dkD, dInD, dNotInD, dGetD, dPutD, dic', isDic, keyQ, keyP, dLRg, dkN2, dBor, nstD, dN0, dFnNK, flatO, flatCl, dSortS, gNeS, gIn, gNotIn, gIndex, isLstD, dMthL, gDivmod, sh_non, sh_bl, sh_int, nd_non, nd_bl, nd_int, nd_str, nd_lst, nd_tup, nds_nil, nds_cons, ev_int, ev_str, ev_bl, isi_str_non, isi_str_bl, isi_str_int, isi_str_str, isi_str_lst, isi_str_tup, isi_int_non, isi_int_bl, isi_int_int, isi_int_str, isi_int_lst, isi_int_tup, isi_bool_non, isi_bool_bl, isi_bool_int, isi_bool_str, isi_bool_lst, isi_bool_tup, isi_list_non, isi_list_bl, isi_list_int, isi_list_str, isi_list_lst, isi_list_tup, isi_tuple_non, isi_tuple_bl, isi_tuple_int, isi_tuple_str, isi_tuple_lst, isi_tuple_tup, Bool.not_true, Bool.not_false, Bool.true_or, Bool.false_or, Bool.or_false, Bool.or_true, Bool.true_and, Bool.false_and, Bool.and_true, Bool.and_false, Bool.false_eq_true, if_true, if_false, true_and, and_true, eq_self_iff_true, beq_self_eq_true, atI_0, atI_1, atI_2, atI_3, atI_4, atI_5, atI_6, atI_7, atI_8, atI_9, atI_10, atI_11, atI_12, atI_13, atI_14, ixN_3_0, ixN_3_1, ixN_3_2, Option.some.injEq, exists_eq_left', Int.reduceToNat, Int.reduceNeg, rowT]
    exact ⟨sl_le (by decide), sl_le (by decide), sl_le (by decide), sl_le (by decide), sl_le (by decide), sl_le (by decide), sl_le (by decide), sl_le (by decide), sl_le (by decide), sl_le (by decide), rfl⟩
  rintro Γ rfl
  simp only [dSeq, dSet, dkE, dkL, dVar, dVarK, at', startD, dC, dOp, dCmp, dVal, dTest, dNot, dAnd, dOr, dAndV, dOrV, dNotV, dIf, dNil, dCons, dTup, dLst, dFrz, dCall, dMth, isStr, dPart0, dPart, dSl, gSlice, dStep, dRevL, dNext, dNever, dRet, dDrop, dIfS, dPar, dPar3, dAsg, dFor, dWhile, dLc, dLc2, gN, gTupD, gNc, gN0, dYes, dSq, dSeqL, dSeqT, dSeqS, dRng1, dRng2, dRng3, dEnum, dEnumT, dZip, dFn, dFnM, dFnK, own', isOwn, dMut, gApp, gExt, dSto, dIxO, dLenO, dLenS, dIxS', dFnS, scr', isScr, dRetN, dSeqN, dFnN, dFnNS, dIsi, dIsi2, dNeg, gAdd, Dl.gSub, gMul, gDiv, gMod, gPow, gEq, gNe, gLt, gLe, gGt, gGe, gIs, gIsNot, isNone, gIx, gLen, gMax, gMin, gSum, gAll, gAbs, gInt, gTuple, gList, gListS, gStrI, gRepr, gJoin, gSw, gEw, gAscii, gAlpha, gLower, List.set, List.map, List.length_cons, List.length_nil, List.cons_append, List.nil_append, List.replicate, dWipe, Nat.reduceAdd, Nat.reduceSub, dChain, gInTup, dFnMN, dkD, dInD, dNotInD, dGetD, dPutD, dic', isDic, keyQ, keyP, dLRg, dkN2, dBor, nstD, dN0, dFnNK, flatO, flatCl, dSortS, gNeS, gIn, gNotIn, gIndex, isLstD, dMthL, gDivmod, sh_non, sh_bl, sh_int, nd_non, nd_bl, nd_int, nd_str, nd_lst, nd_tup, nds_nil, nds_cons, ev_int, ev_str, ev_bl, isi_str_non, isi_str_bl, isi_str_int, isi_str_str, isi_str_lst, isi_str_tup, isi_int_non, isi_int_bl, isi_int_int, isi_int_str, isi_int_lst, isi_int_tup, isi_bool_non, isi_bool_bl, isi_bool_int, isi_bool_str, isi_bool_lst, isi_bool_tup, isi_list_non, isi_list_bl, isi_list_int, isi_list_str, isi_list_lst, isi_list_tup, isi_tuple_non, isi_tuple_bl, isi_tuple_int, isi_tuple_str, isi_tuple_lst, isi_tuple_tup, Bool.not_true, Bool.not_false, Bool.true_or, Bool.false_or, Bool.or_false, Bool.or_true, Bool.true_and, Bool.false_and, Bool.and_true, Bool.and_false, Bool.false_eq_true, if_true, if_false, true_and, and_true, eq_self_iff_true, beq_self_eq_true, atI_0, atI_1, atI_2, atI_3, atI_4, atI_5, atI_6, atI_7, atI_8, atI_9, atI_10, atI_11, atI_12, atI_13, atI_14, ixN_3_0, ixN_3_1, ixN_3_2, Option.some.injEq, exists_eq_left', Int.reduceToNat, Int.reduceNeg, rowT]
  refine lc_map rowT (fun r => .list (natsL (rsz r))) rfl (sl_le (by decide)) (fun r hr K2 hk2 => ?_) ?_
  · simp only [dSeq, dSet, dkE, dkL, dVar, dVarK, at', startD, dC, dOp, dCmp, dVal, dTest, dNot, dAnd, dOr, dAndV, dOrV, dNotV, dIf, dNil, dCons, dTup, dLst, dFrz, dCall, dMth, isStr, dPart0, dPart, dSl, gSlice, dStep, dRevL, dNext, dNever, dRet, dDrop, dIfS, dPar, dPar3, dAsg, dFor, dWhile, dLc, dLc2, gN, gTupD, gNc, gN0, dYes, dSq, dSeqL, dSeqT, dSeqS, dRng1, dRng2, dRng3, dEnum, dEnumT, dZip, dFn, dFnM, dFnK, own', isOwn, dMut, gApp, gExt, dSto, dIxO, dLenO, dLenS, dIxS', dFnS, scr', isScr, dRetN, dSeqN, dFnN, dFnNS, dIsi, dIsi2, dNeg, gAdd, Dl.gSub, gMul, gDiv, gMod, gPow, gEq, gNe, gLt, gLe, gGt, gGe, gIs, gIsNot, isNone, gIx, gLen, gMax, gMin, gSum, gAll, gAbs, gInt, gTuple, gList, gListS, gStrI, gRepr, gJoin, gSw, gEw, gAscii, gAlpha, gLower, List.set, List.map, List.length_cons, List.length_nil, List.cons_append, List.nil_append, List.replicate, dWipe, Nat.reduceAdd, Nat.reduceSub, dChain, gInTup, dFnMN, dkD, dInD, dNotInD, dGetD, dPutD, dic', isDic, keyQ, keyP, dLRg, dkN2, dBor, nstD, dN0, dFnNK, flatO, flatCl, dSortS, gNeS, gIn, gNotIn, gIndex, isLstD, dMthL, gDivmod, sh_non, sh_bl, sh_int, nd_non, nd_bl, nd_int, nd_str, nd_lst, nd_tup, nds_nil, nds_cons, ev_int, ev_str, ev_bl, isi_str_non, isi_str_bl, isi_str_int, isi_str_str, isi_str_lst, isi_str_tup, isi_int_non, isi_int_bl, isi_int_int, isi_int_str, isi_int_lst, isi_int_tup, isi_bool_non, isi_bool_bl, isi_bool_int, isi_bool_str, isi_bool_lst, isi_bool_tup, isi_list_non, isi_list_bl, isi_list_int, isi_list_str, isi_list_lst, isi_list_tup, isi_tuple_non, isi_tuple_bl, isi_tuple_int, isi_tuple_str, isi_tuple_lst, isi_tuple_tup, Bool.not_true, Bool.not_false, Bool.true_or, Bool.false_or, Bool.or_false, Bool.or_true, Bool.true_and, Bool.false_and, Bool.and_true, Bool.and_false, Bool.false_eq_true, if_true, if_false, true_and, and_true, eq_self_iff_true, beq_self_eq_true, atI_0, atI_1, atI_2, atI_3, atI_4, atI_5, atI_6, atI_7, atI_8, atI_9, atI_10, atI_11, atI_12, atI_13, atI_14, ixN_3_0, ixN_3_1, ixN_3_2, Option.some.injEq, exists_eq_left', Int.reduceToNat, Int.reduceNeg, rowT]
    exact ⟨r, rfl, nine_ok r hr, hk2 _ rfl⟩
  · have e : rows9.map (fun r => PyData.list (natsL (rsz r))) = dues9.map fun d => PyData.list (natsL d) := by
      rw [← nine_sz, List.map_map]
      rfl
    rw [e]
    refine ⟨⟨by decide +kernel, by decide +kernel, by decide +kernel, by decide +kernel⟩, congrArg PyData.bool (by decide +kernel)⟩
end
end C12
namespace C12
open PySem PySem.Spec PyProof.Rows L2 TL Bl Dl
theorem all_mk {l : PySem.W.OpenLaw} {w : World} {K : PySem.W.Frag} {h : Heap} {mg : Str → Option Value} {fa f1 f2 f3 f4 f5 f6 f7 f8 f9 f10 f11 f12 f13 f14 f15 f16 f17 f18 f19 f20 f21 f22 f23 f24 f25 f26 f27 f28 f29 f30 : Addr} (X : K.In h) (G : h.Ns mainGlobals mg) (hfa : mg "law" = some (.ref fa))
    {tkG1 : Tok} {od1 an1 od2 an2 od3 an3 od4 an4 od5 an5 od6 an6 od7 an7 od8 an8 od9 an9 od10 an10 od11 an11 od12 an12 od13 an13 od14 an14 od15 an15 od16 an16 od17 an17 od18 an18 od19 an19 od20 an20 od21 an21 od22 an22 od23 an23 od24 an24 od25 an25 od26 an26 od27 an27 od28 an28 od29 an29 od30 an30 : Option Addr} {sl1 sl2 sl3 sl4 sl5 sl6 sl7 sl8 sl9 sl10 sl11 sl12 sl13 sl14 sl15 sl16 sl17 sl18 sl19 sl20 sl21 sl22 sl23 sl24 sl25 sl26 sl27 sl28 sl29 sl30 : Array (Option Value)} {oc1 kV1 dc1 pm1 cd1 ct1 oc2 kV2 dc2 pm2 cd2 ct2 oc3 kV3 dc3 pm3 cd3 ct3 oc4 kV4 dc4 pm4 cd4 ct4 oc5 kV5 dc5 pm5 cd5 ct5 oc6 kV6 dc6 pm6 cd6 ct6 oc7 kV7 dc7 pm7 cd7 ct7 oc8 kV8 dc8 pm8 cd8 ct8 oc9 kV9 dc9 pm9 cd9 ct9 oc10 kV10 dc10 pm10 cd10 ct10 oc11 kV11 dc11 pm11 cd11 ct11 oc12 kV12 dc12 pm12 cd12 ct12 oc13 kV13 dc13 pm13 cd13 ct13 oc14 kV14 dc14 pm14 cd14 ct14 oc15 kV15 dc15 pm15 cd15 ct15 oc16 kV16 dc16 pm16 cd16 ct16 oc17 kV17 dc17 pm17 cd17 ct17 oc18 kV18 dc18 pm18 cd18 ct18 oc19 kV19 dc19 pm19 cd19 ct19 oc20 kV20 dc20 pm20 cd20 ct20 oc21 kV21 dc21 pm21 cd21 ct21 oc22 kV22 dc22 pm22 cd22 ct22 oc23 kV23 dc23 pm23 cd23 ct23 oc24 kV24 dc24 pm24 cd24 ct24 oc25 kV25 dc25 pm25 cd25 ct25 oc26 kV26 dc26 pm26 cd26 ct26 oc27 kV27 dc27 pm27 cd27 ct27 oc28 kV28 dc28 pm28 cd28 ct28 oc29 kV29 dc29 pm29 cd29 ct29 oc30 kV30 dc30 pm30 cd30 ct30 : Value}
    (a1 : PySem.W.nsIn K mainGlobals "is_word" = some (some (.ref f1))) (l1 : K.lookup f1 = some ⟨oc1, od1, .func (PySem.W.fnOf "is_word" "is_word" (defArgs s_is_word) (defBody s_is_word) (defScope s_is_word) .none kV1 dc1 pm1 an1 cd1 ct1), sl1⟩) (c1 : PySem.W.codeIn K cd1 "is_word" = true) (k1 : PySem.W.keepIn K (.ref f1) = true)
    (a2 : PySem.W.nsIn K mainGlobals "is_row" = some (some (.ref f2))) (l2 : K.lookup f2 = some ⟨oc2, od2, .func (PySem.W.fnOf "is_row" "is_row" (defArgs s_is_row) (defBody s_is_row) (defScope s_is_row) .none kV2 dc2 pm2 an2 cd2 ct2), sl2⟩) (c2 : PySem.W.codeIn K cd2 "is_row" = true) (k2 : PySem.W.keepIn K (.ref f2) = true)
    (a3 : PySem.W.nsIn K mainGlobals "is_product" = some (some (.ref f3))) (l3 : K.lookup f3 = some ⟨oc3, od3, .func (PySem.W.fnOf "is_product" "is_product" (defArgs s_is_product) (defBody s_is_product) (defScope s_is_product) .none kV3 dc3 pm3 an3 cd3 ct3), sl3⟩) (c3 : PySem.W.codeIn K cd3 "is_product" = true) (k3 : PySem.W.keepIn K (.ref f3) = true)
    (a4 : PySem.W.nsIn K mainGlobals "check_product" = some (some (.ref f4))) (l4 : K.lookup f4 = some ⟨oc4, od4, .func (PySem.W.fnOf "check_product" "check_product" (defArgs s_check_product) (defBody s_check_product) (defScope s_check_product) .none kV4 dc4 pm4 an4 cd4 ct4), sl4⟩) (c4 : PySem.W.codeIn K cd4 "check_product" = true) (k4 : PySem.W.keepIn K (.ref f4) = true)
    (a5 : PySem.W.nsIn K mainGlobals "common_length" = some (some (.ref f5))) (l5 : K.lookup f5 = some ⟨oc5, od5, .func (PySem.W.fnOf "common_length" "common_length" (defArgs s_common_length) (defBody s_common_length) (defScope s_common_length) .none kV5 dc5 pm5 an5 cd5 ct5), sl5⟩) (c5 : PySem.W.codeIn K cd5 "common_length" = true) (k5 : PySem.W.keepIn K (.ref f5) = true)
    (a6 : PySem.W.nsIn K mainGlobals "step_between" = some (some (.ref f6))) (l6 : K.lookup f6 = some ⟨oc6, od6, .func (PySem.W.fnOf "step_between" "step_between" (defArgs s_step_between) (defBody s_step_between) (defScope s_step_between) .none kV6 dc6 pm6 an6 cd6 ct6), sl6⟩) (c6 : PySem.W.codeIn K cd6 "step_between" = true) (k6 : PySem.W.keepIn K (.ref f6) = true)
    (a7 : PySem.W.nsIn K mainGlobals "size_of" = some (some (.ref f7))) (l7 : K.lookup f7 = some ⟨oc7, od7, .func (PySem.W.fnOf "size_of" "size_of" (defArgs s_size_of) (defBody s_size_of) (defScope s_size_of) .none kV7 dc7 pm7 an7 cd7 ct7), sl7⟩) (c7 : PySem.W.codeIn K cd7 "size_of" = true) (k7 : PySem.W.keepIn K (.ref f7) = true)
    (a8 : PySem.W.nsIn K mainGlobals "check_row" = some (some (.ref f8))) (l8 : K.lookup f8 = some ⟨oc8, od8, .func (PySem.W.fnOf "check_row" "check_row" (defArgs s_check_row) (defBody s_check_row) (defScope s_check_row) .none kV8 dc8 pm8 an8 cd8 ct8), sl8⟩) (c8 : PySem.W.codeIn K cd8 "check_row" = true) (k8 : PySem.W.keepIn K (.ref f8) = true)
    (a9 : PySem.W.nsIn K mainGlobals "all_words" = some (some (.ref f9))) (l9 : K.lookup f9 = some ⟨oc9, od9, .func (PySem.W.fnOf "all_words" "all_words" (defArgs s_all_words) (defBody s_all_words) (defScope s_all_words) .none kV9 dc9 pm9 an9 cd9 ct9), sl9⟩) (c9 : PySem.W.codeIn K cd9 "all_words" = true) (k9 : PySem.W.keepIn K (.ref f9) = true)
    (a10 : PySem.W.nsIn K mainGlobals "written_out" = some (some (.ref f10))) (l10 : K.lookup f10 = some ⟨oc10, od10, .func (PySem.W.fnOf "written_out" "written_out" (defArgs s_written_out) (defBody s_written_out) (defScope s_written_out) .none kV10 dc10 pm10 an10 cd10 ct10), sl10⟩) (c10 : PySem.W.codeIn K cd10 "written_out" = true) (k10 : PySem.W.keepIn K (.ref f10) = true)
    (a11 : PySem.W.nsIn K mainGlobals "steps_of" = some (some (.ref f11))) (l11 : K.lookup f11 = some ⟨oc11, od11, .func (PySem.W.fnOf "steps_of" "steps_of" (defArgs s_steps_of) (defBody s_steps_of) (defScope s_steps_of) .none kV11 dc11 pm11 an11 cd11 ct11), sl11⟩) (c11 : PySem.W.codeIn K cd11 "steps_of" = true) (k11 : PySem.W.keepIn K (.ref f11) = true)
    (a12 : PySem.W.nsIn K mainGlobals "conflict" = some (some (.ref f12))) (l12 : K.lookup f12 = some ⟨oc12, od12, .func (PySem.W.fnOf "conflict" "conflict" (defArgs s_conflict) (defBody s_conflict) (defScope s_conflict) .none kV12 dc12 pm12 an12 cd12 ct12), sl12⟩) (c12 : PySem.W.codeIn K cd12 "conflict" = true) (k12 : PySem.W.keepIn K (.ref f12) = true)
    (a13 : PySem.W.nsIn K mainGlobals "right_sizes" = some (some (.ref f13))) (l13 : K.lookup f13 = some ⟨oc13, od13, .func (PySem.W.fnOf "right_sizes" "right_sizes" (defArgs s_right_sizes) (defBody s_right_sizes) (defScope s_right_sizes) .none kV13 dc13 pm13 an13 cd13 ct13), sl13⟩) (c13 : PySem.W.codeIn K cd13 "right_sizes" = true) (k13 : PySem.W.keepIn K (.ref f13) = true)
    (a14 : PySem.W.nsIn K mainGlobals "_law_cell_at" = some (some (.ref f14))) (l14 : K.lookup f14 = some ⟨oc14, od14, .func (PySem.W.fnOf "_law_cell_at" "_law_cell_at" (defArgs s__law_cell_at) (defBody s__law_cell_at) (defScope s__law_cell_at) .none kV14 dc14 pm14 an14 cd14 ct14), sl14⟩) (c14 : PySem.W.codeIn K cd14 "_law_cell_at" = true) (k14 : PySem.W.keepIn K (.ref f14) = true)
    (a15 : PySem.W.nsIn K mainGlobals "_law_bag" = some (some (.ref f15))) (l15 : K.lookup f15 = some ⟨oc15, od15, .func (PySem.W.fnOf "_law_bag" "_law_bag" (defArgs s__law_bag) (defBody s__law_bag) (defScope s__law_bag) .none kV15 dc15 pm15 an15 cd15 ct15), sl15⟩) (c15 : PySem.W.codeIn K cd15 "_law_bag" = true) (k15 : PySem.W.keepIn K (.ref f15) = true)
    (a16 : PySem.W.nsIn K mainGlobals "_law_take" = some (some (.ref f16))) (l16 : K.lookup f16 = some ⟨oc16, od16, .func (PySem.W.fnOf "_law_take" "_law_take" (defArgs s__law_take) (defBody s__law_take) (defScope s__law_take) .none kV16 dc16 pm16 an16 cd16 ct16), sl16⟩) (c16 : PySem.W.codeIn K cd16 "_law_take" = true) (k16 : PySem.W.keepIn K (.ref f16) = true)
    (a17 : PySem.W.nsIn K mainGlobals "_law_text" = some (some (.ref f17))) (l17 : K.lookup f17 = some ⟨oc17, od17, .func (PySem.W.fnOf "_law_text" "_law_text" (defArgs s__law_text) (defBody s__law_text) (defScope s__law_text) .none kV17 dc17 pm17 an17 cd17 ct17), sl17⟩) (c17 : PySem.W.codeIn K cd17 "_law_text" = true) (k17 : PySem.W.keepIn K (.ref f17) = true)
    (a18 : PySem.W.nsIn K mainGlobals "_law_times" = some (some (.ref f18))) (l18 : K.lookup f18 = some ⟨oc18, od18, .func (PySem.W.fnOf "_law_times" "_law_times" (defArgs s__law_times) (defBody s__law_times) (defScope s__law_times) .none kV18 dc18 pm18 an18 cd18 ct18), sl18⟩) (c18 : PySem.W.codeIn K cd18 "_law_times" = true) (k18 : PySem.W.keepIn K (.ref f18) = true)
    (a19 : PySem.W.nsIn K mainGlobals "_law_whole" = some (some (.ref f19))) (l19 : K.lookup f19 = some ⟨oc19, od19, .func (PySem.W.fnOf "_law_whole" "_law_whole" (defArgs s__law_whole) (defBody s__law_whole) (defScope s__law_whole) .none kV19 dc19 pm19 an19 cd19 ct19), sl19⟩) (c19 : PySem.W.codeIn K cd19 "_law_whole" = true) (k19 : PySem.W.keepIn K (.ref f19) = true)
    (a20 : PySem.W.nsIn K mainGlobals "_law_factor" = some (some (.ref f20))) (l20 : K.lookup f20 = some ⟨oc20, od20, .func (PySem.W.fnOf "_law_factor" "_law_factor" (defArgs s__law_factor) (defBody s__law_factor) (defScope s__law_factor) .none kV20 dc20 pm20 an20 cd20 ct20), sl20⟩) (c20 : PySem.W.codeIn K cd20 "_law_factor" = true) (k20 : PySem.W.keepIn K (.ref f20) = true)
    (a21 : PySem.W.nsIn K mainGlobals "_law_factors" = some (some (.ref f21))) (l21 : K.lookup f21 = some ⟨oc21, od21, .func (PySem.W.fnOf "_law_factors" "_law_factors" (defArgs s__law_factors) (defBody s__law_factors) (defScope s__law_factors) .none kV21 dc21 pm21 an21 cd21 ct21), sl21⟩) (c21 : PySem.W.codeIn K cd21 "_law_factors" = true) (k21 : PySem.W.keepIn K (.ref f21) = true)
    (a22 : PySem.W.nsIn K mainGlobals "_law_bent" = some (some (.ref f22))) (l22 : K.lookup f22 = some ⟨oc22, od22, .func (PySem.W.fnOf "_law_bent" "_law_bent" (defArgs s__law_bent) (defBody s__law_bent) (defScope s__law_bent) .none kV22 dc22 pm22 an22 cd22 ct22), sl22⟩) (c22 : PySem.W.codeIn K cd22 "_law_bent" = true) (k22 : PySem.W.keepIn K (.ref f22) = true)
    (a23 : PySem.W.nsIn K mainGlobals "_law_outer" = some (some (.ref f23))) (l23 : K.lookup f23 = some ⟨oc23, od23, .func (PySem.W.fnOf "_law_outer" "_law_outer" (defArgs s__law_outer) (defBody s__law_outer) (defScope s__law_outer) .none kV23 dc23 pm23 an23 cd23 ct23), sl23⟩) (c23 : PySem.W.codeIn K cd23 "_law_outer" = true) (k23 : PySem.W.keepIn K (.ref f23) = true)
    (a24 : PySem.W.nsIn K mainGlobals "_law_cuts" = some (some (.ref f24))) (l24 : K.lookup f24 = some ⟨oc24, od24, .func (PySem.W.fnOf "_law_cuts" "_law_cuts" (defArgs s__law_cuts) (defBody s__law_cuts) (defScope s__law_cuts) .none kV24 dc24 pm24 an24 cd24 ct24), sl24⟩) (c24 : PySem.W.codeIn K cd24 "_law_cuts" = true) (k24 : PySem.W.keepIn K (.ref f24) = true)
    (a25 : PySem.W.nsIn K mainGlobals "_law_big" = some (some (.ref f25))) (l25 : K.lookup f25 = some ⟨oc25, od25, .func (PySem.W.fnOf "_law_big" "_law_big" (defArgs s__law_big) (defBody s__law_big) (defScope s__law_big) .none kV25 dc25 pm25 an25 cd25 ct25), sl25⟩) (c25 : PySem.W.codeIn K cd25 "_law_big" = true) (k25 : PySem.W.keepIn K (.ref f25) = true)
    (a26 : PySem.W.nsIn K mainGlobals "_law_due_sizes" = some (some (.ref f26))) (l26 : K.lookup f26 = some ⟨oc26, od26, .func (PySem.W.fnOf "_law_due_sizes" "_law_due_sizes" (defArgs s__law_due_sizes) (defBody s__law_due_sizes) (defScope s__law_due_sizes) .none kV26 dc26 pm26 an26 cd26 ct26), sl26⟩) (c26 : PySem.W.codeIn K cd26 "_law_due_sizes" = true) (k26 : PySem.W.keepIn K (.ref f26) = true)
    (a27 : PySem.W.nsIn K mainGlobals "_law_right" = some (some (.ref f27))) (l27 : K.lookup f27 = some ⟨oc27, od27, .func (PySem.W.fnOf "_law_right" "_law_right" (defArgs s__law_right) (defBody s__law_right) (defScope s__law_right) .none kV27 dc27 pm27 an27 cd27 ct27), sl27⟩) (c27 : PySem.W.codeIn K cd27 "_law_right" = true) (k27 : PySem.W.keepIn K (.ref f27) = true)
    (a28 : PySem.W.nsIn K mainGlobals "_law_big_right" = some (some (.ref f28))) (l28 : K.lookup f28 = some ⟨oc28, od28, .func (PySem.W.fnOf "_law_big_right" "_law_big_right" (defArgs s__law_big_right) (defBody s__law_big_right) (defScope s__law_big_right) .none kV28 dc28 pm28 an28 cd28 ct28), sl28⟩) (c28 : PySem.W.codeIn K cd28 "_law_big_right" = true) (k28 : PySem.W.keepIn K (.ref f28) = true)
    (a29 : PySem.W.nsIn K mainGlobals "_law_same" = some (some (.ref f29))) (l29 : K.lookup f29 = some ⟨oc29, od29, .func (PySem.W.fnOf "_law_same" "_law_same" (defArgs s__law_same) (defBody s__law_same) (defScope s__law_same) .none kV29 dc29 pm29 an29 cd29 ct29), sl29⟩) (c29 : PySem.W.codeIn K cd29 "_law_same" = true) (k29 : PySem.W.keepIn K (.ref f29) = true)
    (a30 : PySem.W.nsIn K mainGlobals "law" = some (some (.ref f30))) (l30 : K.lookup f30 = some ⟨oc30, od30, .func (PySem.W.fnOf "law" "law" (defArgs s_law) (defBody s_law) (defScope s_law) .none kV30 dc30 pm30 an30 cd30 ct30), sl30⟩) (c30 : PySem.W.codeIn K cd30 "law" = true) (k30 : PySem.W.keepIn K (.ref f30) = true)
    (z1 : PySem.W.nsIn K mainGlobals "ValueError" = some none)
    (z2 : PySem.W.nsIn K mainGlobals "all" = some none)
    (z3 : PySem.W.nsIn K mainGlobals "bool" = some none)
    (z4 : PySem.W.nsIn K mainGlobals "enumerate" = some none)
    (z5 : PySem.W.nsIn K mainGlobals "isinstance" = some none)
    (z6 : PySem.W.nsIn K mainGlobals "len" = some none)
    (z7 : PySem.W.nsIn K mainGlobals "list" = some none)
    (z8 : PySem.W.nsIn K mainGlobals "max" = some none)
    (z9 : PySem.W.nsIn K mainGlobals "min" = some none)
    (z10 : PySem.W.nsIn K mainGlobals "range" = some none)
    (z11 : PySem.W.nsIn K mainGlobals "str" = some none)
    (z12 : PySem.W.nsIn K mainGlobals "tuple" = some none)
    (aG1 : PySem.W.nsIn K mainGlobals "MOST_WORDS" = some (some (.int 2000 tkG1)))
    : ∃ fd : FuncData, (∀ (s : Shared) (v : Value), BindsTo s fd ⟨[v], []⟩ [("script", v)]) ∧ ∀ base : Heap, K.In base → base.Ns mainGlobals mg → FnG l.prog w K mg base CX0 7 fa fd ["script"] (spLaw K) := by
  have e := hfa.symm.trans (PySem.W.mg_of X G a30)
  cases e
  have T : Names mg := ⟨PySem.W.mg_none_of X G z1, PySem.W.mg_none_of X G z2, PySem.W.mg_none_of X G z3, PySem.W.mg_none_of X G z4, PySem.W.mg_none_of X G z5, PySem.W.mg_none_of X G z6, PySem.W.mg_none_of X G z7, PySem.W.mg_none_of X G z8, PySem.W.mg_none_of X G z9, PySem.W.mg_none_of X G z10, PySem.W.mg_none_of X G z11, PySem.W.mg_none_of X G z12⟩
  have F1 := fun_mk (st := s_is_word) l1 c1 k1
  have m1 := PySem.W.mg_of X G a1
  have b1 := F1.binds (ps := ["value"]) fun _ _ _ _ _ _ us hl => match us, hl with | [_], _ => rfl
  have F2 := fun_mk (st := s_is_row) l2 c2 k2
  have m2 := PySem.W.mg_of X G a2
  have b2 := F2.binds (ps := ["value"]) fun _ _ _ _ _ _ us hl => match us, hl with | [_], _ => rfl
  have F3 := fun_mk (st := s_is_product) l3 c3 k3
  have m3 := PySem.W.mg_of X G a3
  have b3 := F3.binds (ps := ["value"]) fun _ _ _ _ _ _ us hl => match us, hl with | [_], _ => rfl
  have F4 := fun_mk (st := s_check_product) l4 c4 k4
  have m4 := PySem.W.mg_of X G a4
  have b4 := F4.binds (ps := ["product"]) fun _ _ _ _ _ _ us hl => match us, hl with | [_], _ => rfl
  have F5 := fun_mk (st := s_common_length) l5 c5 k5
  have m5 := PySem.W.mg_of X G a5
  have b5 := F5.binds (ps := ["word", "other"]) fun _ _ _ _ _ _ us hl => match us, hl with | [_, _], _ => rfl
  have F6 := fun_mk (st := s_step_between) l6 c6 k6
  have m6 := PySem.W.mg_of X G a6
  have b6 := F6.binds (ps := ["word", "other"]) fun _ _ _ _ _ _ us hl => match us, hl with | [_, _], _ => rfl
  have F7 := fun_mk (st := s_size_of) l7 c7 k7
  have m7 := PySem.W.mg_of X G a7
  have b7 := F7.binds (ps := ["product"]) fun _ _ _ _ _ _ us hl => match us, hl with | [_], _ => rfl
  have F8 := fun_mk (st := s_check_row) l8 c8 k8
  have m8 := PySem.W.mg_of X G a8
  have b8 := F8.binds (ps := ["row"]) fun _ _ _ _ _ _ us hl => match us, hl with | [_], _ => rfl
  have F9 := fun_mk (st := s_all_words) l9 c9 k9
  have m9 := PySem.W.mg_of X G a9
  have b9 := F9.binds (ps := ["product"]) fun _ _ _ _ _ _ us hl => match us, hl with | [_], _ => rfl
  have F10 := fun_mk (st := s_written_out) l10 c10 k10
  have m10 := PySem.W.mg_of X G a10
  have b10 := F10.binds (ps := ["product"]) fun _ _ _ _ _ _ us hl => match us, hl with | [_], _ => rfl
  have F11 := fun_mk (st := s_steps_of) l11 c11 k11
  have m11 := PySem.W.mg_of X G a11
  have b11 := F11.binds (ps := ["row", "last", "first"]) fun _ _ _ _ _ _ us hl => match us, hl with | [_, _, _], _ => rfl
  have F12 := fun_mk (st := s_conflict) l12 c12 k12
  have m12 := PySem.W.mg_of X G a12
  have b12 := F12.binds (ps := ["steps", "size"]) fun _ _ _ _ _ _ us hl => match us, hl with | [_, _], _ => rfl
  have F13 := fun_mk (st := s_right_sizes) l13 c13 k13
  have m13 := PySem.W.mg_of X G a13
  have b13 := F13.binds (ps := ["row"]) fun _ _ _ _ _ _ us hl => match us, hl with | [_], _ => rfl
  have F14 := fun_mk (st := s__law_cell_at) l14 c14 k14
  have m14 := PySem.W.mg_of X G a14
  have b14 := F14.binds (ps := ["script", "k"]) fun _ _ _ _ _ _ us hl => match us, hl with | [_, _], _ => rfl
  have F15 := fun_mk (st := s__law_bag) l15 c15 k15
  have m15 := PySem.W.mg_of X G a15
  have b15 := F15.binds (ps := ["cell", "k"]) fun _ _ _ _ _ _ us hl => match us, hl with | [_, _], _ => rfl
  have F16 := fun_mk (st := s__law_take) l16 c16 k16
  have m16 := PySem.W.mg_of X G a16
  have b16 := F16.binds (ps := ["bag", "bound"]) fun _ _ _ _ _ _ us hl => match us, hl with | [_, _], _ => rfl
  have F17 := fun_mk (st := s__law_text) l17 c17 k17
  have m17 := PySem.W.mg_of X G a17
  have b17 := F17.binds (ps := ["bag", "most"]) fun _ _ _ _ _ _ us hl => match us, hl with | [_, _], _ => rfl
  have F18 := fun_mk (st := s__law_times) l18 c18 k18
  have m18 := PySem.W.mg_of X G a18
  have b18 := F18.binds (ps := ["first", "second"]) fun _ _ _ _ _ _ us hl => match us, hl with | [_, _], _ => rfl
  have F19 := fun_mk (st := s__law_whole) l19 c19 k19
  have m19 := PySem.W.mg_of X G a19
  have b19 := F19.binds (ps := ["factors"]) fun _ _ _ _ _ _ us hl => match us, hl with | [_], _ => rfl
  have F20 := fun_mk (st := s__law_factor) l20 c20 k20
  have m20 := PySem.W.mg_of X G a20
  have b20 := F20.binds (ps := ["bag", "many"]) fun _ _ _ _ _ _ us hl => match us, hl with | [_, _], _ => rfl
  have F21 := fun_mk (st := s__law_factors) l21 c21 k21
  have m21 := PySem.W.mg_of X G a21
  have b21 := F21.binds (ps := ["bag", "most"]) fun _ _ _ _ _ _ us hl => match us, hl with | [_, _], _ => rfl
  have F22 := fun_mk (st := s__law_bent) l22 c22 k22
  have m22 := PySem.W.mg_of X G a22
  have b22 := F22.binds (ps := ["bag", "line"]) fun _ _ _ _ _ _ us hl => match us, hl with | [_, _], _ => rfl
  have F23 := fun_mk (st := s__law_outer) l23 c23 k23
  have m23 := PySem.W.mg_of X G a23
  have b23 := F23.binds (ps := ["line", "inner"]) fun _ _ _ _ _ _ us hl => match us, hl with | [_, _], _ => rfl
  have F24 := fun_mk (st := s__law_cuts) l24 c24 k24
  have m24 := PySem.W.mg_of X G a24
  have b24 := F24.binds (ps := ["line", "many"]) fun _ _ _ _ _ _ us hl => match us, hl with | [_, _], _ => rfl
  have F25 := fun_mk (st := s__law_big) l25 c25 k25
  have m25 := PySem.W.mg_of X G a25
  have b25 := F25.binds (ps := ["bag"]) fun _ _ _ _ _ _ us hl => match us, hl with | [_], _ => rfl
  have F26 := fun_mk (st := s__law_due_sizes) l26 c26 k26
  have m26 := PySem.W.mg_of X G a26
  have b26 := F26.binds (ps := ["line"]) fun _ _ _ _ _ _ us hl => match us, hl with | [_], _ => rfl
  have F27 := fun_mk (st := s__law_right) l27 c27 k27
  have m27 := PySem.W.mg_of X G a27
  have b27 := F27.binds (ps := ["bag", "most"]) fun _ _ _ _ _ _ us hl => match us, hl with | [_, _], _ => rfl
  have F28 := fun_mk (st := s__law_big_right) l28 c28 k28
  have m28 := PySem.W.mg_of X G a28
  have b28 := F28.binds (ps := ["bag"]) fun _ _ _ _ _ _ us hl => match us, hl with | [_], _ => rfl
  have F29 := fun_mk (st := s__law_same) l29 c29 k29
  have m29 := PySem.W.mg_of X G a29
  have b29 := F29.binds (ps := ["found", "due"]) fun _ _ _ _ _ _ us hl => match us, hl with | [_, _], _ => rfl
  have F30 := fun_mk (st := s_law) l30 c30 k30
  have m30 := PySem.W.mg_of X G a30
  refine ⟨PySem.W.fnOf "law" "law" (defArgs s_law) (defBody s_law) (defScope s_law) .none kV30 dc30 pm30 an30 cd30 ct30, fun s v => .of_eq rfl, fun base _ _ => ?_⟩
  have A1 : At K mg "is_word" s_is_word ["value"] := ⟨_, _, F1, m1, b1⟩
  have A2 : At K mg "is_row" s_is_row ["value"] := ⟨_, _, F2, m2, b2⟩
  have A3 : At K mg "is_product" s_is_product ["value"] := ⟨_, _, F3, m3, b3⟩
  have A4 : At K mg "check_product" s_check_product ["product"] := ⟨_, _, F4, m4, b4⟩
  have A5 : At K mg "common_length" s_common_length ["word", "other"] := ⟨_, _, F5, m5, b5⟩
  have A6 : At K mg "step_between" s_step_between ["word", "other"] := ⟨_, _, F6, m6, b6⟩
  have A7 : At K mg "size_of" s_size_of ["product"] := ⟨_, _, F7, m7, b7⟩
  have A8 : At K mg "check_row" s_check_row ["row"] := ⟨_, _, F8, m8, b8⟩
  have A9 : At K mg "all_words" s_all_words ["product"] := ⟨_, _, F9, m9, b9⟩
  have A10 : At K mg "written_out" s_written_out ["product"] := ⟨_, _, F10, m10, b10⟩
  have A11 : At K mg "steps_of" s_steps_of ["row", "last", "first"] := ⟨_, _, F11, m11, b11⟩
  have A12 : At K mg "conflict" s_conflict ["steps", "size"] := ⟨_, _, F12, m12, b12⟩
  have A13 : At K mg "right_sizes" s_right_sizes ["row"] := ⟨_, _, F13, m13, b13⟩
  have A14 : At K mg "_law_cell_at" s__law_cell_at ["script", "k"] := ⟨_, _, F14, m14, b14⟩
  have A15 : At K mg "_law_bag" s__law_bag ["cell", "k"] := ⟨_, _, F15, m15, b15⟩
  have A16 : At K mg "_law_take" s__law_take ["bag", "bound"] := ⟨_, _, F16, m16, b16⟩
  have A17 : At K mg "_law_text" s__law_text ["bag", "most"] := ⟨_, _, F17, m17, b17⟩
  have A18 : At K mg "_law_times" s__law_times ["first", "second"] := ⟨_, _, F18, m18, b18⟩
  have A19 : At K mg "_law_whole" s__law_whole ["factors"] := ⟨_, _, F19, m19, b19⟩
  have A20 : At K mg "_law_factor" s__law_factor ["bag", "many"] := ⟨_, _, F20, m20, b20⟩
  have A21 : At K mg "_law_factors" s__law_factors ["bag", "most"] := ⟨_, _, F21, m21, b21⟩
  have A22 : At K mg "_law_bent" s__law_bent ["bag", "line"] := ⟨_, _, F22, m22, b22⟩
  have A23 : At K mg "_law_outer" s__law_outer ["line", "inner"] := ⟨_, _, F23, m23, b23⟩
  have A24 : At K mg "_law_cuts" s__law_cuts ["line", "many"] := ⟨_, _, F24, m24, b24⟩
  have A25 : At K mg "_law_big" s__law_big ["bag"] := ⟨_, _, F25, m25, b25⟩
  have A26 : At K mg "_law_due_sizes" s__law_due_sizes ["line"] := ⟨_, _, F26, m26, b26⟩
  have A27 : At K mg "_law_right" s__law_right ["bag", "most"] := ⟨_, _, F27, m27, b27⟩
  have A28 : At K mg "_law_big_right" s__law_big_right ["bag"] := ⟨_, _, F28, m28, b28⟩
  have A29 : At K mg "_law_same" s__law_same ["found", "due"] := ⟨_, _, F29, m29, b29⟩
  have g_MOST_WORDS : GI mg "MOST_WORDS" 2000 := ⟨_, PySem.W.mg_of X G aG1, _, rfl⟩
  have h__law_same := d_same (P := l.prog) (w := w) (base := base) A29 T 2
  have h_is_word := d_is_word (P := l.prog) (w := w) (base := base) A1 T 
  have h_is_row := d_is_row (P := l.prog) (w := w) (base := base) A2 T h_is_word
  have h_is_product := d_is_product (P := l.prog) (w := w) (base := base) A3 T h_is_row
  have h_check_product := d_check_product (P := l.prog) (w := w) (base := base) A4 T h_is_product
  have h_common_length := d_common_length (P := l.prog) (w := w) (base := base) A5 T 
  have h_step_between := d_step_between (P := l.prog) (w := w) (base := base) A6 T h_common_length
  have h_size_of := d_size_of (P := l.prog) (w := w) (base := base) A7 T 
  have h_check_row := d_check_row (P := l.prog) (w := w) (base := base) A8 T h_is_row
  have h_all_words := d_all_words (P := l.prog) (w := w) (base := base) A9 T g_MOST_WORDS h_size_of
  have h_written_out := d_written_out (P := l.prog) (w := w) (base := base) A10 T h_check_product h_all_words
  have h_steps_of := d_steps_of (P := l.prog) (w := w) (base := base) A11 T h_step_between
  have h_conflict := d_conflict (P := l.prog) (w := w) (base := base) A12 T 
  have h_right_sizes := d_right_sizes (P := l.prog) (w := w) (base := base) A13 T h_check_row h_steps_of h_conflict
  have hk_right_sizes_row := k_right_sizes (P := l.prog) (w := w) (base := base) A13 T h_check_row h_steps_of h_conflict
  have h__law_cell_at := d_cell_at (P := l.prog) (w := w) (base := base) A14 T 
  have h__law_bag := d_bag (P := l.prog) (w := w) (base := base) A15 T 
  have h__law_take := d_take (P := l.prog) (w := w) (base := base) A16 T 
  have h__law_text := d_text (P := l.prog) (w := w) (base := base) A17 T h__law_take
  have h__law_times := d_times (P := l.prog) (w := w) (base := base) A18 T 
  have h__law_whole := d_whole (P := l.prog) (w := w) (base := base) A19 T h__law_times
  have h__law_factor := d_factor (P := l.prog) (w := w) (base := base) A20 T h__law_take h__law_text
  have h__law_factors := d_factors (P := l.prog) (w := w) (base := base) A21 T h__law_take h__law_factor h__law_times
  have h__law_bent := d_bent (P := l.prog) (w := w) (base := base) A22 T h__law_take
  have h__law_outer := d_outer (P := l.prog) (w := w) (base := base) A23 T 
  have h__law_cuts := d_cuts (P := l.prog) (w := w) (base := base) A24 T h__law_outer
  have h__law_big := d_big (P := l.prog) (w := w) (base := base) A25 T h__law_take
  have h__law_due_sizes := d_dues (P := l.prog) (w := w) (base := base) A26 T h__law_cuts
  have h__law_right := d_right (P := l.prog) (w := w) (base := base) A27 T h__law_factors h__law_whole h__law_bent h__law_due_sizes h_right_sizes hk_right_sizes_row h__law_same
  have h__law_big_right := d_big_right (P := l.prog) (w := w) (base := base) A28 T h__law_big h_written_out h_right_sizes h__law_same
  exact o_law (P := l.prog) (w := w) (base := base) F30 T h__law_cell_at h__law_bag h__law_big_right h__law_right h_right_sizes
theorem walk {l : PySem.W.OpenLaw} {q : Program} {loose : List Str} {XP : (Str → Option Value) → Heap → Prop} {YP : World → Heap → Prop} {d : DefRec} {K : Params → PySem.W.Frag} (hn : l.most = some 63) (hdf : d.params.defaults = [])
    (hY : ∀ (w : World) (h : Heap), YP w h → (K w.params).In h)
    (F : ∀ (w : World) (mg : Str → Option Value) (fa : Addr) (h : Heap), (K w.params).In h → h.Ns mainGlobals mg → mg d.name = some (.ref fa) →
      ∃ fd : FuncData, (∀ (s : Shared) (u : Value), BindsTo s fd ⟨[u], []⟩ [("script", u)]) ∧ ∀ base : Heap, (K w.params).In base → base.Ns mainGlobals mg → FnG l.prog w (K w.params) mg base CX0 7 fa fd ["script"] (spLaw (K w.params))) :
    PySem.W.WalkO q loose XP YP l.row.toRowW d [] (fun f vs => PySem.call f vs) :=
  Bl.walkG (n := 63) (k := 7) (x := "script") (sp := spLaw) hn (by decide) hdf ⟨rfl, by decide, by decide⟩ hY F fun _ _ a ns hl hS => ⟨a, ns, rfl, hS, hl, fun _ => rfl⟩
end C12
open PySem PySem.W PyProof.Rows
set_option maxRecDepth 100000 in
set_option maxHeartbeats 0 in
theorem PySem.Challenge.cw_braceloops_k12_right_sizes_by_all_cuts_holds : PySem.Challenge.rw_braceloops_k12_right_sizes_by_all_cuts.Holds := by
  w_on; o_law; k_head; (case hw => w_witness2)
  k_fill
  refine C12.walk (l := PySem.Challenge.rw_braceloops_k12_right_sizes_by_all_cuts) rfl rfl (fun w h Y => PySem.W.kIn_of Y) ?F
  case F =>
    intro w mg fa h KX G hmg
    refine' C12.all_mk KX G hmg ?a1 ?l1 ?c1 ?k1 ?a2 ?l2 ?c2 ?k2 ?a3 ?l3 ?c3 ?k3 ?a4 ?l4 ?c4 ?k4 ?a5 ?l5 ?c5 ?k5 ?a6 ?l6 ?c6 ?k6 ?a7 ?l7 ?c7 ?k7 ?a8 ?l8 ?c8 ?k8 ?a9 ?l9 ?c9 ?k9 ?a10 ?l10 ?c10 ?k10 ?a11 ?l11 ?c11 ?k11 ?a12 ?l12 ?c12 ?k12 ?a13 ?l13 ?c13 ?k13 ?a14 ?l14 ?c14 ?k14 ?a15 ?l15 ?c15 ?k15 ?a16 ?l16 ?c16 ?k16 ?a17 ?l17 ?c17 ?k17 ?a18 ?l18 ?c18 ?k18 ?a19 ?l19 ?c19 ?k19 ?a20 ?l20 ?c20 ?k20 ?a21 ?l21 ?c21 ?k21 ?a22 ?l22 ?c22 ?k22 ?a23 ?l23 ?c23 ?k23 ?a24 ?l24 ?c24 ?k24 ?a25 ?l25 ?c25 ?k25 ?a26 ?l26 ?c26 ?k26 ?a27 ?l27 ?c27 ?k27 ?a28 ?l28 ?c28 ?k28 ?a29 ?l29 ?c29 ?k29 ?a30 ?l30 ?c30 ?k30 ?z1 ?z2 ?z3 ?z4 ?z5 ?z6 ?z7 ?z8 ?z9 ?z10 ?z11 ?z12 ?aG1
    (case a1 => k_is)
    (case l1 => k_is)
    (case c1 => k_is)
    (case k1 => k_is)
    (case a2 => k_is)
    (case l2 => k_is)
    (case c2 => k_is)
    (case k2 => k_is)
    (case a3 => k_is)
    (case l3 => k_is)
    (case c3 => k_is)
    (case k3 => k_is)
    (case a4 => k_is)
    (case l4 => k_is)
    (case c4 => k_is)
    (case k4 => k_is)
    (case a5 => k_is)
    (case l5 => k_is)
    (case c5 => k_is)
    (case k5 => k_is)
    (case a6 => k_is)
    (case l6 => k_is)
    (case c6 => k_is)
    (case k6 => k_is)
    (case a7 => k_is)
    (case l7 => k_is)
    (case c7 => k_is)
    (case k7 => k_is)
    (case a8 => k_is)
    (case l8 => k_is)
    (case c8 => k_is)
    (case k8 => k_is)
    (case a9 => k_is)
    (case l9 => k_is)
    (case c9 => k_is)
    (case k9 => k_is)
    (case a10 => k_is)
    (case l10 => k_is)
    (case c10 => k_is)
    (case k10 => k_is)
    (case a11 => k_is)
    (case l11 => k_is)
    (case c11 => k_is)
    (case k11 => k_is)
    (case a12 => k_is)
    (case l12 => k_is)
    (case c12 => k_is)
    (case k12 => k_is)
    (case a13 => k_is)
    (case l13 => k_is)
    (case c13 => k_is)
    (case k13 => k_is)
    (case a14 => k_is)
    (case l14 => k_is)
    (case c14 => k_is)
    (case k14 => k_is)
    (case a15 => k_is)
    (case l15 => k_is)
    (case c15 => k_is)
    (case k15 => k_is)
    (case a16 => k_is)
    (case l16 => k_is)
    (case c16 => k_is)
    (case k16 => k_is)
    (case a17 => k_is)
    (case l17 => k_is)
    (case c17 => k_is)
    (case k17 => k_is)
    (case a18 => k_is)
    (case l18 => k_is)
    (case c18 => k_is)
    (case k18 => k_is)
    (case a19 => k_is)
    (case l19 => k_is)
    (case c19 => k_is)
    (case k19 => k_is)
    (case a20 => k_is)
    (case l20 => k_is)
    (case c20 => k_is)
    (case k20 => k_is)
    (case a21 => k_is)
    (case l21 => k_is)
    (case c21 => k_is)
    (case k21 => k_is)
    (case a22 => k_is)
    (case l22 => k_is)
    (case c22 => k_is)
    (case k22 => k_is)
    (case a23 => k_is)
    (case l23 => k_is)
    (case c23 => k_is)
    (case k23 => k_is)
    (case a24 => k_is)
    (case l24 => k_is)
    (case c24 => k_is)
    (case k24 => k_is)
    (case a25 => k_is)
    (case l25 => k_is)
    (case c25 => k_is)
    (case k25 => k_is)
    (case a26 => k_is)
    (case l26 => k_is)
    (case c26 => k_is)
    (case k26 => k_is)
    (case a27 => k_is)
    (case l27 => k_is)
    (case c27 => k_is)
    (case k27 => k_is)
    (case a28 => k_is)
    (case l28 => k_is)
    (case c28 => k_is)
    (case k28 => k_is)
    (case a29 => k_is)
    (case l29 => k_is)
    (case c29 => k_is)
    (case k29 => k_is)
    (case a30 => k_is)
    (case l30 => k_is)
    (case c30 => k_is)
    (case k30 => k_is)
    (case z1 => k_is)
    (case z2 => k_is)
    (case z3 => k_is)
    (case z4 => k_is)
    (case z5 => k_is)
    (case z6 => k_is)
    (case z7 => k_is)
    (case z8 => k_is)
    (case z9 => k_is)
    (case z10 => k_is)
    (case z11 => k_is)
    (case z12 => k_is)
    (case aG1 => k_is)
