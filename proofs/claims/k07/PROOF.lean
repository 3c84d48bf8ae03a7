import PyProof.Rows.All
import Wide.All
import OpenK.AllK
import Wide.FinOn
import HandS.ForMost
import HandS.StrMore
import HandS.Zip
import HandS.NoneIn
import HandS.Wide
import HandS.Ends
import HandS.Evl
import PySem.Challenge.RW_braceloops_k07_steps_of_words
set_option Elab.async false
set_option linter.all false
set_option maxRecDepth 100000
/-! Rules of my own over the hand layer: ** of wide ints, text * int, repr of data, calls by keywords alone, and defs that need an empty list of guards. -/
namespace Bl
open PySem PySem.Spec PyProof.Rows L2

section
variable {X : Cx}
/-- ** of an int below 2 ^ 1000 by a small one -/
def CPowW (i j : Int) : Prop := (0 ≤ j ∧ j ≤ 1000) ∧ i.natAbs < 2 ^ 1000
theorem bits_pow {i j : Int} (h : CPowW i j) : (Builtin.Int.intBits i : Int) * j ≤ 2 ^ 27 := by
  obtain ⟨⟨h0, h1⟩, h2⟩ := h
  have hb : Builtin.Int.intBits i ≤ 1000 := by
    have e := PySem.Flt.log2_lt_of (n := i.natAbs) (k := 1000) (by decide) h2
    unfold Builtin.Int.intBits
    split <;> omega
  have q : (Builtin.Int.intBits i : Int) * j ≤ 1000 * j := Int.mul_le_mul_of_nonneg_right (by omega) h0
  omega
theorem op_powW : OpR X (binaryOp .Pow) (rI CPowW fun i j => .int (i ^ j.toNat)) :=
  opI fun _ _ _ _ _ _ _ hc q => pow_int hc.1.1 (bits_pow hc) q

/-- text * int -/
def rMulS : R2 := fun x y H Q => ∃ (z : Str) (n : Int), x = .str z ∧ y = .int n ∧ 0 ≤ n ∧ n ≤ 16777216 ∧ z.length * n.toNat ≤ sizeLine ∧ Q (.str (Txt.mul z n)) H
theorem mulOk_of {z : Str} {n : Int} (h0 : 0 ≤ n) (h1 : n ≤ 16777216) (hz : z.length * n.toNat ≤ sizeLine) : MulOk z n := by
  have hs : sizeLine = 16777216 := sizeLine_eq
  refine ⟨?_, fun a b c => ?_, fun a b => ?_⟩
  · rw [decide_eq_false (by omega), decide_eq_false (by omega)]
    rfl
  · have hn : 0 < n := by omega
    have hle : (z.length : Int) * n ≤ 16777216 := by
      have e : ((z.length * n.toNat : Nat) : Int) = (z.length : Int) * n := by
        rw [Int.natCast_mul, Int.toNat_of_nonneg h0]
      omega
    have hq : (z.length : Int) ≤ (2 ^ 63 - 1) / n := (Int.le_ediv_iff_mul_le hn).mpr (by omega)
    omega
  · unfold Builtin.Str.tooLong
    exact decide_eq_false (by omega)
theorem op_mulS : OpR X (binaryOp .Mult) rMulS := by
  intro pins s σ H x y v u Q I rx ry h
  obtain ⟨z, n, rfl, rfl, h0, h1, hz, q⟩ := h
  obtain ⟨t, rfl⟩ := rx
  obtain ⟨t', rfl⟩ := ry
  exact SB.mul (mulOk_of h0 h1 hz) fun t1 k => ⟨.str (Txt.mul z n), H, I.tok k, ⟨_, rfl⟩, q⟩

/-- repr of data -/
def rRepr (K : PySem.W.Frag) : List V → Hp → VK → Prop := fun xs H Q => ∃ (a : Addr) (d : PyData), xs = [.ref a] ∧ Dp K H (.ref a) d ∧ d.showable = true ∧ d.hasDict = false ∧ d.depth ≤ 40 ∧ d.shown.length ≤ sizeLine ∧ Q (.str d.shown) H
theorem call_repr (hg : X.A.guards = some []) (hu : X.A.units + 64 < cLine) : CallR X (.builtin "repr") (rRepr X.K) := by
  intro pins s σ H xs us Q I r h
  obtain ⟨a, d, rfl, hd, hs, hn, hdp, hz, q⟩ := h
  obtain ⟨u, rfl, ru⟩ := vals1 r
  obtain ⟨as, rd⟩ := Dp.reads I d (.ref a) u hd ru
  cases ru
  refine repr_of_reads' rd hs (PyData.noDict_hsm hn) hg (by omega) (fun _ _ z => z) (fun h' w tk k => ?_) hz
  exact ⟨.str d.shown, H, I.kept (t' := tk) k, ⟨_, rfl⟩, q⟩
end

/-! ### f(k = v, ..) without positional arguments -/
section
variable {X : Cx} {CX : CXT} {k : Nat} {f : Addr} {fd : FuncData} {ps ks : List Str} {sp : Sp} {E : XK} {x : Str} {p pos : Pos} {kws : List Keyword} {tk : TA} {g : List Value → List Value → List Value} {gV : List V → List V → List V}
def tCallK0 (sp : Sp) (gV : List V → List V → List V) (E : XK) (tk : TA) : TE := fun σ H Q => tk σ H fun zs H2 => sp (gV [] zs) H2 Q E
theorem pe_callK0 (F : FnOk X.prog X.w X.K X.mg X.base CX k f fd ps sp) (hr : Room k X.A) (hgl : Gl X x) (hm : X.mg x = some (.ref f)) (hk : PySem.W.keepIn X.K (.ref f) = true) (hb : KBinds X.K fd ps ks g gV) (hx : Passes CX X E) (hkw : PK X kws tk)
    (hall : (backToKw pos (keywordEach kws X.env)).all (·.1.isSome) = true := by rfl) (hks : (backToKw pos (keywordEach kws X.env)).filterMap (·.1) = ks := by rfl) (hdb : (x == ("__debug__" : Str)) = false := by decide)
    (hpl : ((backTo pos (starEach [] X.env)).any (·.1) || (backToKw pos (keywordEach kws X.env)).any (·.1.isNone)) = false := by rfl) :
    PE X (.Call (.Name x p) [] kws pos) (tCallK0 sp gV E tk) := by
  constructor
  intro pins s σ H Q I h
  apply wpAny_Call_Name_kw
  apply ld_glob I hgl hm _ hdb
  refine PySem.W.callWith_KW0 (h₀ := X.base) I.ok.mod.kin hk hall ?_ hpl
  refine thn (hkw.run pos pins s σ H _ I h) fun ws s2 z => ?_
  obtain ⟨zs, H2, I2, rz, q2⟩ := z
  refine ⟨I2.kIn, ?_⟩
  rw [hks]
  exact run_fnk (us := []) F hr hb hx I2 .nil rz q2
end

/-! ### defs that ask that no repr is under way -/
structure FnG (P : Program) (w : World) (K : PySem.W.Frag) (mg : Str → Option Value) (base : Heap) (CX : CXT) (k : Nat) (f : Addr) (fd : FuncData) (ps : List Str) (sp : Sp) : Prop where
  lenG : ∀ vs H Q E, sp vs H Q E → vs.length = ps.length
  runG : ∀ (A : Around) (outer : List Env) (s : Shared) (H : Hp) (args : Args) (us : List Value) (vs : List V) (Q : VK) (E : XK), A.guards = some [] → Room k A → Env0 P w K mg base A outer s H →
    BindsTo s fd args (ps.zip us) → Vals vs us → sp vs H Q E → codeAny (model P w) A (.call (.ref f) args) (CR CX outer P w H s Q E) s
section
variable {X : Cx} {CX : CXT} {k : Nat} {f : Addr} {fd : FuncData} {ps : List Str} {sp : Sp} {E : XK} {x : Str} {p pos : Pos} {e : Expr} {es : List Expr} {t : TA}
theorem pe_callG (F : FnG X.prog X.w X.K X.mg X.base CX k f fd ps sp) (hgd : X.A.guards = some []) (hr : Room k X.A) (hgl : Gl X x) (hm : X.mg x = some (.ref f)) (hk : PySem.W.keepIn X.K (.ref f) = true) (hb : Binds X.K fd ps []) (hx : Passes CX X E) (ha : PA X (e :: es) t)
    (hdb : (x == ("__debug__" : Str)) = false := by decide) (he : starEach (e :: es) X.env = (false, eval e X.env) :: starEach es X.env := by rfl) (hpl : (backTo pos (starEach es X.env)).any (·.1) = false := by rfl) :
    PE X (.Call (.Name x p) (e :: es) [] pos) (tCall sp [] E t) := by
  constructor
  intro pins s σ H Q I h
  apply wpAny_Call_Name_kw
  apply ld_glob I hgl hm _ hdb
  refine PySem.W.callWith_K (h₀ := X.base) I.ok.mod.kin hk ?_ he hpl
  refine thn (ha.run pos pins s σ H _ I h) fun us s1 z => ?_
  obtain ⟨vs, H1, I1, r, q⟩ := z
  refine ⟨I1.kIn, ?_⟩
  rw [List.append_nil] at q
  have hl : (us ++ []).length = ps.length := by
    rw [List.append_nil, ← r.length]
    exact F.lenG _ _ _ _ q
  have hbt := hb s1 us I1.kIn hl
  rw [List.append_nil] at hbt
  refine wpAny_call (codeAny_mono (F.runG X.A X.stack s1 H1 ⟨us, []⟩ us vs Q E hgd hr I1.env0 hbt r q) ?_)
  intro res s2 hq
  match res, hq with
  | .error ex, hq => exact hx pins σ H1 s1 ex s2 I1 hq
  | .ok (.ret v), hq => exact I1.after hq
  | .ok .next, hq => exact False.elim hq
  | .ok .brk, hq => exact False.elim hq
  | .ok .cont, hq => exact False.elim hq
end
section
variable {P : Program} {w : World} {K : PySem.W.Frag} {mg : Str → Option Value} {base : Heap}
/-- a def's promise by its body, the guards known to be none -/
theorem okG {x qual : Str} {st : Stmt} {f : Addr} {fd : FuncData} {N ps : List Str} {k : Nat} {sp : Sp} (F : Fun K x qual st f fd) (S : FnScope N ps (defScope st)) (len : ∀ vs H Q E, sp vs H Q E → vs.length = ps.length)
    (hbody : ∀ (cdv : Value) (A : Around) (outer : List Env) (s : Shared) (H : Hp) (vs : List V) (Q : VK) (E : XK), A.guards = some [] → Room k (A.deeper (envOfC qual (defScope st) s.heap.objs.size f cdv)) → sp vs H Q E →
      ∃ t, PSs (cxOf CX0 P w K mg base N qual (defScope st) f cdv A outer s H E).nox (defBody st) t ∧ t { nx := fun _ H' => Q .non H', rt := Q } (start N vs) H) : FnG P w K mg base CX0 (k + 1) f fd ps sp := by
  obtain ⟨oc, od, kV, doc, pm, an, cdv, ct, osl, rfl, lk, hcd⟩ := F.ex
  constructor
  · exact len
  intro A outer s H args us vs Q E hgd hr e0 hb r hsp
  have hlen := len _ _ _ _ hsp
  have KX : K.In s.heap := e0.mod.kin.keeps fun b o z => (e0.bs b o z).1
  have nolim : s.heap.NoLimit := e0.mod.nolimit.keeps fun b o z => (e0.bs b o z).1
  have kinds : ∀ y ∈ ps.zip us, (defScope st).names.lookup y.1 = some .local ∨ ((defScope st).names.lookup y.1 = some .cell ∧ ((cellsFrom (s.heap.objs.size + 1) (defScope st).names []).lookup y.1).isSome = true) := by
    intro y hy
    cases S.par y.1 (List.of_mem_zip hy).1 with
    | inl z => exact Or.inl z
    | inr z => exact Or.inr ⟨z, PySem.W.cellsFrom_some _ _ _ (Or.inl z)⟩
  apply codeAny_call_function hr.depth (KX _ _ lk) rfl S.co S.gen rfl (PySem.W.codeRec_of KX hcd)
  apply hb
  apply wpAny_newFunctionEnv_cells S.kind kinds
  intro env henv s1 inC
  subst henv
  refine ⟨nolim.keeps inC.toInCall.keep, ?_⟩
  apply codeAny_func
  obtain ⟨t, ht, hq⟩ := hbody cdv A outer s H vs Q E hgd (hr.deeper _) hsp
  have I := inv_start (CX := CX0) (E := E) S hr.hd e0 hlen r inC
  refine wpAny_mono (ht.nox.run [] s1 (start N vs) H _ I hq) ?_ (fun _ _ z => z)
  intro fl s2 hs
  match fl, hs with
  | .ret u, ⟨v, σ2, H2, J, rv, q⟩ => exact ⟨v, H2, J.os, J.bare, J.base, J.hok, rv, q⟩
  | .next, ⟨σ2, H2, J, q⟩ => exact ⟨V.non, H2, J.os, J.bare, J.base, J.hok, rfl, q⟩
  | .brk, ⟨_, _, _, q⟩ => exact False.elim q
  | .cont, ⟨_, _, _, q⟩ => exact False.elim q
end
end Bl
/-! Texts of letters, their common beginnings and what is left behind them. -/
namespace Bl
open PySem PySem.Spec PyProof.Rows L2 TL

/-- letters a to z -/
def Lets (x : Str) : Prop := ∀ c ∈ tl x, 97 ≤ c ∧ c ≤ 122
theorem Lets.app {x y : Str} (h : Lets x) (k : Lets y) : Lets (x ++ y) := fun c hc => by
  rw [tl_append] at hc
  rcases List.mem_append.mp hc with z | z
  · exact h c z
  · exact k c z
theorem Lets.nil : Lets ("" : Str) := fun c hc => by
  have e : tl ("" : Str) = [] := rfl
  rw [e] at hc
  cases hc
def lcp : List Nat → List Nat → Nat
  | a :: r, b :: s => if a = b then lcp r s + 1 else 0
  | _, _ => 0
theorem lcp_nil (l : List Nat) : lcp l [] = 0 := by cases l <;> rfl
theorem lcp_nil' (l : List Nat) : lcp [] l = 0 := by cases l <;> rfl
theorem lcp_cons (a b : Nat) (r s : List Nat) : lcp (a :: r) (b :: s) = if a = b then lcp r s + 1 else 0 := rfl
theorem lcp_comm : ∀ l m : List Nat, lcp l m = lcp m l
  | [], m => by rw [lcp_nil, lcp_nil']
  | a :: r, [] => by rw [lcp_nil, lcp_nil']
  | a :: r, b :: s => by
    rw [lcp_cons, lcp_cons, lcp_comm r s]
    by_cases e : a = b
    · rw [if_pos e, if_pos e.symm]
    · rw [if_neg e, if_neg (Ne.symm e)]
theorem lcp_le : ∀ l m : List Nat, lcp l m ≤ l.length ∧ lcp l m ≤ m.length
  | [], m => by rw [lcp_nil']; exact ⟨Nat.zero_le _, Nat.zero_le _⟩
  | a :: r, [] => by rw [lcp_nil]; exact ⟨Nat.zero_le _, Nat.zero_le _⟩
  | a :: r, b :: s => by
    have ih := lcp_le r s
    rw [lcp_cons, List.length_cons, List.length_cons]
    by_cases e : a = b
    · rw [if_pos e]; omega
    · rw [if_neg e]; omega
theorem lcp_app : ∀ p l m : List Nat, lcp (p ++ l) (p ++ m) = p.length + lcp l m
  | [], l, m => by simp
  | a :: p, l, m => by
    show lcp (a :: (p ++ l)) (a :: (p ++ m)) = _
    rw [lcp_cons, if_pos rfl, lcp_app p l m, List.length_cons]
    omega
theorem lcp_drop : ∀ l m : List Nat, lcp (l.drop (lcp l m)) (m.drop (lcp l m)) = 0
  | [], m => by rw [lcp_nil']; simp [lcp_nil']
  | a :: r, [] => by rw [lcp_nil]; simp [lcp_nil]
  | a :: r, b :: s => by
    by_cases e : a = b
    · subst e
      rw [lcp_cons, if_pos rfl, List.drop_succ_cons, List.drop_succ_cons]
      exact lcp_drop r s
    · have h : lcp (a :: r) (b :: s) = 0 := by rw [lcp_cons, if_neg e]
      rw [h, List.drop_zero, List.drop_zero, h]
/-- a common beginning of k letters -/
theorem lcp_take : ∀ (k : Nat) (l m : List Nat), k ≤ l.length → k ≤ m.length → (l.take k = m.take k ↔ k ≤ lcp l m)
  | 0, l, m, _, _ => by simp
  | k + 1, [], m, h, _ => by simp at h
  | k + 1, a :: r, [], _, h => by simp at h
  | k + 1, a :: r, b :: s, h, h' => by
    have ih := lcp_take k r s (by simpa using h) (by simpa using h')
    rw [lcp_cons, List.take_succ_cons, List.take_succ_cons, List.cons.injEq]
    by_cases e : a = b
    · rw [if_pos e, ih]
      omega
    · rw [if_neg e]
      constructor
      · rintro ⟨z, _⟩
        exact absurd z e
      · omega
/-- the letter at the common beginning's end -/
theorem lcp_at : ∀ (l m : List Nat) (k : Nat), k ≤ lcp l m → k < l.length → k < m.length → (l[k]? = m[k]? ↔ k < lcp l m)
  | [], m, k, _, h, _ => by simp at h
  | a :: r, [], k, _, _, h => by simp at h
  | a :: r, b :: s, 0, _, _, _ => by
    rw [lcp_cons]
    by_cases e : a = b
    · simp [e]
    · simp [e]
  | a :: r, b :: s, k + 1, h, h1, h2 => by
    rw [lcp_cons] at h ⊢
    by_cases e : a = b
    · rw [if_pos e] at h ⊢
      have ih := lcp_at r s k (by omega) (by simpa using h1) (by simpa using h2)
      simp only [List.getElem?_cons_succ]
      rw [ih]
      omega
    · rw [if_neg e] at h
      omega

def dropS (x : Str) (n : Nat) : Str := ⟨((tl x).drop n).toArray⟩
def takeS (x : Str) (n : Nat) : Str := ⟨((tl x).take n).toArray⟩
theorem tl_dropS (x : Str) (n : Nat) : tl (dropS x n) = (tl x).drop n := rfl
theorem tl_takeS (x : Str) (n : Nat) : tl (takeS x n) = (tl x).take n := rfl
theorem cut_from (x : Str) (n : Nat) : cutS x (some (n : Int)) none = dropS x n := by
  apply ext_tl
  show (((tl x).drop (HT.sIx x.length 0 (some (n : Int)))).take (x.length - HT.sIx x.length 0 (some (n : Int)))) = (tl x).drop n
  have hl := len_tl x
  rw [HT.sIx_nat]
  by_cases h : n ≤ x.length
  · rw [Nat.min_eq_left h]
    exact List.take_of_length_le (by rw [List.length_drop]; omega)
  · rw [Nat.min_eq_right (by omega), List.drop_of_length_le (l := tl x) (i := n) (by omega), List.drop_of_length_le (by omega)]
    simp
theorem cut_to (x : Str) (n : Nat) : cutS x none (some (n : Int)) = takeS x n := by
  apply ext_tl
  show (((tl x).drop 0).take (HT.sIx x.length x.length (some (n : Int)) - 0)) = (tl x).take n
  have hl := len_tl x
  rw [HT.sIx_nat, List.drop_zero, Nat.sub_zero]
  by_cases h : n ≤ x.length
  · rw [Nat.min_eq_left h]
  · rw [Nat.min_eq_right (by omega), List.take_of_length_le (by omega), List.take_of_length_le (by omega)]
/-- what is left of both behind the common beginning -/
def common (x y : Str) : Nat := lcp (tl x) (tl y)
def restL (x y : Str) : Str := dropS x (common x y)
def restR (x y : Str) : Str := dropS y (common x y)
theorem rest_swap (x y : Str) : restL y x = restR x y ∧ restR y x = restL x y := by
  unfold restL restR common
  rw [lcp_comm (tl y) (tl x)]
  exact ⟨rfl, rfl⟩
theorem rest_app (b x y : Str) : restL (b ++ x) (b ++ y) = restL x y ∧ restR (b ++ x) (b ++ y) = restR x y := by
  have e : common (b ++ x) (b ++ y) = (tl b).length + common x y := by
    unfold common
    rw [tl_append, tl_append, lcp_app]
  refine ⟨ext_tl ?_, ext_tl ?_⟩
  · show (tl (b ++ x)).drop (common (b ++ x) (b ++ y)) = (tl x).drop (common x y)
    rw [e, tl_append, ← List.drop_drop, List.drop_left]
  · show (tl (b ++ y)).drop (common (b ++ x) (b ++ y)) = (tl y).drop (common x y)
    rw [e, tl_append, ← List.drop_drop, List.drop_left]
theorem dropS_zero (x : Str) : dropS x 0 = x := ext_tl rfl
theorem rest_again (x y : Str) : restL (restL x y) (restR x y) = restL x y ∧ restR (restL x y) (restR x y) = restR x y := by
  have e : common (restL x y) (restR x y) = 0 := lcp_drop (tl x) (tl y)
  have e1 : restL (restL x y) (restR x y) = dropS (restL x y) (common (restL x y) (restR x y)) := rfl
  have e2 : restR (restL x y) (restR x y) = dropS (restR x y) (common (restL x y) (restR x y)) := rfl
  rw [e1, e2, e, dropS_zero, dropS_zero]
  exact ⟨rfl, rfl⟩
theorem rest_front (f m : Str) : restL f (f ++ m) = ("" : Str) ∧ restR f (f ++ m) = m := by
  have e : common f (f ++ m) = (tl f).length := by
    unfold common
    have h := lcp_app (tl f) [] (tl m)
    rw [List.append_nil, lcp_nil', Nat.add_zero, ← tl_append] at h
    exact h
  refine ⟨ext_tl ?_, ext_tl ?_⟩
  · show (tl f).drop (common f (f ++ m)) = []
    rw [e]
    exact List.drop_length
  · show (tl (f ++ m)).drop (common f (f ++ m)) = tl m
    rw [e, tl_append, List.drop_left]
theorem lets_drop {x : Str} (h : Lets x) (n : Nat) : Lets (dropS x n) := fun c hc => h c (List.mem_of_mem_drop hc)
theorem len_app (x y : Str) : (x ++ y).length = x.length + y.length := by
  rw [len_tl, tl_append, List.length_append, ← len_tl, ← len_tl]
theorem len_drop (x : Str) (n : Nat) : (dropS x n).length ≤ x.length := by
  rw [len_tl, tl_dropS, List.length_drop, ← len_tl]
  omega
theorem common_le (x y : Str) : common x y ≤ x.length ∧ common x y ≤ y.length := by
  rw [len_tl x, len_tl y]
  exact lcp_le _ _
/-! ### text * int -/
theorem tl_mul (x : Str) (n : Nat) : tl (Txt.mul x (n : Int)) = (List.replicate n (tl x)).flatten := by
  have fold : ∀ (k : Nat) (acc : Array Nat), (List.foldl (fun x1 x2 => x1 ++ x2) acc (List.replicate k x.cps)).toList = acc.toList ++ (List.replicate k (tl x)).flatten := by
    intro k
    induction k with
    | zero => intro acc; simp
    | succ k ih =>
      intro acc
      rw [List.replicate_succ, List.foldl_cons, ih, List.replicate_succ, List.flatten_cons, Array.toList_append, List.append_assoc]
  unfold Txt.mul
  by_cases h : (n : Int) < 1
  · have hn : n = 0 := by omega
    rw [if_pos h, hn]
    rfl
  · rw [if_neg h]
    by_cases c : ((n : Int) == 1 || x.length == 0) = true
    · rw [if_pos c]
      rcases Bool.or_eq_true _ _ ▸ c with z | z
      · have hn : n = 1 := by
          have := beq_iff_eq.mp z
          omega
        rw [hn]
        simp
      · have hx : tl x = [] := List.eq_nil_of_length_eq_zero (by rw [← len_tl]; exact beq_iff_eq.mp z)
        rw [hx]
        clear fold h c
        induction n with
        | zero => rfl
        | succ n ih => rw [List.replicate_succ, List.flatten_cons, ← ih]; rfl
    · rw [if_neg c]
      show (List.foldl (fun x1 x2 => x1 ++ x2) #[] (List.replicate (n : Int).toNat x.cps)).toList = _
      rw [Int.toNat_natCast, fold]
      simp
theorem len_mul (x : Str) (n : Nat) : (Txt.mul x (n : Int)).length = n * x.length := by
  rw [len_tl, tl_mul, List.length_flatten, List.map_replicate, List.sum_replicate_nat, ← len_tl]
theorem lets_mul {x : Str} (h : Lets x) (n : Nat) : Lets (Txt.mul x (n : Int)) := fun c hc => by
  rw [tl_mul, List.mem_flatten] at hc
  obtain ⟨l, hl, hc⟩ := hc
  rw [(List.mem_replicate.mp hl).2] at hc
  exact h c hc
/-! ### what isalpha, islower and isascii say of letters -/
theorem uni_tab : ∀ k < 26, (Unicode.isAlpha (97 + k) && Unicode.isLower (97 + k) && !(Unicode.isUpper (97 + k) || Unicode.isTitle (97 + k))) = true := by decide +kernel
theorem uni_of {c : Nat} (h : 97 ≤ c ∧ c ≤ 122) : Unicode.isAlpha c = true ∧ Unicode.isLower c = true ∧ (Unicode.isUpper c || Unicode.isTitle c) = false := by
  have e := uni_tab (c - 97) (by omega)
  rw [show 97 + (c - 97) = c by omega, Bool.and_eq_true, Bool.and_eq_true] at e
  refine ⟨e.1.1, e.1.2, ?_⟩
  have := e.2
  revert this
  cases (Unicode.isUpper c || Unicode.isTitle c) <;> simp
theorem word_tests {x : Str} (h : Lets x) : Txt.isascii x = true ∧ (x.length ≠ 0 → Txt.isalpha x = true ∧ Txt.islower x = true) := by
  have all : ∀ c ∈ x.cps.toList, 97 ≤ c ∧ c ≤ 122 := h
  refine ⟨?_, fun hx => ⟨?_, ?_⟩⟩
  · unfold Txt.isascii
    rw [← Array.all_toList, List.all_eq_true]
    intro c hc
    have := all c hc
    exact decide_eq_true (by omega)
  · unfold Txt.isalpha
    rw [Bool.and_eq_true]
    refine ⟨decide_eq_true (by omega), ?_⟩
    rw [← Array.all_toList, List.all_eq_true]
    intro c hc
    exact (uni_of (all c hc)).1
  · unfold Txt.islower
    rw [Bool.and_eq_true]
    constructor
    · rw [← Array.any_toList, List.any_eq_true]
      have hl := len_tl x
      cases e : tl x with
      | nil => rw [e] at hl; exact absurd hl hx
      | cons c r =>
        have hc : c ∈ x.cps.toList := by
          show c ∈ tl x
          rw [e]
          exact List.mem_cons_self
        exact ⟨c, hc, (uni_of (all c hc)).2.1⟩
    · rw [Bool.not_eq_true', ← Array.any_toList, List.any_eq_false]
      intro c hc
      rw [(uni_of (all c hc)).2.2]
      decide
/-! ### how long a repr may come -/
theorem lets_small {x : Str} (h : Lets x) : ∀ c ∈ x.cps.toList, c < 16 ^ 8 := fun c hc => by
  have := h c hc
  have e : (16 : Nat) ^ 8 = 4294967296 := by decide
  omega
theorem repr_len {x : Str} (h : Lets x) : (reprText x).length ≤ 10 * x.length + 2 := StrLaws.reprText_len x (lets_small h)
end Bl
namespace Bl
open PySem PySem.Spec PyProof.Rows L2

/-- an abstract heap in which at most the script stands, locked -/
structure Scr (P : Program) (w : World) (K : PySem.W.Frag) (h : Heap) (a : Addr) (H : Hp) : Prop where
  hok : HOk P w H h
  at_a : ∀ b, H b ≠ none → b = a
  free : H a ≠ none → K.lookup a = none
  frz : ∀ b u, H b = some u → ∃ o xs, u = .frz o (.lst xs)

theorem scr_end {P : Program} {w : World} {K : PySem.W.Frag} {mg mb : Str → Option Value} {k : Nat} {fa a : Addr} {fd : FuncData} {x : Str} {sp : Sp} {s1 : Shared} {vs : List Value} {H : Hp}
    (KX : K.In s1.heap) (ns0 : s1.heap.Ns mainGlobals mg) (nb : s1.heap.Ns builtinsNs mb) (nbb : ∀ y : Str, y ≠ "__name__" → mb y = bootBuiltins y) (lim : s1.heap.NoLimit) (g0 : s1.gens = #[])
    (ha : s1.heap.get? a = some { cls := .type "list", data := .seq vs.toArray }) (hr : Room k callerA) (S : Scr P w K s1.heap a H)
    (F : ∀ base : Heap, K.In base → base.Ns mainGlobals mg → FnG P w K mg base CX0 k fa fd [x] sp) (hbind : ∀ (s : Shared) (u : Value), BindsTo s fd ⟨[u], []⟩ [(x, u)])
    (hsp : sp [.ref a] H (fun v _ => v = .bl true) fun _ _ _ => False) :
    codeAny (model P w) callerA (.call (.ref fa) ⟨[.ref a], []⟩) (fun r s' => r = .ok (.ret (.bool true)) ∧ PySem.OldK s1.heap s'.heap ∧ s'.os = s1.os ∧ AllBare s'.gens) s1 := by
  -- no namespace is the script
  have dictFree : ∀ {b : Addr} {o : Obj} {es : Array DictEntry} {ep : Nat}, s1.heap.get? b = some o → o.data = .dict es ep → H b = none := by
    intro b o es ep e d
    apply Classical.byContradiction
    intro z
    have eb := S.at_a b z
    rw [eb, ha] at e
    injection e with e
    rw [← e] at d
    exact absurd d (by simp)
  have nsKept : ∀ {b : Addr} {m : Str → Option Value}, s1.heap.Ns b m → (hidT s1.heap H).Ns b m := by
    intro b m n
    obtain ⟨o, es, ep, e, d, r⟩ := n
    exact ⟨o, es, ep, hidT_get e (dictFree e d), d, r⟩
  have kin : K.In (hidT s1.heap H) := by
    intro b o e
    refine hidT_get (KX b o e) ?_
    apply Classical.byContradiction
    intro z
    have eb := S.at_a b z
    subst eb
    rw [S.free z] at e
    cases e
  obtain ⟨mc, l1, l2⟩ := lim
  have md : Mod K mg (hidT s1.heap H) := ⟨kin, nsKept ns0, ⟨mb, nsKept nb, nbb⟩, ⟨mc, nsKept l1, l2⟩⟩
  have env : Env0 P w K mg (hidT s1.heap H) callerA [] s1 H := by
    refine ⟨rfl, md, fun b o e => of_hidT e, Nat.le_of_eq (hidT_size _ _), trivial, ?_, S.hok, .of_eq g0⟩
    intro b hb
    exact absurd hb (List.not_mem_nil)
  have run := (F _ kin (nsKept ns0)).runG callerA [] s1 H ⟨[.ref a], []⟩ [.ref a] [.ref a] _ _ rfl hr env (hbind s1 (.ref a)) (.cons rfl .nil) hsp
  refine codeAny_mono run ?_
  intro r s2 h
  match r, h with
  | .error e, h => exact False.elim h
  | .ok .next, h => exact False.elim h
  | .ok .brk, h => exact False.elim h
  | .ok .cont, h => exact False.elim h
  | .ok (.ret u), ⟨v, H2, os, bare, un, hok2, rv, q⟩ =>
    have q : v = .bl true := q
    subst q
    have rv : u = Value.bool true := rv
    subst rv
    refine ⟨rfl, PySem.OldK.of_keep ?_, os, bare⟩
    intro b o e
    by_cases z : H b = none
    · exact un.keep b o e z List.not_mem_nil List.not_mem_nil
    · obtain ⟨u, hu⟩ := Option.ne_none_iff_exists'.mp z
      obtain ⟨ob, xs, rfl⟩ := S.frz b u hu
      have k1 := (S.hok b _ hu).1
      have k2 := (hok2 b _ (un.frzs b ob _ hu)).1
      rw [e] at k1
      rw [Option.some.inj k1]
      exact k2

theorem walkG {l : PySem.W.OpenLaw} {n k : Nat} {q : Program} {loose : List Str} {XP : (Str → Option Value) → Heap → Prop} {YP : World → Heap → Prop} {d : DefRec} {K : Params → PySem.W.Frag} {sp : PySem.W.Frag → Sp} {x : Str}
    (hn : l.most = some n) (hn2 : n ≤ sizeLine) (hdf : d.params.defaults = []) (hr : Room k callerA)
    (hY : ∀ (w : World) (h : Heap), YP w h → (K w.params).In h)
    (F : ∀ (w : World) (mg : Str → Option Value) (fa : Addr) (h : Heap), (K w.params).In h → h.Ns mainGlobals mg → mg d.name = some (.ref fa) →
      ∃ fd : FuncData, (∀ (s : Shared) (u : Value), BindsTo s fd ⟨[u], []⟩ [(x, u)]) ∧ ∀ base : Heap, (K w.params).In base → base.Ns mainGlobals mg → FnG l.prog w (K w.params) mg base CX0 k fa fd [x] (sp (K w.params)))
    (hsp : ∀ (K : PySem.W.Frag) (H : Hp) (a : Addr) (ns : List Int), ns.length ≤ n → SqL K H a (ns.map V.int) → sp K [.ref a] H (fun v _ => v = .bl true) fun _ _ _ => False) :
    PySem.W.WalkO q loose XP YP l.row.toRowW d [] (fun f vs => PySem.call f vs) := by
  apply Att.attach_call hn hdf
  intro w s0 s1 mg mb fa o pm cd doc a vs ns G Y ho hd hcd hmg hobj hints hlen hg
  have KX := hY w _ Y
  have rv := vals_ints hints
  have le := hints.length
  have sz : (ns.map V.int).length ≤ sizeLine := by
    rw [List.length_map]
    exact Nat.le_trans hlen hn2
  obtain ⟨fd, hb, hF⟩ := F w mg fa _ KX G.T.g hmg
  cases hk : (K w.params).lookup a with
  | some o1 =>
    have e := KX a o1 hk
    rw [hobj] at e
    injection e with e
    subst e
    refine scr_end (H := fun _ => none) KX G.T.g G.T.b G.T.builtins G.T.nolimit hg hobj hr ⟨?_, fun b z => absurd rfl z, fun z => absurd rfl z, fun b u z => by cases z⟩ hF hb (hsp _ _ a ns hlen ?_)
    · intro b u z
      cases z
    · refine Or.inr ⟨_, vs.toArray, _, hk, rfl, rfl, rfl, ?_, ?_⟩
      · rw [List.size_toArray, le]
        exact Nat.le_trans hlen hn2
      · rw [List.toList_toArray]
        exact rv
  | none =>
    have own : ∀ b u, (fun b => if b = a then some (HO.frz { cls := .type "list", data := .seq vs.toArray } (.lst (ns.map V.int))) else none) b = some u → b = a ∧ u = .frz { cls := .type "list", data := .seq vs.toArray } (.lst (ns.map V.int)) := by
      intro b u z
      by_cases hba : b = a
      · refine ⟨hba, ?_⟩
        have z2 : (if b = a then some (HO.frz { cls := .type "list", data := .seq vs.toArray } (.lst (ns.map V.int))) else none) = some u := z
        rw [if_pos hba] at z2
        exact (Option.some.inj z2).symm
      · have z2 : (if b = a then some (HO.frz { cls := .type "list", data := .seq vs.toArray } (.lst (ns.map V.int))) else none) = some u := z
        rw [if_neg hba] at z2
        cases z2
    refine scr_end (H := fun b => if b = a then some (.frz { cls := .type "list", data := .seq vs.toArray } (.lst (ns.map V.int))) else none) KX G.T.g G.T.b G.T.builtins G.T.nolimit hg hobj hr ⟨?_, ?_, fun _ => hk, ?_⟩ hF hb (hsp _ _ a ns hlen ?_)
    · intro b u z
      obtain ⟨rfl, rfl⟩ := own b u z
      exact ⟨hobj, sz, vs, _, rv, hobj⟩
    · intro b z
      obtain ⟨u, hu⟩ := Option.ne_none_iff_exists'.mp z
      exact (own b u hu).1
    · intro b u z
      exact ⟨_, _, (own b u z).2⟩
    · exact Or.inl (Or.inr ⟨_, if_pos rfl⟩)
end Bl
namespace K7
open PySem PySem.Spec PyProof.Rows L2 TL Bl
def top (i : Nat) : Stmt := PySem.Challenge.pw_braceloops_k07_steps_of_words.main.body.getD i (.Pass ⟨0, 0, 0, 0⟩)
abbrev sIsWord : Stmt := top 4
abbrev sCheck : Stmt := top 5
abbrev sStep : Stmt := top 7
abbrev sCommon : Stmt := top 8
abbrev sBetween : Stmt := top 9
abbrev sTray : Stmt := top 11
abbrev sTake : Stmt := top 12
abbrev sLetters : Stmt := top 13
abbrev sRests : Stmt := top 14
abbrev sRight : Stmt := top 15
abbrev sLaw : Stmt := top 16
/-- the built-in names that no row of the top takes -/
structure Names (mg : Str → Option Value) : Prop where
  isi : mg "isinstance" = none
  str : mg "str" = none
  len : mg "len" = none
  min : mg "min" = none
  max : mg "max" = none
  abs : mg "abs" = none
  range : mg "range" = none
  repr : mg "repr" = none
section
variable {P : Program} {w : World} {K : PySem.W.Frag} {mg : Str → Option Value} {base : Heap}

/-! ### is_word -/
def spWord : Sp := fun vs H Q _ => ∃ x : Str, vs = [.str x] ∧ Lets x ∧ x.length ≤ 100000 ∧ Q (.bl true) H
theorem scIsWord : FnScope ["value"] ["value"] (defScope sIsWord) := ⟨rfl, rfl, rfl, by decide +kernel, rfl, by decide +kernel, by decide +kernel⟩
theorem eq_empty {x : Str} : x = ("" : Str) ↔ x.length = 0 := by
  constructor
  · rintro rfl
    rfl
  · intro h
    apply ext_tl
    rw [len_tl] at h
    exact List.eq_nil_of_length_eq_zero h
theorem ok_isWord {f : Addr} {fd : FuncData} (F : Fun K "is_word" "is_word" sIsWord f fd) (T : Names mg) : FnOk P w K mg base CX0 1 f fd ["value"] spWord := by
  refine F.ok scIsWord (fun vs H Q E h => ?_) (fun cdv A outer s H vs Q E hr h => ?_)
  · obtain ⟨x, rfl, _⟩ := h
    rfl
  · obtain ⟨x, rfl, hx, hl, k⟩ := h
    refine ⟨_, pss_cons (ps_if (pt_not (pt_val (pe_callB RZ.call_isTy (by rfl) T.isi boot_isinstance (pa_cons (pv 0) (pa_cons (pe_bltn (v := .ty "str") (by rfl) T.str PyProof.Rows.boot_str rfl) pa_nil))))) pss_never pss_nil)
      (pss_one (ps_ret (pe_or (pe_cmpR op_eq (pv 0) pe_str (nomark _)) (pe_one (pe_and (pe_m0 PySem.F.slot_str_isascii PySem.F.type_str_isascii mt_isascii (pv 0))
        (pe_and (pe_m0 PySem.F.slot_str_isalpha PySem.F.type_str_isalpha mt_isalpha (pv 0)) (pe_one (pe_m0 PySem.F.slot_str_islower PySem.F.type_str_islower mt_islower (pv 0))))))))), ?_⟩
    refine ⟨_, rfl, _, "str", rfl, .str x, true, rfl, ?_⟩
    refine iteF ?_
    obtain ⟨h1, h2⟩ := word_tests hx
    refine ⟨_, rfl, rfl, _, rfl, ?_⟩
    by_cases e : x = ("" : Str)
    · have e' : V.str x = V.str "" := congrArg V.str e
      rw [decide_eq_true e']
      exact iteT k
    · have e' : ¬ V.str x = V.str "" := fun z => e (V.str.inj z)
      rw [decide_eq_false e']
      have hn : x.length ≠ 0 := fun z => e (eq_empty.mpr z)
      obtain ⟨h3, h4⟩ := h2 hn
      refine iteF ⟨_, rfl, ⟨x, rfl⟩, x, rfl, rfl, trivial, _, rfl, ?_⟩
      rw [h1]
      refine iteT ⟨_, rfl, ⟨x, rfl⟩, x, rfl, rfl, trivial, _, rfl, ?_⟩
      rw [h3]
      refine iteT ⟨_, rfl, ⟨x, rfl⟩, x, rfl, rfl, trivial, ?_⟩
      rw [h4]
      exact k

/-! ### check_word -/
def spCheck : Sp := fun vs H Q _ => ∃ x : Str, vs = [.str x] ∧ Lets x ∧ x.length ≤ 100000 ∧ Q .non H
theorem scCheck : FnScope ["word"] ["word"] (defScope sCheck) := ⟨rfl, rfl, rfl, by decide +kernel, rfl, by decide +kernel, by decide +kernel⟩
theorem ok_check {f g : Addr} {fd gd : FuncData} (F : Fun K "check_word" "check_word" sCheck f fd) (T : Names mg) (G : Fun K "is_word" "is_word" sIsWord g gd) (mG : mg "is_word" = some (.ref g)) (bG : Binds K gd ["value"] []) :
    FnOk P w K mg base CX0 2 f fd ["word"] spCheck := by
  refine F.ok scCheck (fun vs H Q E h => ?_) (fun cdv A outer s H vs Q E hr h => ?_)
  · obtain ⟨x, rfl, _⟩ := h
    rfl
  · obtain ⟨x, rfl, hx, hl, k⟩ := h
    refine ⟨_, pss_one (ps_if (pt_not (pt_val (pe_call (ok_isWord G T) hr (by rfl) mG G.kp bG .nil pass0 (pa_cons (pv 0) pa_nil)))) pss_never pss_nil), ?_⟩
    refine ⟨_, rfl, x, rfl, hx, hl, true, rfl, ?_⟩
    exact iteF k

/-! ### common_length -/
def spCommon : Sp := fun vs H Q _ => ∃ x y : Str, vs = [.str x, .str y] ∧ x.length ≤ 100000 ∧ y.length ≤ 100000 ∧ Q (.int (common x y : Nat)) H
theorem scCommon : FnScope ["word", "other", "least", "greatest", "middle"] ["word", "other"] (defScope sCommon) := ⟨rfl, rfl, rfl, by decide +kernel, rfl, by decide +kernel, by decide +kernel⟩
theorem sl_small {n : Nat} (h : n ≤ 100000) : n ≤ sizeLine := Nat.le_trans h (by decide)
theorem takeS_eq (x y : Str) (m : Nat) (h1 : m ≤ x.length) (h2 : m ≤ y.length) : (takeS x m = takeS y m) ↔ m ≤ common x y := by
  have e := lcp_take m (tl x) (tl y) (by rw [← len_tl]; exact h1) (by rw [← len_tl]; exact h2)
  unfold common
  rw [← e]
  constructor
  · intro z
    have := congrArg tl z
    rw [tl_takeS, tl_takeS] at this
    exact this
  · intro z
    exact ext_tl (by rw [tl_takeS, tl_takeS]; exact z)
theorem ok_common {f : Addr} {fd : FuncData} (F : Fun K "common_length" "common_length" sCommon f fd) (T : Names mg) : FnOk P w K mg base CX0 1 f fd ["word", "other"] spCommon := by
  refine F.ok scCommon (fun vs H Q E h => ?_) (fun cdv A outer s H vs Q E hr h => ?_)
  · obtain ⟨x, y, rfl, _⟩ := h
    rfl
  · obtain ⟨x, y, rfl, hx, hy, k⟩ := h
    refine ⟨_, pss_cons (ps_set (i := 2) scCommon.nd rfl (Or.inl rfl) pe_int)
      (pss_cons (ps_set (i := 3) scCommon.nd rfl (Or.inl rfl) (pe_callB (call_min2 rfl) (by rfl) T.min boot_min
        (pa_cons (pe_callB call_len_str (by rfl) T.len PySem.boot_len (pa_cons (pv 0) pa_nil)) (pa_cons (pe_callB call_len_str (by rfl) T.len PySem.boot_len (pa_cons (pv 1) pa_nil)) pa_nil))))
      (pss_cons (ps_while PassesOwn.never (pt_cmpR op_lt (pv 2) (pv 3) (nomark _))
        (pss_cons (ps_set (i := 4) scCommon.nd rfl (Or.inl rfl) (pe_op op_fdiv (pe_op op_add (pe_op op_add (pv 2) (pv 3)) pe_int) pe_int))
        (pss_one (ps_if (pt_cmpR op_eq (pe_slice sl_str (pv 0) po_none (po_some (pv 4))) (pe_slice sl_str (pv 1) po_none (po_some (pv 4))) (nomark _))
          (pss_one (ps_set (i := 2) scCommon.nd rfl (Or.inl rfl) (pv 4)))
          (pss_one (ps_set (i := 3) scCommon.nd rfl (Or.inl rfl) (pe_op op_sub (pv 4) pe_int)))))))
      (pss_one (ps_ret (pv 2))))), ?_⟩
    refine ⟨_, rfl, x, rfl, sl_small hx, _, rfl, y, rfl, sl_small hy, _, _, rfl, ?_⟩
    have hcl := common_le x y
    have hmin : ∃ g : Nat, (if ((y.length : Nat) : Int) < ((x.length : Nat) : Int) then ((y.length : Nat) : Int) else ((x.length : Nat) : Int)) = (g : Int) ∧ common x y ≤ g ∧ g ≤ x.length ∧ g ≤ y.length := by
      by_cases c : ((y.length : Nat) : Int) < ((x.length : Nat) : Int)
      · rw [if_pos c]
        exact ⟨y.length, rfl, by omega, by omega, by omega⟩
      · rw [if_neg c]
        exact ⟨x.length, rfl, by omega, by omega, by omega⟩
    obtain ⟨g, eg, g1, g2, g3⟩ := hmin
    rw [eg]
    refine ⟨fun m σ H' => H' = H ∧ ∃ (a b : Nat) (v : Option V), σ = [some (.str x), some (.str y), some (.int a), some (.int b), v] ∧ a ≤ common x y ∧ common x y ≤ b ∧ b ≤ g ∧ m = b - a, ⟨g - 0, rfl, 0, g, none, rfl, Nat.zero_le _, g1, Nat.le_refl _, rfl⟩, ?_⟩
    rintro m σ H' ⟨rfl, a, b, v, rfl, ha, hb, hg, rfl⟩
    refine ⟨_, rfl, _, rfl, _, _, rfl, rfl, _, rfl, ?_⟩
    refine ite2 (fun hlt => ?_) (fun hge => ?_)
    · have hlt : (a : Int) < (b : Int) := by simpa using hlt
      have hab : a < b := by omega
      refine ⟨fun σ' H'' => H'' = H' ∧ ∃ (a' b' : Nat) (v : Option V), σ' = [some (.str x), some (.str y), some (.int a'), some (.int b'), v] ∧ a' ≤ common x y ∧ common x y ≤ b' ∧ b' ≤ g ∧ b' - a' < b - a, fun σ' H'' z => ?_, ?_⟩
      · obtain ⟨rfl, a', b', v', rfl, h1, h2, h3, h4⟩ := z
        exact ⟨b' - a', h4, rfl, a', b', v', rfl, h1, h2, h3, rfl⟩
      · refine ⟨_, rfl, _, rfl, _, _, rfl, rfl, _, _, rfl, rfl, _, _, rfl, rfl, ⟨by decide, by decide⟩, ?_⟩
        have emid : ((a : Int) + (b : Int) + 1) / 2 = (((a + b + 1) / 2 : Nat) : Int) := by omega
        have hm1 : a < (a + b + 1) / 2 := by omega
        have hm2 : (a + b + 1) / 2 ≤ b := by omega
        dsimp only
        rw [emid]
        generalize (a + b + 1) / 2 = m at hm1 hm2
        refine ⟨_, rfl, _, rfl, _, rfl, x, rfl, sl_small hx, _, rfl, _, rfl, _, rfl, y, rfl, sl_small hy, rfl, _, rfl, ?_⟩
        rw [cut_to, cut_to]
        have te := takeS_eq x y m (by omega) (by omega)
        refine ite2 (fun hq => ?_) (fun hq => ?_)
        · have hq : takeS x m = takeS y m := by
            have := of_decide_eq_true hq
            exact V.str.inj this
          refine ⟨_, rfl, rfl, m, b, _, rfl, te.mp hq, hb, hg, by omega⟩
        · have hq : ¬ takeS x m = takeS y m := fun z => hq (decide_eq_true (congrArg V.str z))
          have hlt2 : ¬ m ≤ common x y := fun z => hq (te.mpr z)
          refine ⟨_, rfl, _, _, rfl, rfl, rfl, a, m - 1, some (.int (m : Int)), ?_, ha, by omega, by omega, by omega⟩
          have e1 : (m : Int) - 1 = ((m - 1 : Nat) : Int) := by omega
          rw [← e1]
          rfl
    · have hge : ¬ ((a : Int) < (b : Int)) := by simpa using hge
      have e : a = common x y := by omega
      refine ⟨_, rfl, ?_⟩
      rw [e]
      exact k

/-! ### step_between -/
/-- a new tuple of the two rests, all else as it stands -/
def spStep : Sp := fun vs H Q _ => ∃ x y : Str, vs = [.str x, .str y] ∧ Lets x ∧ Lets y ∧ x.length ≤ 100000 ∧ y.length ≤ 100000 ∧ ∀ p, H p = none → Q (.ref p) (upd H p (.tup [.str (restL x y), .str (restR x y)]))
theorem scBetween : FnScope ["word", "other", "length"] ["word", "other"] (defScope sBetween) := ⟨rfl, rfl, rfl, by decide +kernel, rfl, by decide +kernel, by decide +kernel⟩
theorem ok_between {f g : Addr} {fd gd : FuncData} (F : Fun K "step_between" "step_between" sBetween f fd) (T : Names mg) (G : Fun K "common_length" "common_length" sCommon g gd) (mG : mg "common_length" = some (.ref g)) (bG : Binds K gd ["word", "other"] []) :
    FnOk P w K mg base CX0 2 f fd ["word", "other"] spStep := by
  refine F.ok scBetween (fun vs H Q E h => ?_) (fun cdv A outer s H vs Q E hr h => ?_)
  · obtain ⟨x, y, rfl, _⟩ := h
    rfl
  · obtain ⟨x, y, rfl, lx, ly, hx, hy, k⟩ := h
    refine ⟨_, pss_cons (ps_set (i := 2) scBetween.nd rfl (Or.inl rfl) (pe_call (ok_common G T) hr (by rfl) mG G.kp bG .nil pass0 (pa_cons (pv 0) (pa_cons (pv 1) pa_nil))))
      (pss_one (ps_ret (pe_tup (pa_cons (pe_slice sl_str (pv 0) (po_some (pv 2)) po_none) (pa_cons (pe_slice sl_str (pv 1) (po_some (pv 2)) po_none) pa_nil))))), ?_⟩
    refine ⟨_, rfl, _, rfl, x, y, rfl, hx, hy, ?_⟩
    refine ⟨_, rfl, _, rfl, _, rfl, x, rfl, sl_small hx, _, rfl, _, rfl, _, rfl, y, rfl, sl_small hy, (by show 2 ≤ sizeLine; decide), fun p hp => ?_⟩
    rw [cut_from, cut_from]
    exact k p hp

/-! ### step -/
theorem scStep : FnScope ["word", "other"] ["word", "other"] (defScope sStep) := ⟨rfl, rfl, rfl, by decide +kernel, rfl, by decide +kernel, by decide +kernel⟩
theorem ok_step {f c i g b : Addr} {fd cd id gd bd : FuncData} (F : Fun K "step" "step" sStep f fd) (T : Names mg) (C : Fun K "check_word" "check_word" sCheck c cd) (mC : mg "check_word" = some (.ref c)) (bC : Binds K cd ["word"] [])
    (I : Fun K "is_word" "is_word" sIsWord i id) (mI : mg "is_word" = some (.ref i)) (bI : Binds K id ["value"] []) (B : Fun K "step_between" "step_between" sBetween b bd) (mB : mg "step_between" = some (.ref b)) (bB : Binds K bd ["word", "other"] [])
    (G : Fun K "common_length" "common_length" sCommon g gd) (mG : mg "common_length" = some (.ref g)) (bG : Binds K gd ["word", "other"] []) : FnOk P w K mg base CX0 3 f fd ["word", "other"] spStep := by
  refine F.ok scStep (fun vs H Q E h => ?_) (fun cdv A outer s H vs Q E hr h => ?_)
  · obtain ⟨x, y, rfl, _⟩ := h
    rfl
  · obtain ⟨x, y, rfl, lx, ly, hx, hy, k⟩ := h
    have OC : FnOk P w K mg base CX0 2 c cd ["word"] spCheck := ok_check C T I mI bI
    have OB : FnOk P w K mg base CX0 2 b bd ["word", "other"] spStep := ok_between B T G mG bG
    refine ⟨_, pss_cons (ps_expr (pe_call OC hr (by rfl) mC C.kp bC .nil pass0 (pa_cons (pv 0) pa_nil)))
      (pss_cons (ps_expr (pe_call OC hr (by rfl) mC C.kp bC .nil pass0 (pa_cons (pv 1) pa_nil)))
      (pss_one (ps_ret (pe_call OB hr (by rfl) mB B.kp bB .nil pass0 (pa_cons (pv 0) (pa_cons (pv 1) pa_nil)))))), ?_⟩
    exact ⟨_, rfl, x, rfl, lx, hx, _, rfl, y, rfl, ly, hy, _, rfl, _, rfl, x, y, rfl, lx, ly, hx, hy, k⟩
end
end K7
namespace K7
open PySem PySem.Spec PyProof.Rows L2 TL Bl
/-! ### the tray: three ints in a list, the last one counts -/
def Tray (H : Hp) (t : Addr) (n : Nat) : Prop := ∃ a b c : Int, H t = some (.lst [.int a, .int b, .int c]) ∧ 0 ≤ a ∧ 0 ≤ b ∧ b < 2 ^ 200 ∧ 0 ≤ c ∧ c ≤ (n : Int)
theorem Tray.mono {H : Hp} {t : Addr} {n m : Nat} (h : Tray H t n) (e : n ≤ m) : Tray H t m := by
  obtain ⟨a, b, c, h1, h2, h3, h4, h5, h6⟩ := h
  exact ⟨a, b, c, h1, h2, h3, h4, h5, by omega⟩
theorem Tray.of {H H' : Hp} {t : Addr} {n : Nat} (h : Tray H t n) (e : H' t = H t) : Tray H' t n := by
  obtain ⟨a, b, c, h1, h2⟩ := h
  exact ⟨a, b, c, e.trans h1, h2⟩
/-- all but the object at t stands as it did -/
def But (t : Addr) (H H' : Hp) : Prop := ∀ b o, b ≠ t → H b = some o → H' b = some o
theorem But.refl (t : Addr) (H : Hp) : But t H H := fun _ _ _ h => h
theorem But.trans {t : Addr} {H H1 H2 : Hp} (a : But t H H1) (b : But t H1 H2) : But t H H2 := fun c o n h => b c o n (a c o n h)
theorem But.set {t : Addr} {H : Hp} {o : HO} : But t H (upd H t o) := fun b u n h => by
  rw [upd_ne n]
  exact h
theorem But.new {t p : Addr} {H : Hp} {o : HO} (hp : H p = none) : But t H (upd H p o) := fun b u _ h => by
  rw [upd_ne (ne_of_none h hp)]
  exact h
/-- what a def with a tray may do: the tray's own change, new objects, nothing else -/
theorem Tray.ne {H : Hp} {t p : Addr} {n : Nat} (h : Tray H t n) (hp : H p = none) : t ≠ p := by
  obtain ⟨a, b, c, h1, _⟩ := h
  exact ne_of_none h1 hp
theorem Tray.new {H : Hp} {t p : Addr} {n : Nat} {o : HO} (h : Tray H t n) (hp : H p = none) : Tray (upd H p o) t n := h.of (upd_ne (h.ne hp))
section
variable {P : Program} {w : World} {K : PySem.W.Frag} {mg : Str → Option Value} {base : Heap}

/-! ### _law_tray -/
def spTray (K : PySem.W.Frag) : Sp := fun vs H Q _ => ∃ (a : Addr) (ns : List Int) (i : Nat), vs = [.ref a, .int i] ∧ SqL K H a (ns.map V.int) ∧ ns.length ≤ 100000 ∧ i ≤ 1000 ∧ ∀ p H', H p = none → Tray H' p 0 → (∀ b o, H b = some o → H' b = some o) → Q (.ref p) H'
theorem scTray : FnScope ["script", "at", "cell"] ["script", "at"] (defScope sTray) := ⟨rfl, rfl, rfl, by decide +kernel, rfl, by decide +kernel, by decide +kernel⟩
theorem seed_range (z : Int) (i : Nat) (hi : i ≤ 1000) : 0 ≤ z % ((10 : Int) ^ (38 : Int).toNat + 133) * 89 + 59 * (i : Int) + 23 ∧ z % ((10 : Int) ^ (38 : Int).toNat + 133) * 89 + 59 * (i : Int) + 23 < 2 ^ 200 := by
  have e : (10 : Int) ^ (38 : Int).toNat + 133 = 100000000000000000000000000000000000133 := by decide
  rw [e]
  have h1 := Int.emod_nonneg z (b := 100000000000000000000000000000000000133) (by decide)
  have h2 := Int.emod_lt_of_pos z (b := 100000000000000000000000000000000000133) (by decide)
  have e2 : (2 : Int) ^ 200 = 1606938044258990275541962092341162602522202993782792835301376 := by decide
  rw [e2]
  omega
theorem ok_tray {f : Addr} {fd : FuncData} (F : Fun K "_law_tray" "_law_tray" sTray f fd) (T : Names mg) : FnOk P w K mg base CX0 1 f fd ["script", "at"] (spTray K) := by
  refine F.ok scTray (fun vs H Q E h => ?_) (fun cdv A outer s H vs Q E hr h => ?_)
  · obtain ⟨a, ns, i, rfl, _⟩ := h
    rfl
  · obtain ⟨a, ns, i, rfl, hS, hl, hi, k⟩ := h
    refine ⟨_, Evl.pss_cut (ps_set (i := 2) scTray.nd rfl (Or.inl rfl) (pe_ifExp (pt_cmpR op_lt (pv 1) (pe_callB call_len_seq (by rfl) T.len PySem.boot_len (pa_cons (pv 0) pa_nil)) (nomark _)) (pe_ix ix_list (pv 0) (pv 1) (fun _ _ => rfl)) pe_int))
      (pss_one (ps_ret (pe_lst (pa_cons (pe_callB (call_max2 rfl) (by rfl) T.max boot_max (pa_cons pe_int (pa_cons (pe_op op_sub (pe_callB call_abs (by rfl) T.abs boot_abs (pa_cons (pv 2) pa_nil)) (pe_op op_pow pe_int pe_int)) pa_nil)))
        (pa_cons (pe_op op_add (pe_op op_add (pe_op op_mul (pe_op op_mod (pv 2) (pe_op op_add (pe_op op_pow pe_int pe_int) pe_int)) pe_int) (pe_op op_mul pe_int (pv 1))) pe_int) (pa_cons pe_int pa_nil)))))), ?_⟩
    refine ⟨fun σ H' => H' = H ∧ ∃ z : Int, σ = [some (.ref a), some (.int i), some (.int z)], ?_, ?_⟩
    · refine ⟨_, rfl, _, rfl, a, _, rfl, .inl hS, _, _, rfl, rfl, _, rfl, ?_⟩
      rw [List.length_map]
      refine ite2 (fun hc => ?_) (fun hc => ?_)
      · have hlt : i < ns.length := by
          have := of_decide_eq_true hc
          omega
        refine ⟨_, rfl, _, rfl, a, _, _, V.int ns[i], rfl, rfl, hS, atI_nat (by rw [List.getElem?_map, List.getElem?_eq_getElem hlt]; rfl), rfl, ns[i], rfl⟩
      · exact ⟨rfl, 0, rfl⟩
    · rintro σ H' ⟨rfl, z, rfl⟩
      refine ⟨_, rfl, _, rfl, _, _, rfl, rfl, ⟨by decide, by decide, by decide⟩, _, _, rfl, rfl, _, _, rfl, _, rfl, _, _, rfl, rfl, ⟨by decide, by decide, by decide⟩, _, _, rfl, rfl, _, _, rfl, rfl, (by show (0 : Int) < (10 : Int) ^ (38 : Int).toNat + 133; decide), _, _, rfl, rfl, .inr ⟨by decide, by decide⟩,
        _, rfl, _, _, rfl, rfl, .inl ⟨by decide, by decide⟩, _, _, rfl, rfl, _, _, rfl, rfl, (by show 3 ≤ sizeLine; decide), fun p hp => ?_⟩
      obtain ⟨q1, q2⟩ := seed_range z i hi
      refine k p _ hp ⟨_, _, 0, upd_same, ?_, q1, q2, Int.le_refl 0, Int.le_refl 0⟩ fun b o e => by
        rw [upd_ne (ne_of_none e hp)]
        exact e
      show (0 : Int) ≤ if (if z < 0 then -z else z) - (10 : Int) ^ (18 : Int).toNat > 0 then (if z < 0 then -z else z) - (10 : Int) ^ (18 : Int).toNat else 0
      split <;> omega

/-! ### _law_take -/
def spTake : Sp := fun vs H Q _ => ∃ (t : Addr) (m : Int) (n : Nat), vs = [.ref t, .int m] ∧ 0 < m ∧ m.natAbs.log2 < 9000 ∧ Tray H t n ∧ n ≤ 1000000 ∧ ∀ v H', 0 ≤ v → v < m → Tray H' t (n + 1) → But t H H' → Q (.int v) H'
theorem scTake : FnScope ["tray", "many", "taken", "mixed"] ["tray", "many"] (defScope sTake) := ⟨rfl, rfl, rfl, by decide +kernel, rfl, by decide +kernel, by decide +kernel⟩
theorem big1 : (10 : Int) ^ (39 : Int).toNat + 3 = 1000000000000000000000000000000000000003 := by decide
theorem big2 : (10 : Int) ^ (40 : Int).toNat + 121 = 10000000000000000000000000000000000000121 := by decide
theorem p200 : (2 : Int) ^ 200 = 1606938044258990275541962092341162602522202993782792835301376 := by decide
theorem pow_ok {x : Int} (h0 : 0 ≤ x) (h1 : x < 2 ^ 210) : CPowW x 3 := by
  refine ⟨⟨by decide, by decide⟩, ?_⟩
  have e : (2 : Int) ^ 210 = ((2 ^ 210 : Nat) : Int) := by decide
  have h2 : x.natAbs < 2 ^ 210 := by
    rw [e] at h1
    omega
  exact Nat.lt_trans h2 (Nat.pow_lt_pow_right (by decide) (by decide))
theorem p210 : (2 : Int) ^ 210 = 1645504557321206042154969182557350504982735865633579863348609024 := by decide
theorem ok_take {f : Addr} {fd : FuncData} (F : Fun K "_law_take" "_law_take" sTake f fd) : FnOk P w K mg base CX0 1 f fd ["tray", "many"] spTake := by
  refine F.ok scTake (fun vs H Q E h => ?_) (fun cdv A outer s H vs Q E hr h => ?_)
  · obtain ⟨t, m, n, rfl, _⟩ := h
    rfl
  · obtain ⟨t, m, n, rfl, hm, hlog, ⟨a, b, c, ht, ha, hb, hb2, hc, hcn⟩, hn, k⟩ := h
    refine ⟨_, pss_cons (ps_if (pt_cmpR op_gt (pe_ix ix_list (pv 0) pe_int (fun _ _ => rfl)) pe_int (nomark _))
        (pss_cons (ps_set (i := 2) scTake.nd rfl (Or.inl rfl) (pe_op op_mod (pe_ix ix_list (pv 0) pe_int (fun _ _ => rfl)) (pv 1)))
        (pss_cons (ps_asg (pe_op op_fdivW (pe_ix ix_list (pv 0) pe_int (fun _ _ => rfl)) (pv 1)) (pg_sub (pv 0) pe_int set_list))
        (pss_one (ps_ret (pv 2))))) pss_nil)
      (pss_cons (ps_asg (pe_op op_add (pe_ix ix_list (pv 0) pe_int (fun _ _ => rfl)) pe_int) (pg_sub (pv 0) pe_int set_list))
      (pss_cons (ps_set (i := 3) scTake.nd rfl (Or.inl rfl) (pe_op op_mod (pe_op op_powW (pe_op op_add (pe_ix ix_list (pv 0) pe_int (fun _ _ => rfl)) (pe_op op_mul pe_int (pe_ix ix_list (pv 0) pe_int (fun _ _ => rfl)))) pe_int) (pe_op op_add (pe_op op_pow pe_int pe_int) pe_int)))
      (pss_cons (ps_set (i := 3) scTake.nd rfl (Or.inl rfl) (pe_op op_mod (pe_op op_powW (pe_op op_add (pv 3) (pe_op op_mul pe_int (pe_ix ix_list (pv 0) pe_int (fun _ _ => rfl)))) pe_int) (pe_op op_add (pe_op op_pow pe_int pe_int) pe_int)))
      (pss_one (ps_ret (pe_op op_mod (pe_op op_fdiv (pv 3) pe_int) (pv 1))))))), ?_⟩
    refine ⟨_, rfl, t, _, _, .int a, rfl, rfl, SqL.of ht, rfl, _, _, rfl, rfl, _, rfl, ?_⟩
    refine ite2 (fun hp => ?_) (fun hp => ?_)
    · -- the big number gives
      have hp : 0 < a := by simpa using hp
      refine ⟨_, rfl, t, _, _, .int a, rfl, rfl, SqL.of ht, rfl, _, rfl, _, _, rfl, rfl, hm, ?_⟩
      refine ⟨_, rfl, t, _, _, .int a, rfl, rfl, SqL.of ht, rfl, _, rfl, _, _, rfl, rfl, ⟨hm, hlog⟩, _, rfl, t, _, 0, 0, rfl, rfl, ht, rfl, _, rfl, ?_⟩
      refine k _ _ (Int.emod_nonneg _ (by omega)) (Int.emod_lt_of_pos _ hm) ⟨a / m, b, c, upd_same, Int.ediv_nonneg ha (by omega), hb, hb2, hc, by omega⟩ But.set
    · refine ⟨_, rfl, t, _, _, .int c, rfl, rfl, SqL.of ht, rfl, _, _, rfl, rfl, _, rfl, t, _, 2, 2, rfl, rfl, ht, rfl, ?_⟩
      have ht2 : ∀ o, (upd H t (.lst ([V.int a, V.int b, V.int c].set 2 o))) t = some (.lst [.int a, .int b, o]) := fun o => upd_same
      have e39 := big1
      have e40 := big2
      have z200 := p200
      have z210 := p210
      rw [z200] at hb2
      refine ⟨_, rfl, t, _, _, .int b, rfl, rfl, SqL.of (ht2 _), rfl, _, rfl, t, _, _, .int (c + 1), rfl, rfl, SqL.of (ht2 _), rfl, _, _, rfl, rfl, .inl ⟨by decide, by decide⟩, _, _, rfl, rfl, _, _, rfl, rfl, pow_ok (by omega) (by rw [z210]; omega), _, _, rfl, rfl, ⟨by decide, by decide, by decide⟩, _, _, rfl, rfl, _, _, rfl, rfl, (by show (0 : Int) < (10 : Int) ^ (39 : Int).toNat + 3; decide), ?_⟩
      generalize hx : (b + 715827883 * (c + 1)) ^ (3 : Int).toNat = x
      have x0 : 0 ≤ x % ((10 : Int) ^ (39 : Int).toNat + 3) := Int.emod_nonneg _ (by rw [e39]; decide)
      have x1 : x % ((10 : Int) ^ (39 : Int).toNat + 3) < 1000000000000000000000000000000000000003 := by
        rw [e39]
        exact Int.emod_lt_of_pos _ (by decide)
      refine ⟨_, rfl, _, rfl, t, _, _, .int (c + 1), rfl, rfl, SqL.of (ht2 _), rfl, _, _, rfl, rfl, .inl ⟨by decide, by decide⟩, _, _, rfl, rfl, _, _, rfl, rfl, ?_, _, _, rfl, rfl, ⟨by decide, by decide, by decide⟩, _, _, rfl, rfl, _, _, rfl, rfl, (by show (0 : Int) < (10 : Int) ^ (40 : Int).toNat + 121; decide), ?_⟩
      · exact pow_ok (by omega) (by rw [z210]; omega)
      refine ⟨_, rfl, _, _, rfl, rfl, ⟨by decide, by decide⟩, _, rfl, _, _, rfl, rfl, hm, ?_⟩
      exact k _ _ (Int.emod_nonneg _ (by omega)) (Int.emod_lt_of_pos _ hm) ⟨a, b, c + 1, ht2 _, ha, hb, by rw [z200]; exact hb2, by omega, by omega⟩ But.set

/-! ### _law_letters -/
def spLetters : Sp := fun vs H Q _ => ∃ (t : Addr) (sg : Str) (mo : Int) (n : Nat), vs = [.ref t, .str sg, .int mo] ∧ Lets sg ∧ 1 ≤ sg.length ∧ sg.length ≤ 100 ∧ 0 ≤ mo ∧ mo ≤ 100 ∧ Tray H t n ∧ n ≤ 900000 ∧
  ∀ x H', Lets x → (x.length : Int) ≤ mo → Tray H' t (n + 200) → But t H H' → Q (.str x) H'
theorem scLetters : FnScope ["tray", "signs", "most", "turn"] ["tray", "signs", "most"] (defScope sLetters) := ⟨rfl, rfl, rfl, by decide +kernel, rfl, by decide +kernel, by decide +kernel⟩
theorem log_small {m : Int} (h0 : 0 < m) (h : m < 4294967296) : m.natAbs.log2 < 9000 :=
  Nat.lt_trans (PySem.Flt.log2_lt_of (n := m.natAbs) (k := 32) (by decide) (by omega)) (by decide)
theorem sum_ones : ∀ ys : List Str, (∀ y ∈ ys, y.length = 1) → (ys.map (·.length)).sum = ys.length
  | [], _ => rfl
  | y :: r, h => by
    rw [List.map_cons, List.sum_cons, List.length_cons, h y List.mem_cons_self, sum_ones r fun z hz => h z (List.mem_cons_of_mem _ hz)]
    omega
theorem join_lets : ∀ ys : List Str, (∀ y ∈ ys, Lets y ∧ y.length = 1) → Lets (Txt.join "" ys) ∧ (Txt.join "" ys).length = ys.length := by
  intro ys h
  rw [join_eq]
  have key : ∀ ps : List (List Nat), (∀ p ∈ ps, p.length = 1 ∧ ∀ c ∈ p, 97 ≤ c ∧ c ≤ 122) → (joinL [] ps).length = ps.length ∧ ∀ c ∈ joinL [] ps, 97 ≤ c ∧ c ≤ 122 := by
    intro ps
    induction ps with
    | nil => intro _; exact ⟨rfl, fun c hc => absurd hc (by simp [joinL])⟩
    | cons p r ih =>
      intro hp
      obtain ⟨h1, h2⟩ := hp p List.mem_cons_self
      obtain ⟨i1, i2⟩ := ih fun q hq => hp q (List.mem_cons_of_mem _ hq)
      have e : joinL [] (p :: r) = p ++ joinL [] r := by
        cases r with
        | nil => simp [joinL]
        | cons q s => simp [joinL]
      rw [e]
      refine ⟨by rw [List.length_append, List.length_cons, h1, i1]; omega, fun c hc => ?_⟩
      rcases List.mem_append.mp hc with z | z
      · exact h2 c z
      · exact i2 c z
  have ht := tl_join "" ys
  have he : tl ("" : Str) = [] := rfl
  rw [he] at ht
  obtain ⟨k1, k2⟩ := key (ys.map tl) fun p hp => by
    obtain ⟨y, hy, rfl⟩ := List.mem_map.mp hp
    obtain ⟨q1, q2⟩ := h y hy
    exact ⟨by rw [← len_tl]; exact q2, q1⟩
  refine ⟨fun c hc => k2 c (by rw [← ht]; exact hc), ?_⟩
  rw [len_tl, ht, k1, List.length_map]
theorem ok_letters {f g : Addr} {fd gd : FuncData} (F : Fun K "_law_letters" "_law_letters" sLetters f fd) (T : Names mg) (G : Fun K "_law_take" "_law_take" sTake g gd) (mG : mg "_law_take" = some (.ref g)) (bG : Binds K gd ["tray", "many"] []) :
    FnOk P w K mg base CX0 2 f fd ["tray", "signs", "most"] spLetters := by
  refine F.ok scLetters (fun vs H Q E h => ?_) (fun cdv A outer s H vs Q E hr h => ?_)
  · obtain ⟨t, sg, mo, n, rfl, _⟩ := h
    rfl
  · obtain ⟨t, sg, mo, n, rfl, hsg, h1, h2, h3, h4, ht, hn, k⟩ := h
    refine ⟨_, pss_one (ps_ret (pe_join pe_str (pe_lc (own := [("turn", 3)]) (g := gName 3) (tt := tYes) rfl scLetters.nd
      (pi_range1 (by rfl) T.range (pa_cons (pe_call (ok_take G) hr (by rfl) mG G.kp bG .nil pass0 (pa_cons (pv 0) (pa_cons (pe_op op_add (pv 2) pe_int) pa_nil))) pa_nil))
      (blkOk_by (N := ["tray", "signs", "most", "turn"]) (sc := defScope sLetters) (by decide +kernel)) (fun _ _ _ _ _ => pg_name (i := 3) scLetters.nd rfl (Or.inl rfl)) (fun _ _ _ _ _ => pts_nil)
      (fun _ _ _ _ _ => pe_ix ix_str (pv 1) (pe_call (ok_take G) hr (by rfl) mG G.kp bG .nil pass0 (pa_cons (pv 0) (pa_cons (pe_callB call_len_str (by rfl) T.len PySem.boot_len (pa_cons (pv 1) pa_nil)) pa_nil))) (fun _ _ => rfl))))), ?_⟩
    refine ⟨⟨_, rfl⟩, _, rfl, _, rfl, _, _, rfl, rfl, t, _, n, rfl, by omega, log_small (by omega) (by omega), ht, by omega, fun v H1 v0 v1 T1 B1 => ?_⟩
    refine ⟨v, rfl, by omega, by omega, fun D hD => ?_⟩
    refine lc_range (lo := 0) (n := v.toNat) (fun i H' => Tray H' t (n + 1 + i) ∧ But t H H' ∧ H D = none ∧ ∃ ys : List Str, H' D = some (.lst (ys.map V.str)) ∧ ys.length = i ∧ ∀ y ∈ ys, Lets y ∧ y.length = 1) ?_ ?_ ?_
    · have hD0 : H D = none := by
        cases q : H D with
        | none => rfl
        | some o =>
          by_cases e : D = t
          · obtain ⟨_, _, _, z, _⟩ := T1
            rw [e] at hD
            rw [hD] at z
            cases z
          · have := B1 D o e q
            rw [hD] at this
            cases this
      exact ⟨T1.new hD, B1.trans (But.new hD), hD0, [], upd_same, rfl, fun y hy => by cases hy⟩
    · rintro i H' hi ⟨T2, B2, hD0, ys, hy, hl, hys⟩
      refine ⟨rfl, ?_⟩
      refine ⟨_, rfl, _, rfl, _, rfl, sg, rfl, sl_small (by omega), t, _, n + 1 + i, rfl, by omega, log_small (by omega) (by omega), T2, by omega, fun u H2 u0 u1 T3 B3 => ?_⟩
      have hu : u.toNat < (tl sg).length := by
        rw [← len_tl]
        omega
      have hat : atI sg.cps.toList u = some ((tl sg)[u.toNat]) := by
        have q := atI_nat (j := u.toNat) (List.getElem?_eq_getElem hu)
        rw [Int.toNat_of_nonneg u0] at q
        exact q
      refine ⟨sg, u, _, rfl, rfl, sl_small (by omega), hat, ?_⟩
      have hDt : D ≠ t := fun e => by
        obtain ⟨_, _, _, z, _⟩ := ht
        rw [e] at hD0
        rw [hD0] at z
        cases z
      have hy2 := B3 D _ hDt hy
      refine ⟨ys.map V.str, hy2, by rw [List.length_map]; exact Nat.lt_of_lt_of_le (by omega) (sl_small (n := 100000) (Nat.le_refl _)), ?_, ?_, hD0, ys ++ [⟨#[(tl sg)[u.toNat]]⟩], ?_, ?_, ?_⟩
      · exact (T3.mono (by omega)).of (upd_ne hDt.symm)
      · intro b o hb hbo
        have := B3 b o hb (B2 b o hb hbo)
        rw [upd_ne (ne_of_none hbo hD0)]
        exact this
      · rw [List.map_append]
        exact upd_same
      · rw [List.length_append, hl]
        rfl
      · intro y hyy
        rcases List.mem_append.mp hyy with z | z
        · exact hys y z
        · rw [List.mem_singleton] at z
          rw [z]
          refine ⟨fun c hc => ?_, rfl⟩
          have hc : c ∈ [(tl sg)[u.toNat]] := hc
          rw [List.mem_singleton] at hc
          rw [hc]
          exact hsg _ (List.getElem_mem _)
    · rintro H' ⟨T2, B2, hD0, ys, hy, hl, hys⟩
      obtain ⟨j1, j2⟩ := join_lets ys hys
      refine ⟨_, D, ys, rfl, rfl, .inl (SqL.of hy), ?_, k _ _ j1 (by rw [j2]; omega) (T2.mono (by omega)) B2⟩
      rw [sum_ones ys fun y hy => (hys y hy).2]
      have e0 : ("" : Str).length = 0 := rfl
      rw [e0]
      omega

/-! ### _law_rests -/
def spRests : Sp := fun vs H Q _ => ∃ x y : Str, vs = [.str x, .str y] ∧ x.length ≤ 100000 ∧ y.length ≤ 100000 ∧ ∀ p, H p = none → Q (.ref p) (upd H p (.tup [.str (restL x y), .str (restR x y)]))
theorem scRests : FnScope ["one", "two", "many"] ["one", "two"] (defScope sRests) := ⟨rfl, rfl, rfl, by decide +kernel, rfl, by decide +kernel, by decide +kernel⟩
theorem rest_zero {x y : Str} (h : common x y = 0) : restL x y = x ∧ restR x y = y := by
  unfold restL restR
  rw [h]
  exact ⟨dropS_zero x, dropS_zero y⟩
theorem head_at {x : Str} {k : Nat} (h : k < x.length) : ∃ c, (tl x)[k]? = some c ∧ atI x.cps.toList (k : Int) = some c := by
  rw [len_tl] at h
  exact ⟨(tl x)[k], List.getElem?_eq_getElem h, atI_nat (List.getElem?_eq_getElem h)⟩
theorem one_sign {c d : Nat} : V.str ⟨#[c]⟩ = V.str ⟨#[d]⟩ ↔ c = d := by
  constructor
  · intro e
    have := congrArg tl (V.str.inj e)
    simpa [tl] using this
  · rintro rfl
    rfl
theorem ok_rests {f : Addr} {fd : FuncData} (F : Fun K "_law_rests" "_law_rests" sRests f fd) (T : Names mg) : FnOk P w K mg base CX0 1 f fd ["one", "two"] spRests := by
  refine F.ok scRests (fun vs H Q E h => ?_) (fun cdv A outer s H vs Q E hr h => ?_)
  · obtain ⟨x, y, rfl, _⟩ := h
    rfl
  · obtain ⟨x, y, rfl, hx, hy, k⟩ := h
    refine ⟨_, pss_cons (ps_if (PW.pt (pw_or (pt_cmpR op_eq (pv 0) pe_str (nomark _)) (pw_or (pt_cmpR op_eq (pv 1) pe_str (nomark _)) (pw_or1 (pt_cmpR op_ne (pe_ix ix_str (pv 0) pe_int (fun _ _ => rfl)) (pe_ix ix_str (pv 1) pe_int (fun _ _ => rfl)) (nomark _))))))
        (pss_one (ps_ret (pe_tup (pa_cons (pv 0) (pa_cons (pv 1) pa_nil))))) pss_nil)
      (pss_cons (ps_set (i := 2) scRests.nd rfl (Or.inl rfl) pe_int)
      (pss_cons (ps_while PassesOwn.never (PW.pt (pw_and (pt_cmpR op_lt (pv 2) (pe_callB (call_min2 rfl) (by rfl) T.min boot_min
          (pa_cons (pe_callB call_len_str (by rfl) T.len PySem.boot_len (pa_cons (pv 0) pa_nil)) (pa_cons (pe_callB call_len_str (by rfl) T.len PySem.boot_len (pa_cons (pv 1) pa_nil)) pa_nil))) (nomark _))
          (pw_and1 (pt_cmpR op_eq (pe_ix ix_str (pv 0) (pv 2) (fun _ _ => rfl)) (pe_ix ix_str (pv 1) (pv 2) (fun _ _ => rfl)) (nomark _)))))
        (pss_one (ps_set (i := 2) scRests.nd rfl (Or.inl rfl) (pe_op op_add (pv 2) pe_int))))
      (pss_one (ps_ret (pe_tup (pa_cons (pe_slice sl_str (pv 0) (po_some (pv 2)) po_none) (pa_cons (pe_slice sl_str (pv 1) (po_some (pv 2)) po_none) pa_nil))))))), ?_⟩
    -- a common beginning of none
    have none_ : common x y = 0 → tRet (tTup (tCons (tVar 0) (tCons (tVar 1) tNil))) { nx := fun _ H' => Q .non H', rt := Q } [some (.str x), some (.str y), none] H := fun e0 => by
      obtain ⟨z1, z2⟩ := rest_zero e0
      rw [z1, z2] at k
      exact ⟨_, rfl, _, rfl, (by show 2 ≤ sizeLine; decide), fun p hp => k p hp⟩
    have hcl := common_le x y
    refine ⟨_, rfl, rfl, _, rfl, ?_⟩
    refine ite2 (fun c1 => ?_) (fun c1 => ?_)
    · have hx0 : x.length = 0 := eq_empty.mp (V.str.inj (of_decide_eq_true c1))
      exact iteT (none_ (by omega))
    have hx0 : x.length ≠ 0 := fun z => c1 (decide_eq_true (congrArg V.str (eq_empty.mpr z)))
    refine ⟨_, rfl, rfl, _, rfl, ?_⟩
    refine ite2 (fun c2 => ?_) (fun c2 => ?_)
    · have hy0 : y.length = 0 := eq_empty.mp (V.str.inj (of_decide_eq_true c2))
      exact iteT (none_ (by omega))
    have hy0 : y.length ≠ 0 := fun z => c2 (decide_eq_true (congrArg V.str (eq_empty.mpr z)))
    obtain ⟨c, c1', c2'⟩ := head_at (x := x) (k := 0) (by omega)
    obtain ⟨d, d1', d2'⟩ := head_at (x := y) (k := 0) (by omega)
    have at0 := lcp_at (tl x) (tl y) 0 (Nat.zero_le _) (by rw [← len_tl]; omega) (by rw [← len_tl]; omega)
    rw [c1', d1'] at at0
    refine ⟨_, rfl, x, 0, c, rfl, rfl, sl_small hx, c2', _, rfl, y, 0, d, rfl, rfl, sl_small hy, d2', rfl, _, rfl, ?_⟩
    refine ite2 (fun c3 => ?_) (fun c3 => ?_)
    · have hcd : c ≠ d := fun e => by
        rw [decide_eq_true (one_sign.mpr e)] at c3
        exact Bool.noConfusion c3
      refine none_ ?_
      have : ¬ 0 < lcp (tl x) (tl y) := fun z => hcd (Option.some.inj (at0.mpr z))
      show lcp (tl x) (tl y) = 0
      omega
    -- the loop
    refine ⟨fun m σ H' => H' = H ∧ ∃ j : Nat, σ = [some (.str x), some (.str y), some (.int j)] ∧ j ≤ common x y ∧ m = common x y - j, ⟨_, rfl, 0, rfl, Nat.zero_le _, rfl⟩, ?_⟩
    rintro m σ H' ⟨rfl, j, rfl, hj, rfl⟩
    have fin : j = common x y → tRet (tTup (tCons (tSl rSlS (tVar 0) (tPart (tVar 2)) tNoPart) (tCons (tSl rSlS (tVar 1) (tPart (tVar 2)) tNoPart) tNil))) { nx := fun _ H' => Q .non H', rt := Q } [some (.str x), some (.str y), some (.int j)] H' := by
      intro e
      subst e
      refine ⟨_, rfl, _, rfl, _, rfl, x, rfl, sl_small hx, _, rfl, _, rfl, _, rfl, y, rfl, sl_small hy, (by show 2 ≤ sizeLine; decide), fun p hp => ?_⟩
      rw [cut_from, cut_from]
      exact k p hp
    refine ⟨_, rfl, _, rfl, x, rfl, sl_small hx, _, rfl, y, rfl, sl_small hy, _, _, rfl, _, _, rfl, rfl, _, rfl, ?_⟩
    refine ite2 (fun h1 => ?_) (fun h1 => ?_)
    · have hlt : j < x.length ∧ j < y.length := by
        have h1 := of_decide_eq_true h1
        split at h1 <;> omega
      obtain ⟨c, c1', c2'⟩ := head_at (x := x) (k := j) hlt.1
      obtain ⟨d, d1', d2'⟩ := head_at (x := y) (k := j) hlt.2
      have atj := lcp_at (tl x) (tl y) j hj (by rw [← len_tl]; omega) (by rw [← len_tl]; omega)
      rw [c1', d1'] at atj
      refine ⟨_, rfl, _, rfl, x, j, c, rfl, rfl, sl_small hx, c2', _, rfl, _, rfl, y, j, d, rfl, rfl, sl_small hy, d2', rfl, _, rfl, ?_⟩
      refine ite2 (fun h2 => ?_) (fun h2 => ?_)
      · have hcd : c = d := one_sign.mp (of_decide_eq_true h2)
        have hjl : j < common x y := atj.mp (congrArg some hcd)
        refine ⟨fun σ' H2 => H2 = H' ∧ ∃ i : Nat, σ' = [some (.str x), some (.str y), some (.int i)] ∧ i ≤ common x y ∧ common x y - i < common x y - j, fun σ' H2 z => ?_, ?_⟩
        · obtain ⟨rfl, i, rfl, q1, q2⟩ := z
          exact ⟨_, q2, rfl, i, rfl, q1, rfl⟩
        · refine ⟨_, rfl, _, _, rfl, rfl, rfl, j + 1, rfl, hjl, by omega⟩
      · refine fin ?_
        have : ¬ j < lcp (tl x) (tl y) := fun z => h2 (decide_eq_true (one_sign.mpr (Option.some.inj (atj.mpr z))))
        have hj' : j ≤ lcp (tl x) (tl y) := hj
        show j = lcp (tl x) (tl y)
        omega
    · refine iteF (fin ?_)
      have h1 : ¬ ((j : Int) < if ((y.length : Nat) : Int) < ((x.length : Nat) : Int) then ((y.length : Nat) : Int) else ((x.length : Nat) : Int)) := fun z => h1 (decide_eq_true z)
      split at h1 <;> omega
end
end K7
namespace K7
open PySem PySem.Spec PyProof.Rows L2 TL Bl
/-! ### data of two texts, of three of these -/
def td (a b : Str) : PyData := .tuple [.str a, .str b]
theorem dp_td {K : PySem.W.Frag} {H : Hp} {p : Addr} {a b : Str} (h : H p = some (.tup [.str a, .str b])) : Dp K H (.ref p) (td a b) := .tup (SqT.of h) (.cons (.str a) (.cons (.str b) .nil))
theorem td_show (a b : Str) : (td a b).showable = true ∧ (td a b).hasDict = false ∧ (td a b).depth ≤ 40 := by
  refine ⟨rfl, rfl, ?_⟩
  show 1 ≤ 40
  decide
theorem lets_ok {x : Str} (h : Lets x) : PyData.strOk x = true := by
  unfold PyData.strOk
  rw [← Array.all_toList, List.all_eq_true]
  intro c hc
  have := h c hc
  exact decide_eq_true (by omega)
theorem td_shaped {a b : Str} (ha : Lets a) (hb : Lets b) : SeqAt.shaped (td a b) = true := by
  show ((PyData.strOk a && (PyData.strOk b && true)) && decide (1 ≤ 64)) = true
  rw [lets_ok ha, lets_ok hb]
  rfl
theorem td_len {a b : Str} (ha : Lets a) (hb : Lets b) : (td a b).shown.length ≤ 10 * a.length + 10 * b.length + 20 := by
  have h := tupleText_len_le [reprText a, reprText b]
  have h1 := repr_len ha
  have h2 := repr_len hb
  have e : (td a b).shown = tupleText [reprText a, reprText b] := rfl
  rw [e]
  simp only [List.map_cons, List.map_nil, List.sum_cons, List.sum_nil, List.length_cons, List.length_nil] at h
  omega
def tl3 (d : PyData) : PyData := .list [d, d, d]
theorem dp_tl3 {K : PySem.W.Frag} {H : Hp} {l : Addr} {x y z : V} {d : PyData} (h : H l = some (.lst [x, y, z])) (h1 : Dp K H x d) (h2 : Dp K H y d) (h3 : Dp K H z d) : Dp K H (.ref l) (tl3 d) := .lst (SqL.of h) (.cons h1 (.cons h2 (.cons h3 .nil)))
theorem tl3_show (a b : Str) : (tl3 (td a b)).showable = true ∧ (tl3 (td a b)).hasDict = false ∧ (tl3 (td a b)).depth ≤ 40 := by
  refine ⟨rfl, rfl, ?_⟩
  show 2 ≤ 40
  decide
theorem tl3_len {a b : Str} (ha : Lets a) (hb : Lets b) : (tl3 (td a b)).shown.length ≤ 30 * a.length + 30 * b.length + 80 := by
  have h := listText_len_le [(td a b).shown, (td a b).shown, (td a b).shown]
  have h1 := td_len ha hb
  have e : (tl3 (td a b)).shown = listText [(td a b).shown, (td a b).shown, (td a b).shown] := rfl
  rw [e]
  simp only [List.map_cons, List.map_nil, List.sum_cons, List.sum_nil, List.length_cons, List.length_nil] at h
  omega
theorem eqv_td (a b : Str) : PyData.eqv (td a b) (td a b) = true := by
  show ((a == a) && ((b == b) && true)) = true
  simp
/-! ### what stands, stands -/
theorem same_new {H : Hp} {p : Addr} {o : HO} (hp : H p = none) : Same H (upd H p o) := fun b u h => by
  rw [upd_ne (ne_of_none h hp)]
  exact h
theorem pick3 (a b c : V) {v : Int} (h0 : 0 ≤ v) (h1 : v < 3) : ∃ x, atI [a, b, c] v = some x ∧ (x = a ∨ x = b ∨ x = c) := by
  have e : v = 0 ∨ v = 1 ∨ v = 2 := by omega
  rcases e with rfl | rfl | rfl
  · exact ⟨a, rfl, .inl rfl⟩
  · exact ⟨b, rfl, .inr (.inl rfl)⟩
  · exact ⟨c, rfl, .inr (.inr rfl)⟩
theorem pick4 (a b c d : V) {v : Int} (h0 : 0 ≤ v) (h1 : v < 4) : ∃ x, atI [a, b, c, d] v = some x ∧ (x = a ∨ x = b ∨ x = c ∨ x = d) := by
  have e : v = 0 ∨ v = 1 ∨ v = 2 ∨ v = 3 := by omega
  rcases e with rfl | rfl | rfl | rfl
  · exact ⟨a, rfl, .inl rfl⟩
  · exact ⟨b, rfl, .inr (.inl rfl)⟩
  · exact ⟨c, rfl, .inr (.inr (.inl rfl))⟩
  · exact ⟨d, rfl, .inr (.inr (.inr rfl))⟩
theorem lets_x : Lets ("x" : Str) := by unfold Lets; decide +kernel
theorem lets_ab : Lets ("ab" : Str) := by unfold Lets; decide +kernel
theorem lets_az : Lets ("abcdefghijklmnopqrstuvwxyz" : Str) := by unfold Lets; decide +kernel
/-- pairs of words -/
def PairsOk (H : Hp) (xs : List V) : Prop := ∀ v ∈ xs, ∃ (p : Addr) (a b : Str), v = .ref p ∧ H p = some (.tup [.str a, .str b]) ∧ Lets a ∧ Lets b ∧ a.length ≤ 1000 ∧ b.length ≤ 1000
theorem PairsOk.mono {H H' : Hp} {xs : List V} (h : PairsOk H xs) (e : Same H H') : PairsOk H' xs := fun v hv => by
  obtain ⟨p, a, b, h1, h2, h3⟩ := h v hv
  exact ⟨p, a, b, h1, e p _ h2, h3⟩
theorem PairsOk.nil {H : Hp} : PairsOk H [] := fun v hv => by cases hv
theorem PairsOk.snoc {H : Hp} {xs : List V} {p : Addr} {a b : Str} (h : PairsOk H xs) (hp : H p = none) (ha : Lets a) (hb : Lets b) (la : a.length ≤ 1000) (lb : b.length ≤ 1000) : PairsOk (upd H p (.tup [.str a, .str b])) (xs ++ [.ref p]) := fun v hv => by
  rcases List.mem_append.mp hv with z | z
  · exact (h.mono (same_new hp)) v z
  · rw [List.mem_singleton] at z
    exact ⟨p, a, b, z, upd_same, ha, hb, la, lb⟩
section
variable {P : Program} {w : World} {K : PySem.W.Frag} {mg : Str → Option Value} {base : Heap}
/-- step(word = .., other = ..) -/
def gWO {α : Type} : List α → List α → List α
  | [], zs => zs
  | _, _ => []
def gOW {α : Type} : List α → List α → List α
  | [], [x, y] => [y, x]
  | _, _ => []
theorem kb_wo {f : Addr} {fd : FuncData} (F : Fun K "step" "step" sStep f fd) : KBinds K fd ["word", "other"] ["word", "other"] gWO gWO := by
  obtain ⟨oc, od, kV, doc, pm, an, cdv, ct, osl, rfl, lk, hcd⟩ := F.ex
  constructor
  · intro s us ws _ hl
    match us, ws, hl with
    | [], [x, y], _ => exact .of_eq rfl
  · intro vs us zs ws r1 r2
    cases r1 with
    | nil => exact r2
    | cons _ _ => exact .nil
theorem kb_ow {f : Addr} {fd : FuncData} (F : Fun K "step" "step" sStep f fd) : KBinds K fd ["word", "other"] ["other", "word"] gOW gOW := by
  obtain ⟨oc, od, kV, doc, pm, an, cdv, ct, osl, rfl, lk, hcd⟩ := F.ex
  constructor
  · intro s us ws _ hl
    match us, ws, hl with
    | [], [x, y], _ => exact .of_eq rfl
  · intro vs us zs ws r1 r2
    cases r1 with
    | nil =>
      cases r2 with
      | nil => exact .nil
      | cons a r2 =>
        cases r2 with
        | nil => exact .nil
        | cons b r2 =>
          cases r2 with
          | nil => exact .cons b (.cons a .nil)
          | cons _ _ => exact .nil
    | cons _ _ => exact .nil
end
end K7
namespace K7
open PySem PySem.Spec PyProof.Rows L2 TL Bl
section
variable {P : Program} {w : World} {K : PySem.W.Frag} {mg : Str → Option Value} {base : Heap}
def spRight : Sp := fun vs H Q _ => ∃ (t : Addr) (n : Nat), vs = [.ref t] ∧ Tray H t n ∧ n ≤ 800000 ∧ ∀ H', Tray H' t (n + 2000) → But t H H' → Q (.bl true) H'
theorem scRight : FnScope ["tray", "signs", "most", "front", "mid", "back", "many", "pairs_here", "one", "two", "due", "told", "turn"] ["tray"] (defScope sRight) := ⟨rfl, rfl, rfl, by decide +kernel, rfl, by decide +kernel, by decide +kernel⟩
set_option maxHeartbeats 4000000 in
theorem ok_right {f ta le re st : Addr} {fd tad led red std : FuncData} (F : Fun K "_law_right" "_law_right" sRight f fd) (T : Names mg)
    (FT : Fun K "_law_take" "_law_take" sTake ta tad) (mT : mg "_law_take" = some (.ref ta)) (bT : Binds K tad ["tray", "many"] [])
    (FL : Fun K "_law_letters" "_law_letters" sLetters le led) (mL : mg "_law_letters" = some (.ref le)) (bL : Binds K led ["tray", "signs", "most"] [])
    (FR : Fun K "_law_rests" "_law_rests" sRests re red) (mR : mg "_law_rests" = some (.ref re)) (bR : Binds K red ["one", "two"] [])
    (FS : Fun K "step" "step" sStep st std) (mS : mg "step" = some (.ref st)) (bS : Binds K std ["word", "other"] []) (OS : FnOk P w K mg base CX0 3 st std ["word", "other"] spStep) :
    FnG P w K mg base CX0 4 f fd ["tray"] spRight := by
  refine okG F scRight (fun vs H Q E h => ?_) (fun cdv A outer s H vs Q E hgd hr h => ?_)
  · obtain ⟨t, n, rfl, _⟩ := h
    rfl
  · obtain ⟨t, n, rfl, hT, hn, k⟩ := h
    have OT : FnOk P w K mg base CX0 1 ta tad ["tray", "many"] spTake := ok_take FT
    have OL : FnOk P w K mg base CX0 2 le led ["tray", "signs", "most"] spLetters := ok_letters FL T FT mT bT
    have OR : FnOk P w K mg base CX0 1 re red ["one", "two"] spRests := ok_rests FR T
    have hr1 : Room 1 _ := hr.mono (by decide)
    have hr2 : Room 2 _ := hr.mono (by decide)
    have hu := hr.units
    have kb1 := kb_wo (K := K) FS
    have kb2 := kb_ow (K := K) FS
    refine ⟨_, Evl.pss_cut (ps_asg (pe_tup (pa_cons (pe_ix ix_list (pe_lst (pa_cons pe_str (pa_cons pe_str (pa_cons pe_str pa_nil)))) (pe_call OT hr1 (by rfl) mT FT.kp bT .nil pass0 (pa_cons (pv 0) (pa_cons pe_int pa_nil))) (fun _ _ => rfl))
          (pa_cons (pe_ix ix_list (pe_lst (pa_cons pe_int (pa_cons pe_int (pa_cons pe_int pa_nil)))) (pe_call OT hr1 (by rfl) mT FT.kp bT .nil pass0 (pa_cons (pv 0) (pa_cons pe_int pa_nil))) (fun _ _ => rfl)) pa_nil)))
          (pg_tup rfl (pgs_cons (pg_name (i := 1) scRight.nd rfl (Or.inr rfl)) (pgs_cons (pg_name (i := 2) scRight.nd rfl (Or.inr rfl)) pgs_nil))))
      (Evl.pss_cut (ps_asg (pe_lc (own := [("turn", 12)]) (g := gName 12) (tt := tYes) rfl scRight.nd (pi_range1 (by rfl) T.range (pa_cons pe_int pa_nil))
          (blkOk_by (N := ["tray", "signs", "most", "front", "mid", "back", "many", "pairs_here", "one", "two", "due", "told", "turn"]) (sc := defScope sRight) (by decide +kernel)) (fun _ _ _ _ _ => pg_name (i := 12) scRight.nd rfl (Or.inl rfl)) (fun _ _ _ _ _ => pts_nil)
          (fun _ _ _ _ _ => pe_call OL hr2 (by rfl) mL FL.kp bL .nil pass0 (pa_cons (pv 0) (pa_cons (pv 1) (pa_cons (pv 2) pa_nil)))))
          (pg_unl rfl (pgs_cons (pg_name (i := 3) scRight.nd rfl (Or.inl rfl)) (pgs_cons (pg_name (i := 4) scRight.nd rfl (Or.inl rfl)) (pgs_cons (pg_name (i := 5) scRight.nd rfl (Or.inl rfl)) pgs_nil)))))
      (Evl.pss_cut (ps_set (i := 6) scRight.nd rfl (Or.inl rfl) (pe_ix ix_list (pe_lst (pa_cons pe_int (pa_cons pe_int (pa_cons pe_int (pa_cons pe_int pa_nil))))) (pe_call OT hr1 (by rfl) mT FT.kp bT .nil pass0 (pa_cons (pv 0) (pa_cons pe_int pa_nil))) (fun _ _ => rfl)))
      (Evl.pss_cut (ps_set (i := 7) scRight.nd rfl (Or.inl rfl) (pe_lst (pa_cons (pe_tup (pa_cons (pv 3) (pa_cons (pv 4) pa_nil)))
          (pa_cons (pe_tup (pa_cons (pe_op op_add_str (pe_op op_mulS (pv 3) (pv 6)) (pv 4)) (pa_cons (pe_op op_add_str (pe_op op_mulS (pv 3) (pv 6)) (pv 5)) pa_nil)))
          (pa_cons (pe_tup (pa_cons (pe_op op_add_str (pv 4) (pv 3)) (pa_cons (pe_op op_add_str (pv 5) (pv 3)) pa_nil))) pa_nil)))))
      (Evl.pss_cut (ps_set (i := 7) scRight.nd rfl (Or.inl rfl) (pe_op op_cat (pv 7) (pe_lst (pa_cons (pe_tup (pa_cons (pv 3) (pa_cons (pe_op op_add_str (pv 3) (pv 4)) pa_nil)))
          (pa_cons (pe_tup (pa_cons (pe_op op_mulS (pv 3) (pv 6)) (pa_cons (pe_op op_mulS (pv 3) (pv 6)) pa_nil)))
          (pa_cons (pe_tup (pa_cons (pe_op op_add_str (pv 3) (pv 4)) (pa_cons (pe_op op_add_str (pv 4) (pv 3)) pa_nil))) pa_nil))))))
      (Evl.pss_cut (ps_for PassesOwn.never rfl (pi_list (pv 7)) (pg_tup rfl (pgs_cons (pg_name (i := 8) scRight.nd rfl (Or.inl rfl)) (pgs_cons (pg_name (i := 9) scRight.nd rfl (Or.inl rfl)) pgs_nil)))
          (pss_cons (ps_set (i := 10) scRight.nd rfl (Or.inl rfl) (pe_call OR hr1 (by rfl) mR FR.kp bR .nil pass0 (pa_cons (pv 8) (pa_cons (pv 9) pa_nil))))
          (pss_cons (ps_set (i := 11) scRight.nd rfl (Or.inl rfl) (pe_lst (pa_cons (pe_call OS hr (by rfl) mS FS.kp bS .nil pass0 (pa_cons (pv 8) (pa_cons (pv 9) pa_nil)))
            (pa_cons (pe_callK0 OS hr (by rfl) mS FS.kp kb1 pass0 (pk_cons (pv 8) (pk_cons (pv 9) pk_nil))) (pa_cons (pe_callK0 OS hr (by rfl) mS FS.kp kb2 pass0 (pk_cons (pv 9) (pk_cons (pv 8) pk_nil))) pa_nil)))))
          (pss_cons (ps_if (PW.pt (pw_or (pt_cmpR op_ne (pe_callB (call_repr hgd hu) (by rfl) T.repr boot_repr (pa_cons (pv 11) pa_nil)) (pe_callB (call_repr hgd hu) (by rfl) T.repr boot_repr (pa_cons (pe_op op_rep (pe_lst (pa_cons (pv 10) pa_nil)) pe_int) pa_nil)) (nomark _))
              (pw_or1 (pt_cmpR op_ne (pe_callB (call_repr hgd hu) (by rfl) T.repr boot_repr (pa_cons (pe_call OS hr (by rfl) mS FS.kp bS .nil pass0 (pa_cons (pv 9) (pa_cons (pv 8) pa_nil))) pa_nil))
                (pe_callB (call_repr hgd hu) (by rfl) T.repr boot_repr (pa_cons (pe_tup (pa_cons (pe_ix ix_tup (pv 10) pe_int (fun _ _ => rfl)) (pa_cons (pe_ix ix_tup (pv 10) pe_int (fun _ _ => rfl)) pa_nil))) pa_nil)) (nomark _)))))
            (pss_one (ps_ret pe_bl)) pss_nil)
          (pss_one (ps_if (PW.pt (pw_or (pt_cmpR (op_neD hu) (pe_call OS hr (by rfl) mS FS.kp bS .nil pass0 (pa_cons (pe_op op_add_str (pv 5) (pv 8)) (pa_cons (pe_op op_add_str (pv 5) (pv 9)) pa_nil))) (pv 10) (nomark _))
              (pw_or1 (pt_cmpR (op_neD hu) (pe_call OS hr (by rfl) mS FS.kp bS .nil pass0 (pa_cons (pe_ix ix_tup (pv 10) pe_int (fun _ _ => rfl)) (pa_cons (pe_ix ix_tup (pv 10) pe_int (fun _ _ => rfl)) pa_nil))) (pv 10) (nomark _)))))
            (pss_one (ps_ret pe_bl)) pss_nil))))))
      (pss_one (ps_ret (pe_cmpR (op_eqD hu) (pe_call OS hr (by rfl) mS FS.kp bS .nil pass0 (pa_cons (pv 3) (pa_cons (pe_op op_add_str (pv 3) (pv 4)) pa_nil))) (pe_tup (pa_cons pe_str (pa_cons (pv 4) pa_nil))) (nomark _))))))))), ?_⟩
    -- the text of signs and the greatest length
    refine ⟨fun σ H1 => ∃ (sg : Str) (mo : Int), σ = [some (.ref t), some (.str sg), some (.int mo), none, none, none, none, none, none, none, none, none, none] ∧ Lets sg ∧ 1 ≤ sg.length ∧ sg.length ≤ 100 ∧ 0 ≤ mo ∧ mo ≤ 20 ∧ Tray H1 t (n + 2) ∧ But t H H1, ?_, ?_⟩
    · refine ⟨(by show 3 ≤ sizeLine; decide), fun l1 hl1 => ?_⟩
      refine ⟨_, rfl, t, 3, n, rfl, by decide, log_small (by decide) (by decide), hT.new hl1, by omega, fun v H1 v0 v1 T1 B1 => ?_⟩
      obtain ⟨x, hx, hx3⟩ := pick3 (V.str "x") (V.str "ab") (V.str "abcdefghijklmnopqrstuvwxyz") v0 v1
      have hx3 : ∃ sg : Str, x = .str sg ∧ Lets sg ∧ 1 ≤ sg.length ∧ sg.length ≤ 100 := by
        rcases hx3 with e | e | e
        · exact ⟨_, e, lets_x, by decide +kernel, by decide +kernel⟩
        · exact ⟨_, e, lets_ab, by decide +kernel, by decide +kernel⟩
        · exact ⟨_, e, lets_az, by decide +kernel, by decide +kernel⟩
      obtain ⟨sg, rfl, s1, s2, s3⟩ := hx3
      have n1 : l1 ≠ t := (hT.ne hl1).symm
      refine ⟨l1, _, v, _, rfl, rfl, SqL.of (B1 l1 _ n1 upd_same), hx, ?_⟩
      refine ⟨(by show 3 ≤ sizeLine; decide), fun l2 hl2 => ?_⟩
      refine ⟨_, rfl, t, 3, n + 1, rfl, by decide, log_small (by decide) (by decide), T1.new hl2, by omega, fun v' H2 v0' v1' T2 B2 => ?_⟩
      obtain ⟨x', hx', hx3'⟩ := pick3 (V.int 3) (V.int 10) (V.int 20) v0' v1'
      have hx3' : ∃ mo : Int, x' = .int mo ∧ 0 ≤ mo ∧ mo ≤ 20 := by
        rcases hx3' with e | e | e
        · exact ⟨_, e, by decide, by decide⟩
        · exact ⟨_, e, by decide, by decide⟩
        · exact ⟨_, e, by decide, by decide⟩
      obtain ⟨mo, rfl, m1, m2⟩ := hx3'
      have n2 : l2 ≠ t := (T1.ne hl2).symm
      refine ⟨l2, _, v', _, rfl, rfl, SqL.of (B2 l2 _ n2 upd_same), hx', ?_⟩
      refine ⟨(by show 2 ≤ sizeLine; decide), fun p hp => ⟨p, _, rfl, SqT.of upd_same, rfl, _, _, rfl, _, _, rfl, rfl, sg, mo, rfl, s1, s2, s3, m1, m2, T2.new hp, ?_⟩⟩
      exact (((But.new hl1).trans B1).trans ((But.new hl2).trans B2)).trans (But.new hp)
    rintro σ H1 ⟨sg, mo, rfl, s1, s2, s3, m1, m2, T1, B1⟩
    -- the three parts
    refine ⟨fun σ H2 => ∃ fr mi ba : Str, σ = [some (.ref t), some (.str sg), some (.int mo), some (.str fr), some (.str mi), some (.str ba), none, none, none, none, none, none, none] ∧ Lets fr ∧ Lets mi ∧ Lets ba ∧ fr.length ≤ 20 ∧ mi.length ≤ 20 ∧ ba.length ≤ 20 ∧ Tray H2 t (n + 602) ∧ But t H H2, ?_, ?_⟩
    · refine ⟨3, rfl, by decide, by decide, fun D hD => ?_⟩
      have nD : D ≠ t := (T1.ne hD).symm
      refine lc_range (lo := 0) (n := 3) (fun i H' => Tray H' t (n + 2 + 200 * i) ∧ But t H1 H' ∧ ∃ ys : List Str, H' D = some (.lst (ys.map V.str)) ∧ ys.length = i ∧ ∀ y ∈ ys, Lets y ∧ y.length ≤ 20) ?_ ?_ ?_
      · exact ⟨T1.new hD, But.new hD, [], upd_same, rfl, fun y hy => by cases hy⟩
      · rintro i H' hi ⟨T2, B2, ys, hy, hl, hys⟩
        refine ⟨rfl, ?_⟩
        refine ⟨_, rfl, _, rfl, _, rfl, t, sg, mo, n + 2 + 200 * i, rfl, s1, s2, s3, m1, by omega, T2, by omega, fun x H2 lx hx T3 B3 => ?_⟩
        refine ⟨ys.map V.str, B3 D _ nD hy, by rw [List.length_map]; exact Nat.lt_of_lt_of_le (by omega) (sl_small (n := 100000) (Nat.le_refl _)), ?_, ?_, ys ++ [x], ?_, ?_, ?_⟩
        · exact (T3.mono (by omega)).of (upd_ne nD.symm)
        · intro b o hb hbo
          rw [upd_ne (ne_of_none hbo hD)]
          exact B3 b o hb (B2 b o hb hbo)
        · rw [List.map_append]
          exact upd_same
        · rw [List.length_append, hl]
          rfl
        · intro y hyy
          rcases List.mem_append.mp hyy with z | z
          · exact hys y z
          · rw [List.mem_singleton] at z
            rw [z]
            exact ⟨lx, by omega⟩
      · rintro H' ⟨T2, B2, ys, hy, hl, hys⟩
        obtain ⟨fr, mi, ba, rfl⟩ : ∃ a b c : Str, ys = [a, b, c] := by
          match ys, hl with
          | [a, b, c], _ => exact ⟨a, b, c, rfl⟩
        obtain ⟨f1, f2⟩ := hys fr (by simp)
        obtain ⟨f3, f4⟩ := hys mi (by simp)
        obtain ⟨f5, f6⟩ := hys ba (by simp)
        exact ⟨D, _, rfl, SqL.of hy, rfl, _, _, rfl, _, _, rfl, _, _, rfl, rfl, fr, mi, ba, rfl, f1, f3, f5, f2, f4, f6, T2.mono (by omega), B1.trans B2⟩
    rintro σ H2 ⟨fr, mi, ba, rfl, f1, f2, f3, f4, f5, f6, T2, B2⟩
    -- how often
    refine ⟨fun σ H3 => ∃ mn : Nat, σ = [some (.ref t), some (.str sg), some (.int mo), some (.str fr), some (.str mi), some (.str ba), some (.int mn), none, none, none, none, none, none] ∧ mn ≤ 20 ∧ Tray H3 t (n + 603) ∧ But t H H3, ?_, ?_⟩
    · refine ⟨(by show 4 ≤ sizeLine; decide), fun l1 hl1 => ?_⟩
      refine ⟨_, rfl, t, 4, n + 602, rfl, by decide, log_small (by decide) (by decide), T2.new hl1, by omega, fun v H3 v0 v1 T3 B3 => ?_⟩
      obtain ⟨x, hx, hx4⟩ := pick4 (V.int 1) (V.int 1) (V.int 1) (V.int 20) v0 v1
      have hx4 : ∃ mn : Nat, x = .int (mn : Int) ∧ mn ≤ 20 := by
        rcases hx4 with e | e | e | e
        · exact ⟨1, e, by decide⟩
        · exact ⟨1, e, by decide⟩
        · exact ⟨1, e, by decide⟩
        · exact ⟨20, e, by decide⟩
      obtain ⟨mn, rfl, m3⟩ := hx4
      have n1 : l1 ≠ t := (T2.ne hl1).symm
      exact ⟨l1, _, v, _, rfl, rfl, SqL.of (B3 l1 _ n1 upd_same), hx, mn, rfl, m3, T3, B2.trans ((But.new hl1).trans B3)⟩
    rintro σ H3 ⟨mn, rfl, m3, T3, B3⟩
    have lF : (Txt.mul fr (mn : Int)).length ≤ 400 := by
      rw [Bl.len_mul]
      calc mn * fr.length ≤ 20 * 20 := Nat.mul_le_mul m3 f4
        _ = 400 := by decide
    have gF : Lets (Txt.mul fr (mn : Int)) := lets_mul f1 mn
    have zF : fr.length * (mn : Int).toNat ≤ sizeLine := by
      rw [Int.toNat_natCast]
      refine sl_small ?_
      calc fr.length * mn ≤ 20 * 20 := Nat.mul_le_mul f4 m3
        _ ≤ 100000 := by decide
    have small : ∀ {a b : Nat}, a ≤ 1000 → b ≤ 1000 → a + b ≤ sizeLine := fun h1 h2 => sl_small (by omega)
    -- three pairs
    refine ⟨fun σ H4 => ∃ (q : Addr) (xs : List V), σ = [some (.ref t), some (.str sg), some (.int mo), some (.str fr), some (.str mi), some (.str ba), some (.int mn), some (.ref q), none, none, none, none, none] ∧ H4 q = some (.lst xs) ∧ xs.length = 3 ∧ PairsOk H4 xs ∧ Same H3 H4, ?_, ?_⟩
    · refine ⟨_, rfl, _, rfl, (by show 2 ≤ sizeLine; decide), fun p1 h1 => ?_⟩
      refine ⟨_, rfl, _, rfl, fr, mn, rfl, rfl, by omega, by omega, zF, _, rfl, _, _, rfl, rfl, small (by omega) (by omega), _, rfl, _, rfl, fr, mn, rfl, rfl, by omega, by omega, zF, _, rfl, _, _, rfl, rfl, small (by omega) (by omega), (by show 2 ≤ sizeLine; decide), fun p2 h2 => ?_⟩
      refine ⟨_, rfl, _, rfl, _, _, rfl, rfl, small (by omega) (by omega), _, rfl, _, rfl, _, _, rfl, rfl, small (by omega) (by omega), (by show 2 ≤ sizeLine; decide), fun p3 h3 => ?_⟩
      refine ⟨(by show 3 ≤ sizeLine; decide), fun q hq => ⟨q, _, rfl, upd_same, rfl, ?_, ?_⟩⟩
      · have w1 := PairsOk.nil.snoc h1 f1 f2 (by omega) (by omega)
        have w2 := w1.snoc h2 (gF.app f2) (gF.app f3) (by rw [len_app]; omega) (by rw [len_app]; omega)
        have w3 := w2.snoc h3 (f2.app f1) (f3.app f1) (by rw [len_app]; omega) (by rw [len_app]; omega)
        exact w3.mono (same_new hq)
      · exact (((same_new h1).trans (same_new h2)).trans (same_new h3)).trans (same_new hq)
    rintro σ H4 ⟨q, xs, rfl, hq, lq, W4, S4⟩
    -- three more
    refine ⟨fun σ H5 => ∃ (q : Addr) (xs : List V), σ = [some (.ref t), some (.str sg), some (.int mo), some (.str fr), some (.str mi), some (.str ba), some (.int mn), some (.ref q), none, none, none, none, none] ∧ H5 q = some (.lst xs) ∧ PairsOk H5 xs ∧ Same H3 H5, ?_, ?_⟩
    · refine ⟨_, rfl, _, rfl, _, rfl, _, rfl, _, _, rfl, rfl, small (by omega) (by omega), (by show 2 ≤ sizeLine; decide), fun p1 h1 => ?_⟩
      refine ⟨_, rfl, _, rfl, fr, mn, rfl, rfl, by omega, by omega, zF, _, rfl, _, rfl, fr, mn, rfl, rfl, by omega, by omega, zF, (by show 2 ≤ sizeLine; decide), fun p2 h2 => ?_⟩
      refine ⟨_, rfl, _, rfl, _, _, rfl, rfl, small (by omega) (by omega), _, rfl, _, rfl, _, _, rfl, rfl, small (by omega) (by omega), (by show 2 ≤ sizeLine; decide), fun p3 h3 => ?_⟩
      refine ⟨(by show 3 ≤ sizeLine; decide), fun l hl => ?_⟩
      have S5 : Same H4 _ := (((same_new h1).trans (same_new h2)).trans (same_new h3)).trans (same_new (o := .lst [.ref p1, .ref p2, .ref p3]) hl)
      refine ⟨q, l, xs, _, rfl, rfl, S5 q _ hq, upd_same, (by rw [lq]; show 3 + 3 ≤ sizeLine; decide), fun r hrr => ⟨r, _, rfl, upd_same, ?_, ?_⟩⟩
      · have w1 := W4.snoc h1 f1 (f1.app f2) (by omega) (by rw [len_app]; omega)
        have w2 := w1.snoc h2 gF gF (by omega) (by omega)
        have w3 := w2.snoc h3 (f1.app f2) (f2.app f1) (by rw [len_app]; omega) (by rw [len_app]; omega)
        have e : xs ++ [V.ref p1, V.ref p2, V.ref p3] = xs ++ [.ref p1] ++ [.ref p2] ++ [.ref p3] := by
          rw [List.append_assoc, List.append_assoc]
          rfl
        rw [e]
        exact (w3.mono (same_new hl)).mono (same_new hrr)
      · exact (S4.trans S5).trans (same_new hrr)
    rintro σ H5 ⟨q, xs, rfl, hq, W5, S5⟩
    -- the loop over the pairs
    refine ⟨fun σ H6 => ∃ o1 o2 o3 o4 : Option V, σ = [some (.ref t), some (.str sg), some (.int mo), some (.str fr), some (.str mi), some (.str ba), some (.int mn), some (.ref q), o1, o2, o3, o4, none] ∧ Same H5 H6, ?_, ?_⟩
    · refine ⟨_, rfl, q, rfl, ⟨_, SqL.of hq⟩, for_list (K := K) (a := q) (xs := xs) (fun _ σ H6 => ∃ o1 o2 o3 o4 : Option V, σ = [some (.ref t), some (.str sg), some (.int mo), some (.str fr), some (.str mi), some (.str ba), some (.int mn), some (.ref q), o1, o2, o3, o4, none] ∧ Same H5 H6)
        ⟨none, none, none, none, rfl, Same.refl _⟩ (fun i σ H6 _ ⟨_, _, _, _, _, e⟩ => SqL.of (e q _ hq)) ?_ (fun σ H6 z => z)⟩
      rintro i v σ H6 hi ⟨o1, o2, o3, o4, rfl, S6⟩
      obtain ⟨p, x, y, rfl, hp, lx, ly, zx, zy⟩ := W5 v (List.mem_of_getElem? hi)
      refine ⟨p, _, rfl, SqT.of (S6 p _ hp), rfl, _, _, rfl, _, _, rfl, rfl, ?_⟩
      -- due, told
      refine ⟨_, rfl, _, rfl, x, y, rfl, by omega, by omega, fun d hd => ?_⟩
      refine ⟨_, rfl, _, rfl, x, y, rfl, lx, ly, by omega, by omega, fun q1 h1 => ?_⟩
      refine ⟨_, rfl, _, rfl, x, y, rfl, lx, ly, by omega, by omega, fun q2 h2 => ?_⟩
      refine ⟨_, rfl, _, rfl, x, y, rfl, lx, ly, by omega, by omega, fun q3 h3 => ?_⟩
      refine ⟨(by show 3 ≤ sizeLine; decide), fun l hl => ?_⟩
      have gL : Lets (restL x y) := lets_drop lx _
      have gR : Lets (restR x y) := lets_drop ly _
      have zL : (restL x y).length ≤ 1000 := Nat.le_trans (len_drop x _) zx
      have zR : (restR x y).length ≤ 1000 := Nat.le_trans (len_drop y _) zy
      have sd := td_len gL gR
      have sd3 := tl3_len gL gR
      obtain ⟨k1, k2, k3⟩ := td_show (restL x y) (restR x y)
      obtain ⟨k4, k5, k6⟩ := tl3_show (restL x y) (restR x y)
      have A1 : Same (upd H6 d (.tup [.str (restL x y), .str (restR x y)])) _ := same_new (o := .tup [.str (restL x y), .str (restR x y)]) h1
      have A2 := A1.trans (same_new (o := .tup [.str (restL x y), .str (restR x y)]) h2)
      have A3 := A2.trans (same_new (o := .tup [.str (restL x y), .str (restR x y)]) h3)
      have A4 := A3.trans (same_new (o := .lst [.ref q1, .ref q2, .ref q3]) hl)
      have e1 := (((same_new (o := .tup [.str (restL x y), .str (restR x y)]) h2).trans (same_new (o := .tup [.str (restL x y), .str (restR x y)]) h3)).trans (same_new (o := .lst [.ref q1, .ref q2, .ref q3]) hl)) q1 _ upd_same
      have e2 := ((same_new (o := .tup [.str (restL x y), .str (restR x y)]) h3).trans (same_new (o := .lst [.ref q1, .ref q2, .ref q3]) hl)) q2 _ upd_same
      have e3 := (same_new (o := .lst [.ref q1, .ref q2, .ref q3]) hl) q3 _ upd_same
      have ed := A4 d _ upd_same
      have S7 : Same H5 (upd (upd (upd (upd (upd H6 d (.tup [.str (restL x y), .str (restR x y)])) q1 (.tup [.str (restL x y), .str (restR x y)])) q2 (.tup [.str (restL x y), .str (restR x y)])) q3 (.tup [.str (restL x y), .str (restR x y)])) l (.lst [.ref q1, .ref q2, .ref q3])) := (S6.trans (same_new hd)).trans A4
      have el : (upd (upd (upd (upd (upd H6 d (.tup [.str (restL x y), .str (restR x y)])) q1 (.tup [.str (restL x y), .str (restR x y)])) q2 (.tup [.str (restL x y), .str (restR x y)])) q3 (.tup [.str (restL x y), .str (restR x y)])) l (.lst [.ref q1, .ref q2, .ref q3])) l = some (.lst [.ref q1, .ref q2, .ref q3]) := upd_same
      generalize (upd (upd (upd (upd (upd H6 d (.tup [.str (restL x y), .str (restR x y)])) q1 (.tup [.str (restL x y), .str (restR x y)])) q2 (.tup [.str (restL x y), .str (restR x y)])) q3 (.tup [.str (restL x y), .str (restR x y)])) l (.lst [.ref q1, .ref q2, .ref q3])) = H7 at *
      -- repr(told) against repr([due] * 3)
      refine ⟨_, rfl, l, tl3 (td (restL x y) (restR x y)), rfl, dp_tl3 el (dp_td e1) (dp_td e2) (dp_td e3), k4, k5, k6, sl_small (by omega), ?_⟩
      refine ⟨_, rfl, (by show 1 ≤ sizeLine; decide), fun l2 hl2 => ⟨l2, 3, _, rfl, rfl, upd_same, by decide, by decide, (by show 1 * 3 ≤ sizeLine; decide), fun l3 hl3 => ?_⟩⟩
      have B1 := (same_new (o := .lst [.ref d]) hl2).trans (same_new (o := .lst (List.replicate (3 : Int).toNat [V.ref d]).flatten) hl3)
      have ed' := B1 d _ ed
      refine ⟨l3, tl3 (td (restL x y) (restR x y)), rfl, dp_tl3 upd_same (dp_td ed') (dp_td ed') (dp_td ed'), k4, k5, k6, sl_small (by omega), rfl, _, rfl, ?_⟩
      refine iteNS rfl ?_
      -- the other way round
      refine ⟨_, rfl, _, rfl, y, x, rfl, ly, lx, by omega, by omega, fun r1 hr1 => ?_⟩
      obtain ⟨w1, w2⟩ := rest_swap x y
      rw [w1, w2]
      obtain ⟨j1, j2, j3⟩ := td_show (restR x y) (restL x y)
      have sd' := td_len gR gL
      refine ⟨r1, td (restR x y) (restL x y), rfl, dp_td upd_same, j1, j2, j3, sl_small (by omega), ?_⟩
      have ed2 := (same_new (o := .tup [.str (restR x y), .str (restL x y)]) hr1) d _ ed'
      refine ⟨_, rfl, d, _, 1, .str (restR x y), rfl, rfl, SqT.of ed2, rfl, _, rfl, d, _, 0, .str (restL x y), rfl, rfl, SqT.of ed2, rfl, (by show 2 ≤ sizeLine; decide), fun r2 hr2 => ?_⟩
      refine ⟨r2, td (restR x y) (restL x y), rfl, dp_td upd_same, j1, j2, j3, sl_small (by omega), rfl, _, rfl, ?_⟩
      refine iteNS rfl ?_
      have ed3 := (same_new (o := .tup [.str (restR x y), .str (restL x y)]) hr2) d _ ed2
      have S8 := (S7.trans B1).trans ((same_new (o := .tup [.str (restR x y), .str (restL x y)]) hr1).trans (same_new (o := .tup [.str (restR x y), .str (restL x y)]) hr2))
      generalize (upd (upd (upd (upd H7 l2 (.lst [.ref d])) l3 (.lst (List.replicate (3 : Int).toNat [V.ref d]).flatten)) r1 (.tup [.str (restR x y), .str (restL x y)])) r2 (.tup [.str (restR x y), .str (restL x y)])) = H8 at *
      -- with a text in front
      refine ⟨_, rfl, _, rfl, _, _, rfl, rfl, small (by omega) (by omega), _, rfl, _, rfl, _, _, rfl, rfl, small (by omega) (by omega), ba ++ x, ba ++ y, rfl, f3.app lx, f3.app ly, by rw [len_app]; omega, by rw [len_app]; omega, fun u1 hu1 => ?_⟩
      obtain ⟨w3, w4⟩ := rest_app ba x y
      rw [w3, w4]
      have ed4 := (same_new (o := .tup [.str (restL x y), .str (restR x y)]) hu1) d _ ed3
      refine ⟨_, rfl, td (restL x y) (restR x y), td (restL x y) (restR x y), dp_td upd_same, dp_td ed4, td_shaped gL gR, td_shaped gL gR, _, rfl, ?_⟩
      rw [eqv_td]
      refine iteF ?_
      -- the rests once more
      refine ⟨_, rfl, d, _, 0, .str (restL x y), rfl, rfl, SqT.of ed4, rfl, _, rfl, d, _, 1, .str (restR x y), rfl, rfl, SqT.of ed4, rfl, restL x y, restR x y, rfl, gL, gR, by omega, by omega, fun u2 hu2 => ?_⟩
      obtain ⟨w5, w6⟩ := rest_again x y
      rw [w5, w6]
      have ed5 := (same_new (o := .tup [.str (restL x y), .str (restR x y)]) hu2) d _ ed4
      refine ⟨_, rfl, td (restL x y) (restR x y), td (restL x y) (restR x y), dp_td upd_same, dp_td ed5, td_shaped gL gR, td_shaped gL gR, _, rfl, ?_⟩
      rw [eqv_td]
      refine iteF ?_
      exact ⟨_, _, _, _, rfl, S8.trans ((same_new hu1).trans (same_new hu2))⟩
    rintro σ H6 ⟨o1, o2, o3, o4, rfl, S6⟩
    refine ⟨_, rfl, _, rfl, _, rfl, _, _, rfl, rfl, small (by omega) (by omega), fr, fr ++ mi, rfl, f1, f1.app f2, by omega, by rw [len_app]; omega, fun u1 hu1 => ?_⟩
    obtain ⟨w1, w2⟩ := rest_front fr mi
    rw [w1, w2]
    refine ⟨_, rfl, (by show 2 ≤ sizeLine; decide), fun u2 hu2 => ?_⟩
    refine ⟨td "" mi, td "" mi, dp_td (same_new (o := .tup [.str "", .str mi]) hu2 u1 _ upd_same), dp_td upd_same, td_shaped Lets.nil f2, td_shaped Lets.nil f2, ?_⟩
    rw [eqv_td]
    have S9 : Same H3 _ := (S5.trans S6).trans ((same_new (o := .tup [.str "", .str mi]) hu1).trans (same_new (o := .tup [.str "", .str mi]) hu2))
    refine k _ ?_ (B3.trans fun b o _ h => S9 b o h)
    obtain ⟨c1, c2, c3, z1, z2, z3, z4, z5, z6⟩ := T3
    exact ⟨c1, c2, c3, S9 t _ z1, z2, z3, z4, z5, by omega⟩
end
end K7
namespace K7
open PySem PySem.Spec PyProof.Rows L2 TL Bl
/-! ### the written words -/
def long : Str := Txt.mul "ab" 400
theorem long_lets : Lets long := lets_mul lets_ab 400
theorem long_len : long.length = 800 := by decide +kernel
def w4a : Str := takeS long 799 ++ "c"
def w4b : Str := takeS long 500
theorem lets_take {x : Str} (h : Lets x) (n : Nat) : Lets (takeS x n) := fun c hc => h c (List.mem_of_mem_take hc)
theorem lets_c : Lets ("c" : Str) := by unfold Lets; decide +kernel
theorem lets_acx : Lets ("acx" : Str) := by unfold Lets; decide +kernel
theorem lets_ad : Lets ("ad" : Str) := by unfold Lets; decide +kernel
theorem said1 : restL "acx" "ad" = "cx" ∧ restR "acx" "ad" = "d" := by decide +kernel
theorem said2 : restL "" "" = "" ∧ restR "" "" = "" := by decide +kernel
theorem said3 : restL long w4a = "b" ∧ restR long w4a = "c" := by decide +kernel
theorem said4 : restL long w4b = Txt.mul "ab" 150 ∧ restR long w4b = "" := by decide +kernel
def wd : PyData := .list [td "cx" "d", td "" "", td "b" "c", td (Txt.mul "ab" 150) ""]
theorem wd_shaped : SeqAt.shaped wd = true := by decide +kernel
theorem wd_eqv : PyData.eqv wd wd = true := SeqAt.eqv_refl wd (SeqAt.canLay_of_shaped wd_shaped)
section
variable {P : Program} {w : World} {K : PySem.W.Frag} {mg : Str → Option Value} {base : Heap}
def spLaw (K : PySem.W.Frag) : Sp := fun vs H Q _ => ∃ (a : Addr) (ns : List Int), vs = [.ref a] ∧ SqL K H a (ns.map V.int) ∧ ns.length ≤ 63 ∧ ∀ H', Q (.bl true) H'
theorem scLaw : FnScope ["script", "at", "tray", "turn", "long_here", "told"] ["script"] (defScope sLaw) := ⟨rfl, rfl, rfl, by decide +kernel, rfl, by decide +kernel, by decide +kernel⟩
set_option maxHeartbeats 4000000 in
theorem ok_law {f ty ri st : Addr} {fd tyd rid std : FuncData} (F : Fun K "law" "law" sLaw f fd) (T : Names mg)
    (FY : Fun K "_law_tray" "_law_tray" sTray ty tyd) (mY : mg "_law_tray" = some (.ref ty)) (bY : Binds K tyd ["script", "at"] [])
    (FR : Fun K "_law_right" "_law_right" sRight ri rid) (mR : mg "_law_right" = some (.ref ri)) (bR : Binds K rid ["tray"] []) (OR : FnG P w K mg base CX0 4 ri rid ["tray"] spRight)
    (FS : Fun K "step" "step" sStep st std) (mS : mg "step" = some (.ref st)) (bS : Binds K std ["word", "other"] []) (OS : FnOk P w K mg base CX0 3 st std ["word", "other"] spStep) :
    FnG P w K mg base CX0 5 f fd ["script"] (spLaw K) := by
  refine okG F scLaw (fun vs H Q E h => ?_) (fun cdv A outer s H vs Q E hgd hr h => ?_)
  · obtain ⟨a, ns, rfl, _⟩ := h
    rfl
  · obtain ⟨a, ns, rfl, hS, hl, k⟩ := h
    have OY : FnOk P w K mg base CX0 1 ty tyd ["script", "at"] (spTray K) := ok_tray FY T
    have hr1 : Room 1 _ := hr.mono (by decide)
    have hr3 : Room 3 _ := hr.mono (by decide)
    have hu := hr.units
    refine ⟨_, Evl.pss_cut (ps_for PassesOwn.never rfl (pi_range1 (by rfl) T.range (pa_cons (pe_callB (call_max2 rfl) (by rfl) T.max boot_max (pa_cons pe_int (pa_cons (pe_callB (call_min2 rfl) (by rfl) T.min boot_min (pa_cons pe_int (pa_cons (pe_callB call_len_seq (by rfl) T.len PySem.boot_len (pa_cons (pv 0) pa_nil)) pa_nil))) pa_nil))) pa_nil)) (pg_name (i := 1) scLaw.nd rfl (Or.inl rfl))
        (pss_cons (ps_set (i := 2) scLaw.nd rfl (Or.inl rfl) (pe_call OY hr1 (by rfl) mY FY.kp bY .nil pass0 (pa_cons (pv 0) (pa_cons (pv 1) pa_nil))))
        (pss_one (ps_for PassesOwn.never rfl (pi_range1 (by rfl) T.range (pa_cons pe_int pa_nil)) (pg_name (i := 3) scLaw.nd rfl (Or.inl rfl))
          (pss_one (ps_if (pt_not (pt_val (pe_callG OR hgd hr (by rfl) mR FR.kp bR pass0 (pa_cons (pv 2) pa_nil)))) (pss_one (ps_ret pe_bl)) pss_nil))))))
      (pss_cons (ps_set (i := 4) scLaw.nd rfl (Or.inl rfl) (pe_op op_mulS pe_str pe_int))
      (pss_cons (ps_set (i := 5) scLaw.nd rfl (Or.inl rfl) (pe_lst (pa_cons (pe_call OS hr3 (by rfl) mS FS.kp bS .nil pass0 (pa_cons pe_str (pa_cons pe_str pa_nil)))
        (pa_cons (pe_call OS hr3 (by rfl) mS FS.kp bS .nil pass0 (pa_cons pe_str (pa_cons pe_str pa_nil)))
        (pa_cons (pe_call OS hr3 (by rfl) mS FS.kp bS .nil pass0 (pa_cons (pv 4) (pa_cons (pe_op op_add_str (pe_slice sl_str (pv 4) po_none (po_some pe_int)) pe_str) pa_nil)))
        (pa_cons (pe_call OS hr3 (by rfl) mS FS.kp bS .nil pass0 (pa_cons (pv 4) (pa_cons (pe_slice sl_str (pv 4) po_none (po_some pe_int)) pa_nil))) pa_nil))))))
      (pss_one (ps_ret (pe_cmpR (op_eqD hu) (pv 5) (pe_lst (pa_cons (pe_tup (pa_cons pe_str (pa_cons pe_str pa_nil))) (pa_cons (pe_tup (pa_cons pe_str (pa_cons pe_str pa_nil))) (pa_cons (pe_tup (pa_cons pe_str (pa_cons pe_str pa_nil)))
        (pa_cons (pe_tup (pa_cons (pe_op op_mulS pe_str pe_int) (pa_cons pe_str pa_nil))) pa_nil))))) (nomark _)))))), ?_⟩
    refine ⟨fun σ H1 => ∃ o1 o2 o3 : Option V, σ = [some (.ref a), o1, o2, o3, none, none] ∧ Same H H1, ?_, ?_⟩
    · refine ⟨_, rfl, a, _, rfl, .inl hS, _, _, rfl, _, _, rfl, ?_⟩
      rw [List.length_map]
      have hb : 1 ≤ (if (if ((ns.length : Nat) : Int) < 16 then ((ns.length : Nat) : Int) else 16) > 1 then (if ((ns.length : Nat) : Int) < 16 then ((ns.length : Nat) : Int) else 16) else 1) ∧ (if (if ((ns.length : Nat) : Int) < 16 then ((ns.length : Nat) : Int) else 16) > 1 then (if ((ns.length : Nat) : Int) < 16 then ((ns.length : Nat) : Int) else 16) else 1) ≤ 16 := by
        split <;> split <;> omega
      refine ⟨_, rfl, ?_, ?_, for_range (lo := 0) (fun _ σ H1 => ∃ o1 o2 o3 : Option V, σ = [some (.ref a), o1, o2, o3, none, none] ∧ Same H H1) ⟨none, none, none, rfl, Same.refl _⟩ ?_ fun σ H1 z => z⟩
      · omega
      · omega
      rintro i σ H1 hi ⟨o1, o2, o3, rfl, S1⟩
      have hi16 : i ≤ 16 := by omega
      have e0 : (0 : Int) + (i : Int) = (i : Int) := Int.zero_add _
      refine ⟨_, rfl, _, rfl, a, ns, i, by rw [e0]; rfl, S1.seq hS, by omega, by omega, fun t H2 ht T2 S2 => ?_⟩
      refine ⟨3, rfl, by decide, by decide, for_range (lo := 0) (n := 3) (fun j σ H3 => ∃ o1 o3 : Option V, σ = [some (.ref a), o1, some (.ref t), o3, none, none] ∧ Tray H3 t (2000 * j) ∧ But t H2 H3) ⟨_, _, rfl, T2, But.refl _ _⟩ ?_ ?_⟩
      · rintro j σ H3 hj ⟨o1, o3, rfl, T3, B3⟩
        refine ⟨_, rfl, t, 2000 * j, rfl, T3, by omega, fun H4 T4 B4 => ⟨true, rfl, ?_⟩⟩
        exact ⟨_, _, rfl, T4.mono (by omega), B3.trans B4⟩
      · rintro σ H3 ⟨o1, o3, rfl, T3, B3⟩
        refine ⟨_, _, _, rfl, fun b o hb => ?_⟩
        have hb1 := S1 b o hb
        exact B3 b o (ne_of_none hb1 ht) (S2 b o hb1)
    · rintro σ H1 ⟨o1, o2, o3, rfl, S1⟩
      refine ⟨"ab", 400, rfl, rfl, by decide, by decide, sl_small (by decide +kernel), ?_⟩
      refine ⟨"acx", "ad", rfl, lets_acx, lets_ad, by decide +kernel, by decide +kernel, fun q1 h1 => ?_⟩
      refine ⟨"", "", rfl, Lets.nil, Lets.nil, by decide +kernel, by decide +kernel, fun q2 h2 => ?_⟩
      have z800 : long.length ≤ 100000 := by rw [long_len]; decide
      refine ⟨_, rfl, _, rfl, 799, rfl, long, rfl, sl_small z800, _, _, rfl, rfl, sl_small (by decide +kernel), long, w4a, rfl, long_lets, (lets_take long_lets 799).app lets_c, z800, by decide +kernel, fun q3 h3 => ?_⟩
      refine ⟨_, rfl, _, rfl, 500, rfl, long, rfl, sl_small z800, long, w4b, rfl, long_lets, lets_take long_lets 500, z800, by decide +kernel, fun q4 h4 => ?_⟩
      rw [said1.1, said1.2, said2.1, said2.2, said3.1, said3.2, said4.1, said4.2]
      refine ⟨(by show 4 ≤ sizeLine; decide), fun l hl => ?_⟩
      have A1 : Same _ _ := same_new (o := .tup [.str "", .str ""]) h2
      have A2 := same_new (o := .tup [.str "b", .str "c"]) h3
      have A3 := same_new (o := .tup [.str (Txt.mul "ab" 150), .str ""]) h4
      have A4 := same_new (o := .lst [.ref q1, .ref q2, .ref q3, .ref q4]) hl
      refine ⟨_, rfl, (by show 2 ≤ sizeLine; decide), fun u1 g1 => ?_⟩
      refine ⟨(by show 2 ≤ sizeLine; decide), fun u2 g2 => ?_⟩
      refine ⟨(by show 2 ≤ sizeLine; decide), fun u3 g3 => ?_⟩
      refine ⟨"ab", 150, rfl, rfl, by decide, by decide, sl_small (by decide +kernel), (by show 2 ≤ sizeLine; decide), fun u4 g4 => ?_⟩
      refine ⟨(by show 4 ≤ sizeLine; decide), fun l2 hl2 => ?_⟩
      have C1 := same_new (o := .tup [.str "cx", .str "d"]) g1
      have C2 := same_new (o := .tup [.str "", .str ""]) g2
      have C3 := same_new (o := .tup [.str "b", .str "c"]) g3
      have C4 := same_new (o := .tup [.str (Txt.mul "ab" 150), .str ""]) g4
      have C5 := same_new (o := .lst [.ref u1, .ref u2, .ref u3, .ref u4]) hl2
      have C := (((C1.trans C2).trans C3).trans C4).trans C5
      refine ⟨wd, wd, .lst (SqL.of (C l _ upd_same)) (.cons (dp_td (C q1 _ (A4 q1 _ (A3 q1 _ (A2 q1 _ (A1 q1 _ upd_same)))))) (.cons (dp_td (C q2 _ (A4 q2 _ (A3 q2 _ (A2 q2 _ upd_same))))) (.cons (dp_td (C q3 _ (A4 q3 _ (A3 q3 _ upd_same)))) (.cons (dp_td (C q4 _ (A4 q4 _ upd_same))) .nil)))),
        .lst (SqL.of upd_same) (.cons (dp_td (C5 u1 _ (C4 u1 _ (C3 u1 _ (C2 u1 _ upd_same))))) (.cons (dp_td (C5 u2 _ (C4 u2 _ (C3 u2 _ upd_same)))) (.cons (dp_td (C5 u3 _ (C4 u3 _ upd_same))) (.cons (dp_td (C5 u4 _ upd_same)) .nil)))), wd_shaped, wd_shaped, ?_⟩
      rw [wd_eqv]
      exact k _
end
end K7
namespace K7
open PySem PySem.Spec PyProof.Rows L2 TL Bl
theorem all_mk {l : PySem.W.OpenLaw} {w : World} {K : PySem.W.Frag} {h : Heap} {mg : Str → Option Value} {fa f1 f2 f3 f4 f5 f6 f7 f8 f9 f10 f11 : Addr} (X : K.In h) (G : h.Ns mainGlobals mg) (hfa : mg "law" = some (.ref fa))
    {od1 an1 od2 an2 od3 an3 od4 an4 od5 an5 od6 an6 od7 an7 od8 an8 od9 an9 od10 an10 od11 an11 : Option Addr} {sl1 sl2 sl3 sl4 sl5 sl6 sl7 sl8 sl9 sl10 sl11 : Array (Option Value)} {oc1 kV1 dc1 pm1 cd1 ct1 oc2 kV2 dc2 pm2 cd2 ct2 oc3 kV3 dc3 pm3 cd3 ct3 oc4 kV4 dc4 pm4 cd4 ct4 oc5 kV5 dc5 pm5 cd5 ct5 oc6 kV6 dc6 pm6 cd6 ct6 oc7 kV7 dc7 pm7 cd7 ct7 oc8 kV8 dc8 pm8 cd8 ct8 oc9 kV9 dc9 pm9 cd9 ct9 oc10 kV10 dc10 pm10 cd10 ct10 oc11 kV11 dc11 pm11 cd11 ct11 : Value}
    (a1 : PySem.W.nsIn K mainGlobals "is_word" = some (some (.ref f1))) (l1 : K.lookup f1 = some ⟨oc1, od1, .func (PySem.W.fnOf "is_word" "is_word" (defArgs sIsWord) (defBody sIsWord) (defScope sIsWord) .none kV1 dc1 pm1 an1 cd1 ct1), sl1⟩) (c1 : PySem.W.codeIn K cd1 "is_word" = true) (k1 : PySem.W.keepIn K (.ref f1) = true)
    (a2 : PySem.W.nsIn K mainGlobals "check_word" = some (some (.ref f2))) (l2 : K.lookup f2 = some ⟨oc2, od2, .func (PySem.W.fnOf "check_word" "check_word" (defArgs sCheck) (defBody sCheck) (defScope sCheck) .none kV2 dc2 pm2 an2 cd2 ct2), sl2⟩) (c2 : PySem.W.codeIn K cd2 "check_word" = true) (k2 : PySem.W.keepIn K (.ref f2) = true)
    (a3 : PySem.W.nsIn K mainGlobals "step" = some (some (.ref f3))) (l3 : K.lookup f3 = some ⟨oc3, od3, .func (PySem.W.fnOf "step" "step" (defArgs sStep) (defBody sStep) (defScope sStep) .none kV3 dc3 pm3 an3 cd3 ct3), sl3⟩) (c3 : PySem.W.codeIn K cd3 "step" = true) (k3 : PySem.W.keepIn K (.ref f3) = true)
    (a4 : PySem.W.nsIn K mainGlobals "common_length" = some (some (.ref f4))) (l4 : K.lookup f4 = some ⟨oc4, od4, .func (PySem.W.fnOf "common_length" "common_length" (defArgs sCommon) (defBody sCommon) (defScope sCommon) .none kV4 dc4 pm4 an4 cd4 ct4), sl4⟩) (c4 : PySem.W.codeIn K cd4 "common_length" = true) (k4 : PySem.W.keepIn K (.ref f4) = true)
    (a5 : PySem.W.nsIn K mainGlobals "step_between" = some (some (.ref f5))) (l5 : K.lookup f5 = some ⟨oc5, od5, .func (PySem.W.fnOf "step_between" "step_between" (defArgs sBetween) (defBody sBetween) (defScope sBetween) .none kV5 dc5 pm5 an5 cd5 ct5), sl5⟩) (c5 : PySem.W.codeIn K cd5 "step_between" = true) (k5 : PySem.W.keepIn K (.ref f5) = true)
    (a6 : PySem.W.nsIn K mainGlobals "_law_tray" = some (some (.ref f6))) (l6 : K.lookup f6 = some ⟨oc6, od6, .func (PySem.W.fnOf "_law_tray" "_law_tray" (defArgs sTray) (defBody sTray) (defScope sTray) .none kV6 dc6 pm6 an6 cd6 ct6), sl6⟩) (c6 : PySem.W.codeIn K cd6 "_law_tray" = true) (k6 : PySem.W.keepIn K (.ref f6) = true)
    (a7 : PySem.W.nsIn K mainGlobals "_law_take" = some (some (.ref f7))) (l7 : K.lookup f7 = some ⟨oc7, od7, .func (PySem.W.fnOf "_law_take" "_law_take" (defArgs sTake) (defBody sTake) (defScope sTake) .none kV7 dc7 pm7 an7 cd7 ct7), sl7⟩) (c7 : PySem.W.codeIn K cd7 "_law_take" = true) (k7 : PySem.W.keepIn K (.ref f7) = true)
    (a8 : PySem.W.nsIn K mainGlobals "_law_letters" = some (some (.ref f8))) (l8 : K.lookup f8 = some ⟨oc8, od8, .func (PySem.W.fnOf "_law_letters" "_law_letters" (defArgs sLetters) (defBody sLetters) (defScope sLetters) .none kV8 dc8 pm8 an8 cd8 ct8), sl8⟩) (c8 : PySem.W.codeIn K cd8 "_law_letters" = true) (k8 : PySem.W.keepIn K (.ref f8) = true)
    (a9 : PySem.W.nsIn K mainGlobals "_law_rests" = some (some (.ref f9))) (l9 : K.lookup f9 = some ⟨oc9, od9, .func (PySem.W.fnOf "_law_rests" "_law_rests" (defArgs sRests) (defBody sRests) (defScope sRests) .none kV9 dc9 pm9 an9 cd9 ct9), sl9⟩) (c9 : PySem.W.codeIn K cd9 "_law_rests" = true) (k9 : PySem.W.keepIn K (.ref f9) = true)
    (a10 : PySem.W.nsIn K mainGlobals "_law_right" = some (some (.ref f10))) (l10 : K.lookup f10 = some ⟨oc10, od10, .func (PySem.W.fnOf "_law_right" "_law_right" (defArgs sRight) (defBody sRight) (defScope sRight) .none kV10 dc10 pm10 an10 cd10 ct10), sl10⟩) (c10 : PySem.W.codeIn K cd10 "_law_right" = true) (k10 : PySem.W.keepIn K (.ref f10) = true)
    (a11 : PySem.W.nsIn K mainGlobals "law" = some (some (.ref f11))) (l11 : K.lookup f11 = some ⟨oc11, od11, .func (PySem.W.fnOf "law" "law" (defArgs sLaw) (defBody sLaw) (defScope sLaw) .none kV11 dc11 pm11 an11 cd11 ct11), sl11⟩) (c11 : PySem.W.codeIn K cd11 "law" = true) (k11 : PySem.W.keepIn K (.ref f11) = true)
    (z1 : PySem.W.nsIn K mainGlobals "isinstance" = some none)
    (z2 : PySem.W.nsIn K mainGlobals "str" = some none)
    (z3 : PySem.W.nsIn K mainGlobals "len" = some none)
    (z4 : PySem.W.nsIn K mainGlobals "min" = some none)
    (z5 : PySem.W.nsIn K mainGlobals "max" = some none)
    (z6 : PySem.W.nsIn K mainGlobals "abs" = some none)
    (z7 : PySem.W.nsIn K mainGlobals "range" = some none)
    (z8 : PySem.W.nsIn K mainGlobals "repr" = some none)
    : ∃ fd : FuncData, (∀ (s : Shared) (v : Value), BindsTo s fd ⟨[v], []⟩ [("script", v)]) ∧ ∀ base : Heap, K.In base → base.Ns mainGlobals mg → FnG l.prog w K mg base CX0 5 fa fd ["script"] (spLaw K) := by
  have e := hfa.symm.trans (PySem.W.mg_of X G a11)
  cases e
  have T : Names mg := ⟨PySem.W.mg_none_of X G z1, PySem.W.mg_none_of X G z2, PySem.W.mg_none_of X G z3, PySem.W.mg_none_of X G z4, PySem.W.mg_none_of X G z5, PySem.W.mg_none_of X G z6, PySem.W.mg_none_of X G z7, PySem.W.mg_none_of X G z8⟩
  have F1 := fun_mk (st := sIsWord) l1 c1 k1
  have m1 := PySem.W.mg_of X G a1
  have b1 := F1.binds (ps := ["value"]) fun _ _ _ _ _ _ us hl => match us, hl with | [_], _ => rfl
  have F2 := fun_mk (st := sCheck) l2 c2 k2
  have m2 := PySem.W.mg_of X G a2
  have b2 := F2.binds (ps := ["word"]) fun _ _ _ _ _ _ us hl => match us, hl with | [_], _ => rfl
  have F3 := fun_mk (st := sStep) l3 c3 k3
  have m3 := PySem.W.mg_of X G a3
  have b3 := F3.binds (ps := ["word", "other"]) fun _ _ _ _ _ _ us hl => match us, hl with | [_, _], _ => rfl
  have F4 := fun_mk (st := sCommon) l4 c4 k4
  have m4 := PySem.W.mg_of X G a4
  have b4 := F4.binds (ps := ["word", "other"]) fun _ _ _ _ _ _ us hl => match us, hl with | [_, _], _ => rfl
  have F5 := fun_mk (st := sBetween) l5 c5 k5
  have m5 := PySem.W.mg_of X G a5
  have b5 := F5.binds (ps := ["word", "other"]) fun _ _ _ _ _ _ us hl => match us, hl with | [_, _], _ => rfl
  have F6 := fun_mk (st := sTray) l6 c6 k6
  have m6 := PySem.W.mg_of X G a6
  have b6 := F6.binds (ps := ["script", "at"]) fun _ _ _ _ _ _ us hl => match us, hl with | [_, _], _ => rfl
  have F7 := fun_mk (st := sTake) l7 c7 k7
  have m7 := PySem.W.mg_of X G a7
  have b7 := F7.binds (ps := ["tray", "many"]) fun _ _ _ _ _ _ us hl => match us, hl with | [_, _], _ => rfl
  have F8 := fun_mk (st := sLetters) l8 c8 k8
  have m8 := PySem.W.mg_of X G a8
  have b8 := F8.binds (ps := ["tray", "signs", "most"]) fun _ _ _ _ _ _ us hl => match us, hl with | [_, _, _], _ => rfl
  have F9 := fun_mk (st := sRests) l9 c9 k9
  have m9 := PySem.W.mg_of X G a9
  have b9 := F9.binds (ps := ["one", "two"]) fun _ _ _ _ _ _ us hl => match us, hl with | [_, _], _ => rfl
  have F10 := fun_mk (st := sRight) l10 c10 k10
  have m10 := PySem.W.mg_of X G a10
  have b10 := F10.binds (ps := ["tray"]) fun _ _ _ _ _ _ us hl => match us, hl with | [_], _ => rfl
  have F11 := fun_mk (st := sLaw) l11 c11 k11
  have m11 := PySem.W.mg_of X G a11
  refine ⟨PySem.W.fnOf "law" "law" (defArgs sLaw) (defBody sLaw) (defScope sLaw) .none kV11 dc11 pm11 an11 cd11 ct11, fun s v => .of_eq rfl, fun base _ _ => ?_⟩
  have OS : FnOk l.prog w K mg base CX0 3 f3 _ ["word", "other"] spStep := ok_step F3 T F2 m2 b2 F1 m1 b1 F5 m5 b5 F4 m4 b4
  have OR : FnG l.prog w K mg base CX0 4 f10 _ ["tray"] spRight := ok_right F10 T F7 m7 b7 F8 m8 b8 F9 m9 b9 F3 m3 b3 OS
  exact ok_law F11 T F6 m6 b6 F10 m10 b10 OR F3 m3 b3 OS
theorem walk {l : PySem.W.OpenLaw} {q : Program} {loose : List Str} {XP : (Str → Option Value) → Heap → Prop} {YP : World → Heap → Prop} {d : DefRec} {K : Params → PySem.W.Frag} (hn : l.most = some 63) (hdf : d.params.defaults = [])
    (hY : ∀ (w : World) (h : Heap), YP w h → (K w.params).In h)
    (F : ∀ (w : World) (mg : Str → Option Value) (fa : Addr) (h : Heap), (K w.params).In h → h.Ns mainGlobals mg → mg d.name = some (.ref fa) →
      ∃ fd : FuncData, (∀ (s : Shared) (u : Value), BindsTo s fd ⟨[u], []⟩ [("script", u)]) ∧ ∀ base : Heap, (K w.params).In base → base.Ns mainGlobals mg → FnG l.prog w (K w.params) mg base CX0 5 fa fd ["script"] (spLaw (K w.params))) :
    PySem.W.WalkO q loose XP YP l.row.toRowW d [] (fun f vs => PySem.call f vs) :=
  Bl.walkG (n := 63) (k := 5) (x := "script") (sp := spLaw) hn (by decide) hdf ⟨rfl, by decide, by decide⟩ hY F fun _ _ a ns hl hS => ⟨a, ns, rfl, hS, hl, fun _ => rfl⟩
end K7
open PySem PySem.W PyProof.Rows
set_option maxRecDepth 100000 in
set_option maxHeartbeats 0 in
theorem PySem.Challenge.cw_braceloops_k07_steps_of_words_holds : PySem.Challenge.rw_braceloops_k07_steps_of_words.Holds := by
  w_on; o_law; k_head; (case hw => w_witness2)
  k_fill
  refine K7.walk (l := PySem.Challenge.rw_braceloops_k07_steps_of_words) rfl rfl (fun w h Y => PySem.W.kIn_of Y) ?F
  case F =>
    intro w mg fa h KX G hmg
    refine' K7.all_mk KX G hmg ?a1 ?l1 ?c1 ?k1 ?a2 ?l2 ?c2 ?k2 ?a3 ?l3 ?c3 ?k3 ?a4 ?l4 ?c4 ?k4 ?a5 ?l5 ?c5 ?k5 ?a6 ?l6 ?c6 ?k6 ?a7 ?l7 ?c7 ?k7 ?a8 ?l8 ?c8 ?k8 ?a9 ?l9 ?c9 ?k9 ?a10 ?l10 ?c10 ?k10 ?a11 ?l11 ?c11 ?k11 ?z1 ?z2 ?z3 ?z4 ?z5 ?z6 ?z7 ?z8
    (case a1 => k_is)
    (case l1 => k_is)
    (case c1 => k_is)
    (case k1 => k_is)
    (case a2 => k_is)
    (case l2 => k_is)
    (case c2 => k_is)
    (case k2 => k_is)
    (case a3 => k_is)
    (case l3 => k_is)
    (case c3 => k_is)
    (case k3 => k_is)
    (case a4 => k_is)
    (case l4 => k_is)
    (case c4 => k_is)
    (case k4 => k_is)
    (case a5 => k_is)
    (case l5 => k_is)
    (case c5 => k_is)
    (case k5 => k_is)
    (case a6 => k_is)
    (case l6 => k_is)
    (case c6 => k_is)
    (case k6 => k_is)
    (case a7 => k_is)
    (case l7 => k_is)
    (case c7 => k_is)
    (case k7 => k_is)
    (case a8 => k_is)
    (case l8 => k_is)
    (case c8 => k_is)
    (case k8 => k_is)
    (case a9 => k_is)
    (case l9 => k_is)
    (case c9 => k_is)
    (case k9 => k_is)
    (case a10 => k_is)
    (case l10 => k_is)
    (case c10 => k_is)
    (case k10 => k_is)
    (case a11 => k_is)
    (case l11 => k_is)
    (case c11 => k_is)
    (case k11 => k_is)
    (case z1 => k_is)
    (case z2 => k_is)
    (case z3 => k_is)
    (case z4 => k_is)
    (case z5 => k_is)
    (case z6 => k_is)
    (case z7 => k_is)
    (case z8 => k_is)
