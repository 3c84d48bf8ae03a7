import PyProof.Rows.All
import Wide.All
import OpenK.AllK
import Wide.FinOn
import HandS.ForMost
import HandS.StrMore
import HandS.Zip
import HandS.NoneIn
import HandS.Wide
import HandS.Ends
import HandS.IsInst
import HandS.TupMul
import HandS.TupAny
import HandS.Style
import HandS.Evl
import PySem.Challenge.RW_braceloops_k01_rows_and_products_recogni
set_option Elab.async false
set_option linter.all false
set_option maxRecDepth 100000
/-! Rules of my own over the hand layer: ** of wide ints, text * int, repr of data, calls by keywords alone, and defs that need an empty list of guards. -/
namespace Bl
open PySem PySem.Spec PyProof.Rows L2

section
variable {X : Cx}
/-- ** of an int below 2 ^ 1000 by a small one -/
def CPowW (i j : Int) : Prop := (0 ≤ j ∧ j ≤ 1000) ∧ i.natAbs < 2 ^ 1000
theorem bits_pow {i j : Int} (h : CPowW i j) : (Builtin.Int.intBits i : Int) * j ≤ 2 ^ 27 := by
  obtain ⟨⟨h0, h1⟩, h2⟩ := h
  have hb : Builtin.Int.intBits i ≤ 1000 := by
    have e := PySem.Flt.log2_lt_of (n := i.natAbs) (k := 1000) (by decide) h2
    unfold Builtin.Int.intBits
    split <;> omega
  have q : (Builtin.Int.intBits i : Int) * j ≤ 1000 * j := Int.mul_le_mul_of_nonneg_right (by omega) h0
  omega
theorem op_powW : OpR X (binaryOp .Pow) (rI CPowW fun i j => .int (i ^ j.toNat)) :=
  opI fun _ _ _ _ _ _ _ hc q => pow_int hc.1.1 (bits_pow hc) q

/-- text * int -/
def rMulS : R2 := fun x y H Q => ∃ (z : Str) (n : Int), x = .str z ∧ y = .int n ∧ 0 ≤ n ∧ n ≤ 16777216 ∧ z.length * n.toNat ≤ sizeLine ∧ Q (.str (Txt.mul z n)) H
theorem mulOk_of {z : Str} {n : Int} (h0 : 0 ≤ n) (h1 : n ≤ 16777216) (hz : z.length * n.toNat ≤ sizeLine) : MulOk z n := by
  have hs : sizeLine = 16777216 := sizeLine_eq
  refine ⟨?_, fun a b c => ?_, fun a b => ?_⟩
  · rw [decide_eq_false (by omega), decide_eq_false (by omega)]
    rfl
  · have hn : 0 < n := by omega
    have hle : (z.length : Int) * n ≤ 16777216 := by
      have e : ((z.length * n.toNat : Nat) : Int) = (z.length : Int) * n := by
        rw [Int.natCast_mul, Int.toNat_of_nonneg h0]
      omega
    have hq : (z.length : Int) ≤ (2 ^ 63 - 1) / n := (Int.le_ediv_iff_mul_le hn).mpr (by omega)
    omega
  · unfold Builtin.Str.tooLong
    exact decide_eq_false (by omega)
theorem op_mulS : OpR X (binaryOp .Mult) rMulS := by
  intro pins s σ H x y v u Q I rx ry h
  obtain ⟨z, n, rfl, rfl, h0, h1, hz, q⟩ := h
  obtain ⟨t, rfl⟩ := rx
  obtain ⟨t', rfl⟩ := ry
  exact SB.mul (mulOk_of h0 h1 hz) fun t1 k => ⟨.str (Txt.mul z n), H, I.tok k, ⟨_, rfl⟩, q⟩

/-- repr of data -/
def rRepr (K : PySem.W.Frag) : List V → Hp → VK → Prop := fun xs H Q => ∃ (a : Addr) (d : PyData), xs = [.ref a] ∧ Dp K H (.ref a) d ∧ d.showable = true ∧ d.hasDict = false ∧ d.depth ≤ 40 ∧ d.shown.length ≤ sizeLine ∧ Q (.str d.shown) H
theorem call_repr (hg : X.A.guards = some []) (hu : X.A.units + 64 < cLine) : CallR X (.builtin "repr") (rRepr X.K) := by
  intro pins s σ H xs us Q I r h
  obtain ⟨a, d, rfl, hd, hs, hn, hdp, hz, q⟩ := h
  obtain ⟨u, rfl, ru⟩ := vals1 r
  obtain ⟨as, rd⟩ := Dp.reads I d (.ref a) u hd ru
  cases ru
  refine repr_of_reads' rd hs (PyData.noDict_hsm hn) hg (by omega) (fun _ _ z => z) (fun h' w tk k => ?_) hz
  exact ⟨.str d.shown, H, I.kept (t' := tk) k, ⟨_, rfl⟩, q⟩
end

/-! ### f(k = v, ..) without positional arguments -/
section
variable {X : Cx} {CX : CXT} {k : Nat} {f : Addr} {fd : FuncData} {ps ks : List Str} {sp : Sp} {E : XK} {x : Str} {p pos : Pos} {kws : List Keyword} {tk : TA} {g : List Value → List Value → List Value} {gV : List V → List V → List V}
def tCallK0 (sp : Sp) (gV : List V → List V → List V) (E : XK) (tk : TA) : TE := fun σ H Q => tk σ H fun zs H2 => sp (gV [] zs) H2 Q E
theorem pe_callK0 (F : FnOk X.prog X.w X.K X.mg X.base CX k f fd ps sp) (hr : Room k X.A) (hgl : Gl X x) (hm : X.mg x = some (.ref f)) (hk : PySem.W.keepIn X.K (.ref f) = true) (hb : KBinds X.K fd ps ks g gV) (hx : Passes CX X E) (hkw : PK X kws tk)
    (hall : (backToKw pos (keywordEach kws X.env)).all (·.1.isSome) = true := by rfl) (hks : (backToKw pos (keywordEach kws X.env)).filterMap (·.1) = ks := by rfl) (hdb : (x == ("__debug__" : Str)) = false := by decide)
    (hpl : ((backTo pos (starEach [] X.env)).any (·.1) || (backToKw pos (keywordEach kws X.env)).any (·.1.isNone)) = false := by rfl) :
    PE X (.Call (.Name x p) [] kws pos) (tCallK0 sp gV E tk) := by
  constructor
  intro pins s σ H Q I h
  apply wpAny_Call_Name_kw
  apply ld_glob I hgl hm _ hdb
  refine PySem.W.callWith_KW0 (h₀ := X.base) I.ok.mod.kin hk hall ?_ hpl
  refine thn (hkw.run pos pins s σ H _ I h) fun ws s2 z => ?_
  obtain ⟨zs, H2, I2, rz, q2⟩ := z
  refine ⟨I2.kIn, ?_⟩
  rw [hks]
  exact run_fnk (us := []) F hr hb hx I2 .nil rz q2
end

/-! ### defs that ask that no repr is under way -/
structure FnG (P : Program) (w : World) (K : PySem.W.Frag) (mg : Str → Option Value) (base : Heap) (CX : CXT) (k : Nat) (f : Addr) (fd : FuncData) (ps : List Str) (sp : Sp) : Prop where
  lenG : ∀ vs H Q E, sp vs H Q E → vs.length = ps.length
  runG : ∀ (A : Around) (outer : List Env) (s : Shared) (H : Hp) (args : Args) (us : List Value) (vs : List V) (Q : VK) (E : XK), A.guards = some [] → Room k A → Env0 P w K mg base A outer s H →
    BindsTo s fd args (ps.zip us) → Vals vs us → sp vs H Q E → codeAny (model P w) A (.call (.ref f) args) (CR CX outer P w H s Q E) s
section
variable {X : Cx} {CX : CXT} {k : Nat} {f : Addr} {fd : FuncData} {ps : List Str} {sp : Sp} {E : XK} {x : Str} {p pos : Pos} {e : Expr} {es : List Expr} {t : TA}
theorem pe_callG (F : FnG X.prog X.w X.K X.mg X.base CX k f fd ps sp) (hgd : X.A.guards = some []) (hr : Room k X.A) (hgl : Gl X x) (hm : X.mg x = some (.ref f)) (hk : PySem.W.keepIn X.K (.ref f) = true) (hb : Binds X.K fd ps []) (hx : Passes CX X E) (ha : PA X (e :: es) t)
    (hdb : (x == ("__debug__" : Str)) = false := by decide) (he : starEach (e :: es) X.env = (false, eval e X.env) :: starEach es X.env := by rfl) (hpl : (backTo pos (starEach es X.env)).any (·.1) = false := by rfl) :
    PE X (.Call (.Name x p) (e :: es) [] pos) (tCall sp [] E t) := by
  constructor
  intro pins s σ H Q I h
  apply wpAny_Call_Name_kw
  apply ld_glob I hgl hm _ hdb
  refine PySem.W.callWith_K (h₀ := X.base) I.ok.mod.kin hk ?_ he hpl
  refine thn (ha.run pos pins s σ H _ I h) fun us s1 z => ?_
  obtain ⟨vs, H1, I1, r, q⟩ := z
  refine ⟨I1.kIn, ?_⟩
  rw [List.append_nil] at q
  have hl : (us ++ []).length = ps.length := by
    rw [List.append_nil, ← r.length]
    exact F.lenG _ _ _ _ q
  have hbt := hb s1 us I1.kIn hl
  rw [List.append_nil] at hbt
  refine wpAny_call (codeAny_mono (F.runG X.A X.stack s1 H1 ⟨us, []⟩ us vs Q E hgd hr I1.env0 hbt r q) ?_)
  intro res s2 hq
  match res, hq with
  | .error ex, hq => exact hx pins σ H1 s1 ex s2 I1 hq
  | .ok (.ret v), hq => exact I1.after hq
  | .ok .next, hq => exact False.elim hq
  | .ok .brk, hq => exact False.elim hq
  | .ok .cont, hq => exact False.elim hq
end
section
variable {P : Program} {w : World} {K : PySem.W.Frag} {mg : Str → Option Value} {base : Heap}
/-- a def's promise by its body, the guards known to be none -/
theorem okG {x qual : Str} {st : Stmt} {f : Addr} {fd : FuncData} {N ps : List Str} {k : Nat} {sp : Sp} (F : Fun K x qual st f fd) (S : FnScope N ps (defScope st)) (len : ∀ vs H Q E, sp vs H Q E → vs.length = ps.length)
    (hbody : ∀ (cdv : Value) (A : Around) (outer : List Env) (s : Shared) (H : Hp) (vs : List V) (Q : VK) (E : XK), A.guards = some [] → Room k (A.deeper (envOfC qual (defScope st) s.heap.objs.size f cdv)) → sp vs H Q E →
      ∃ t, PSs (cxOf CX0 P w K mg base N qual (defScope st) f cdv A outer s H E).nox (defBody st) t ∧ t { nx := fun _ H' => Q .non H', rt := Q } (start N vs) H) : FnG P w K mg base CX0 (k + 1) f fd ps sp := by
  obtain ⟨oc, od, kV, doc, pm, an, cdv, ct, osl, rfl, lk, hcd⟩ := F.ex
  constructor
  · exact len
  intro A outer s H args us vs Q E hgd hr e0 hb r hsp
  have hlen := len _ _ _ _ hsp
  have KX : K.In s.heap := e0.mod.kin.keeps fun b o z => (e0.bs b o z).1
  have nolim : s.heap.NoLimit := e0.mod.nolimit.keeps fun b o z => (e0.bs b o z).1
  have kinds : ∀ y ∈ ps.zip us, (defScope st).names.lookup y.1 = some .local ∨ ((defScope st).names.lookup y.1 = some .cell ∧ ((cellsFrom (s.heap.objs.size + 1) (defScope st).names []).lookup y.1).isSome = true) := by
    intro y hy
    cases S.par y.1 (List.of_mem_zip hy).1 with
    | inl z => exact Or.inl z
    | inr z => exact Or.inr ⟨z, PySem.W.cellsFrom_some _ _ _ (Or.inl z)⟩
  apply codeAny_call_function hr.depth (KX _ _ lk) rfl S.co S.gen rfl (PySem.W.codeRec_of KX hcd)
  apply hb
  apply wpAny_newFunctionEnv_cells S.kind kinds
  intro env henv s1 inC
  subst henv
  refine ⟨nolim.keeps inC.toInCall.keep, ?_⟩
  apply codeAny_func
  obtain ⟨t, ht, hq⟩ := hbody cdv A outer s H vs Q E hgd (hr.deeper _) hsp
  have I := inv_start (CX := CX0) (E := E) S hr.hd e0 hlen r inC
  refine wpAny_mono (ht.nox.run [] s1 (start N vs) H _ I hq) ?_ (fun _ _ z => z)
  intro fl s2 hs
  match fl, hs with
  | .ret u, ⟨v, σ2, H2, J, rv, q⟩ => exact ⟨v, H2, J.os, J.bare, J.base, J.hok, rv, q⟩
  | .next, ⟨σ2, H2, J, q⟩ => exact ⟨V.non, H2, J.os, J.bare, J.base, J.hok, rfl, q⟩
  | .brk, ⟨_, _, _, q⟩ => exact False.elim q
  | .cont, ⟨_, _, _, q⟩ => exact False.elim q
end
end Bl
/-! Texts of letters, their common beginnings and what is left behind them. -/
namespace Bl
open PySem PySem.Spec PyProof.Rows L2 TL

/-- letters a to z -/
def Lets (x : Str) : Prop := ∀ c ∈ tl x, 97 ≤ c ∧ c ≤ 122
theorem Lets.app {x y : Str} (h : Lets x) (k : Lets y) : Lets (x ++ y) := fun c hc => by
  rw [tl_append] at hc
  rcases List.mem_append.mp hc with z | z
  · exact h c z
  · exact k c z
theorem Lets.nil : Lets ("" : Str) := fun c hc => by
  have e : tl ("" : Str) = [] := rfl
  rw [e] at hc
  cases hc
def lcp : List Nat → List Nat → Nat
  | a :: r, b :: s => if a = b then lcp r s + 1 else 0
  | _, _ => 0
theorem lcp_nil (l : List Nat) : lcp l [] = 0 := by cases l <;> rfl
theorem lcp_nil' (l : List Nat) : lcp [] l = 0 := by cases l <;> rfl
theorem lcp_cons (a b : Nat) (r s : List Nat) : lcp (a :: r) (b :: s) = if a = b then lcp r s + 1 else 0 := rfl
theorem lcp_comm : ∀ l m : List Nat, lcp l m = lcp m l
  | [], m => by rw [lcp_nil, lcp_nil']
  | a :: r, [] => by rw [lcp_nil, lcp_nil']
  | a :: r, b :: s => by
    rw [lcp_cons, lcp_cons, lcp_comm r s]
    by_cases e : a = b
    · rw [if_pos e, if_pos e.symm]
    · rw [if_neg e, if_neg (Ne.symm e)]
theorem lcp_le : ∀ l m : List Nat, lcp l m ≤ l.length ∧ lcp l m ≤ m.length
  | [], m => by rw [lcp_nil']; exact ⟨Nat.zero_le _, Nat.zero_le _⟩
  | a :: r, [] => by rw [lcp_nil]; exact ⟨Nat.zero_le _, Nat.zero_le _⟩
  | a :: r, b :: s => by
    have ih := lcp_le r s
    rw [lcp_cons, List.length_cons, List.length_cons]
    by_cases e : a = b
    · rw [if_pos e]; omega
    · rw [if_neg e]; omega
theorem lcp_app : ∀ p l m : List Nat, lcp (p ++ l) (p ++ m) = p.length + lcp l m
  | [], l, m => by simp
  | a :: p, l, m => by
    show lcp (a :: (p ++ l)) (a :: (p ++ m)) = _
    rw [lcp_cons, if_pos rfl, lcp_app p l m, List.length_cons]
    omega
theorem lcp_drop : ∀ l m : List Nat, lcp (l.drop (lcp l m)) (m.drop (lcp l m)) = 0
  | [], m => by rw [lcp_nil']; simp [lcp_nil']
  | a :: r, [] => by rw [lcp_nil]; simp [lcp_nil]
  | a :: r, b :: s => by
    by_cases e : a = b
    · subst e
      rw [lcp_cons, if_pos rfl, List.drop_succ_cons, List.drop_succ_cons]
      exact lcp_drop r s
    · have h : lcp (a :: r) (b :: s) = 0 := by rw [lcp_cons, if_neg e]
      rw [h, List.drop_zero, List.drop_zero, h]
/-- a common beginning of k letters -/
theorem lcp_take : ∀ (k : Nat) (l m : List Nat), k ≤ l.length → k ≤ m.length → (l.take k = m.take k ↔ k ≤ lcp l m)
  | 0, l, m, _, _ => by simp
  | k + 1, [], m, h, _ => by simp at h
  | k + 1, a :: r, [], _, h => by simp at h
  | k + 1, a :: r, b :: s, h, h' => by
    have ih := lcp_take k r s (by simpa using h) (by simpa using h')
    rw [lcp_cons, List.take_succ_cons, List.take_succ_cons, List.cons.injEq]
    by_cases e : a = b
    · rw [if_pos e, ih]
      omega
    · rw [if_neg e]
      constructor
      · rintro ⟨z, _⟩
        exact absurd z e
      · omega
/-- the letter at the common beginning's end -/
theorem lcp_at : ∀ (l m : List Nat) (k : Nat), k ≤ lcp l m → k < l.length → k < m.length → (l[k]? = m[k]? ↔ k < lcp l m)
  | [], m, k, _, h, _ => by simp at h
  | a :: r, [], k, _, _, h => by simp at h
  | a :: r, b :: s, 0, _, _, _ => by
    rw [lcp_cons]
    by_cases e : a = b
    · simp [e]
    · simp [e]
  | a :: r, b :: s, k + 1, h, h1, h2 => by
    rw [lcp_cons] at h ⊢
    by_cases e : a = b
    · rw [if_pos e] at h ⊢
      have ih := lcp_at r s k (by omega) (by simpa using h1) (by simpa using h2)
      simp only [List.getElem?_cons_succ]
      rw [ih]
      omega
    · rw [if_neg e] at h
      omega

def dropS (x : Str) (n : Nat) : Str := ⟨((tl x).drop n).toArray⟩
def takeS (x : Str) (n : Nat) : Str := ⟨((tl x).take n).toArray⟩
theorem tl_dropS (x : Str) (n : Nat) : tl (dropS x n) = (tl x).drop n := rfl
theorem tl_takeS (x : Str) (n : Nat) : tl (takeS x n) = (tl x).take n := rfl
theorem cut_from (x : Str) (n : Nat) : cutS x (some (n : Int)) none = dropS x n := by
  apply ext_tl
  show (((tl x).drop (HT.sIx x.length 0 (some (n : Int)))).take (x.length - HT.sIx x.length 0 (some (n : Int)))) = (tl x).drop n
  have hl := len_tl x
  rw [HT.sIx_nat]
  by_cases h : n ≤ x.length
  · rw [Nat.min_eq_left h]
    exact List.take_of_length_le (by rw [List.length_drop]; omega)
  · rw [Nat.min_eq_right (by omega), List.drop_of_length_le (l := tl x) (i := n) (by omega), List.drop_of_length_le (by omega)]
    simp
theorem cut_to (x : Str) (n : Nat) : cutS x none (some (n : Int)) = takeS x n := by
  apply ext_tl
  show (((tl x).drop 0).take (HT.sIx x.length x.length (some (n : Int)) - 0)) = (tl x).take n
  have hl := len_tl x
  rw [HT.sIx_nat, List.drop_zero, Nat.sub_zero]
  by_cases h : n ≤ x.length
  · rw [Nat.min_eq_left h]
  · rw [Nat.min_eq_right (by omega), List.take_of_length_le (by omega), List.take_of_length_le (by omega)]
/-- what is left of both behind the common beginning -/
def common (x y : Str) : Nat := lcp (tl x) (tl y)
def restL (x y : Str) : Str := dropS x (common x y)
def restR (x y : Str) : Str := dropS y (common x y)
theorem rest_swap (x y : Str) : restL y x = restR x y ∧ restR y x = restL x y := by
  unfold restL restR common
  rw [lcp_comm (tl y) (tl x)]
  exact ⟨rfl, rfl⟩
theorem rest_app (b x y : Str) : restL (b ++ x) (b ++ y) = restL x y ∧ restR (b ++ x) (b ++ y) = restR x y := by
  have e : common (b ++ x) (b ++ y) = (tl b).length + common x y := by
    unfold common
    rw [tl_append, tl_append, lcp_app]
  refine ⟨ext_tl ?_, ext_tl ?_⟩
  · show (tl (b ++ x)).drop (common (b ++ x) (b ++ y)) = (tl x).drop (common x y)
    rw [e, tl_append, ← List.drop_drop, List.drop_left]
  · show (tl (b ++ y)).drop (common (b ++ x) (b ++ y)) = (tl y).drop (common x y)
    rw [e, tl_append, ← List.drop_drop, List.drop_left]
theorem dropS_zero (x : Str) : dropS x 0 = x := ext_tl rfl
theorem rest_again (x y : Str) : restL (restL x y) (restR x y) = restL x y ∧ restR (restL x y) (restR x y) = restR x y := by
  have e : common (restL x y) (restR x y) = 0 := lcp_drop (tl x) (tl y)
  have e1 : restL (restL x y) (restR x y) = dropS (restL x y) (common (restL x y) (restR x y)) := rfl
  have e2 : restR (restL x y) (restR x y) = dropS (restR x y) (common (restL x y) (restR x y)) := rfl
  rw [e1, e2, e, dropS_zero, dropS_zero]
  exact ⟨rfl, rfl⟩
theorem rest_front (f m : Str) : restL f (f ++ m) = ("" : Str) ∧ restR f (f ++ m) = m := by
  have e : common f (f ++ m) = (tl f).length := by
    unfold common
    have h := lcp_app (tl f) [] (tl m)
    rw [List.append_nil, lcp_nil', Nat.add_zero, ← tl_append] at h
    exact h
  refine ⟨ext_tl ?_, ext_tl ?_⟩
  · show (tl f).drop (common f (f ++ m)) = []
    rw [e]
    exact List.drop_length
  · show (tl (f ++ m)).drop (common f (f ++ m)) = tl m
    rw [e, tl_append, List.drop_left]
theorem lets_drop {x : Str} (h : Lets x) (n : Nat) : Lets (dropS x n) := fun c hc => h c (List.mem_of_mem_drop hc)
theorem len_app (x y : Str) : (x ++ y).length = x.length + y.length := by
  rw [len_tl, tl_append, List.length_append, ← len_tl, ← len_tl]
theorem len_drop (x : Str) (n : Nat) : (dropS x n).length ≤ x.length := by
  rw [len_tl, tl_dropS, List.length_drop, ← len_tl]
  omega
theorem common_le (x y : Str) : common x y ≤ x.length ∧ common x y ≤ y.length := by
  rw [len_tl x, len_tl y]
  exact lcp_le _ _
/-! ### text * int -/
theorem tl_mul (x : Str) (n : Nat) : tl (Txt.mul x (n : Int)) = (List.replicate n (tl x)).flatten := by
  have fold : ∀ (k : Nat) (acc : Array Nat), (List.foldl (fun x1 x2 => x1 ++ x2) acc (List.replicate k x.cps)).toList = acc.toList ++ (List.replicate k (tl x)).flatten := by
    intro k
    induction k with
    | zero => intro acc; simp
    | succ k ih =>
      intro acc
      rw [List.replicate_succ, List.foldl_cons, ih, List.replicate_succ, List.flatten_cons, Array.toList_append, List.append_assoc]
  unfold Txt.mul
  by_cases h : (n : Int) < 1
  · have hn : n = 0 := by omega
    rw [if_pos h, hn]
    rfl
  · rw [if_neg h]
    by_cases c : ((n : Int) == 1 || x.length == 0) = true
    · rw [if_pos c]
      rcases Bool.or_eq_true _ _ ▸ c with z | z
      · have hn : n = 1 := by
          have := beq_iff_eq.mp z
          omega
        rw [hn]
        simp
      · have hx : tl x = [] := List.eq_nil_of_length_eq_zero (by rw [← len_tl]; exact beq_iff_eq.mp z)
        rw [hx]
        clear fold h c
        induction n with
        | zero => rfl
        | succ n ih => rw [List.replicate_succ, List.flatten_cons, ← ih]; rfl
    · rw [if_neg c]
      show (List.foldl (fun x1 x2 => x1 ++ x2) #[] (List.replicate (n : Int).toNat x.cps)).toList = _
      rw [Int.toNat_natCast, fold]
      simp
theorem len_mul (x : Str) (n : Nat) : (Txt.mul x (n : Int)).length = n * x.length := by
  rw [len_tl, tl_mul, List.length_flatten, List.map_replicate, List.sum_replicate_nat, ← len_tl]
theorem lets_mul {x : Str} (h : Lets x) (n : Nat) : Lets (Txt.mul x (n : Int)) := fun c hc => by
  rw [tl_mul, List.mem_flatten] at hc
  obtain ⟨l, hl, hc⟩ := hc
  rw [(List.mem_replicate.mp hl).2] at hc
  exact h c hc
/-! ### what isalpha, islower and isascii say of letters -/
theorem uni_tab : ∀ k < 26, (Unicode.isAlpha (97 + k) && Unicode.isLower (97 + k) && !(Unicode.isUpper (97 + k) || Unicode.isTitle (97 + k))) = true := by decide +kernel
theorem uni_of {c : Nat} (h : 97 ≤ c ∧ c ≤ 122) : Unicode.isAlpha c = true ∧ Unicode.isLower c = true ∧ (Unicode.isUpper c || Unicode.isTitle c) = false := by
  have e := uni_tab (c - 97) (by omega)
  rw [show 97 + (c - 97) = c by omega, Bool.and_eq_true, Bool.and_eq_true] at e
  refine ⟨e.1.1, e.1.2, ?_⟩
  have := e.2
  revert this
  cases (Unicode.isUpper c || Unicode.isTitle c) <;> simp
theorem word_tests {x : Str} (h : Lets x) : Txt.isascii x = true ∧ (x.length ≠ 0 → Txt.isalpha x = true ∧ Txt.islower x = true) := by
  have all : ∀ c ∈ x.cps.toList, 97 ≤ c ∧ c ≤ 122 := h
  refine ⟨?_, fun hx => ⟨?_, ?_⟩⟩
  · unfold Txt.isascii
    rw [← Array.all_toList, List.all_eq_true]
    intro c hc
    have := all c hc
    exact decide_eq_true (by omega)
  · unfold Txt.isalpha
    rw [Bool.and_eq_true]
    refine ⟨decide_eq_true (by omega), ?_⟩
    rw [← Array.all_toList, List.all_eq_true]
    intro c hc
    exact (uni_of (all c hc)).1
  · unfold Txt.islower
    rw [Bool.and_eq_true]
    constructor
    · rw [← Array.any_toList, List.any_eq_true]
      have hl := len_tl x
      cases e : tl x with
      | nil => rw [e] at hl; exact absurd hl hx
      | cons c r =>
        have hc : c ∈ x.cps.toList := by
          show c ∈ tl x
          rw [e]
          exact List.mem_cons_self
        exact ⟨c, hc, (uni_of (all c hc)).2.1⟩
    · rw [Bool.not_eq_true', ← Array.any_toList, List.any_eq_false]
      intro c hc
      rw [(uni_of (all c hc)).2.2]
      decide
/-! ### how long a repr may come -/
theorem lets_small {x : Str} (h : Lets x) : ∀ c ∈ x.cps.toList, c < 16 ^ 8 := fun c hc => by
  have := h c hc
  have e : (16 : Nat) ^ 8 = 4294967296 := by decide
  omega
theorem repr_len {x : Str} (h : Lets x) : (reprText x).length ≤ 10 * x.length + 2 := StrLaws.reprText_len x (lets_small h)
end Bl
namespace Bl
open PySem PySem.Spec PyProof.Rows L2

/-- an abstract heap in which at most the script stands, locked -/
structure Scr (P : Program) (w : World) (K : PySem.W.Frag) (h : Heap) (a : Addr) (H : Hp) : Prop where
  hok : HOk P w H h
  at_a : ∀ b, H b ≠ none → b = a
  free : H a ≠ none → K.lookup a = none
  frz : ∀ b u, H b = some u → ∃ o xs, u = .frz o (.lst xs)

theorem scr_end {P : Program} {w : World} {K : PySem.W.Frag} {mg mb : Str → Option Value} {k : Nat} {fa a : Addr} {fd : FuncData} {x : Str} {sp : Sp} {s1 : Shared} {vs : List Value} {H : Hp}
    (KX : K.In s1.heap) (ns0 : s1.heap.Ns mainGlobals mg) (nb : s1.heap.Ns builtinsNs mb) (nbb : ∀ y : Str, y ≠ "__name__" → mb y = bootBuiltins y) (lim : s1.heap.NoLimit) (g0 : s1.gens = #[])
    (ha : s1.heap.get? a = some { cls := .type "list", data := .seq vs.toArray }) (hr : Room k callerA) (S : Scr P w K s1.heap a H)
    (F : ∀ base : Heap, K.In base → base.Ns mainGlobals mg → FnG P w K mg base CX0 k fa fd [x] sp) (hbind : ∀ (s : Shared) (u : Value), BindsTo s fd ⟨[u], []⟩ [(x, u)])
    (hsp : sp [.ref a] H (fun v _ => v = .bl true) fun _ _ _ => False) :
    codeAny (model P w) callerA (.call (.ref fa) ⟨[.ref a], []⟩) (fun r s' => r = .ok (.ret (.bool true)) ∧ PySem.OldK s1.heap s'.heap ∧ s'.os = s1.os ∧ AllBare s'.gens) s1 := by
  -- no namespace is the script
  have dictFree : ∀ {b : Addr} {o : Obj} {es : Array DictEntry} {ep : Nat}, s1.heap.get? b = some o → o.data = .dict es ep → H b = none := by
    intro b o es ep e d
    apply Classical.byContradiction
    intro z
    have eb := S.at_a b z
    rw [eb, ha] at e
    injection e with e
    rw [← e] at d
    exact absurd d (by simp)
  have nsKept : ∀ {b : Addr} {m : Str → Option Value}, s1.heap.Ns b m → (hidT s1.heap H).Ns b m := by
    intro b m n
    obtain ⟨o, es, ep, e, d, r⟩ := n
    exact ⟨o, es, ep, hidT_get e (dictFree e d), d, r⟩
  have kin : K.In (hidT s1.heap H) := by
    intro b o e
    refine hidT_get (KX b o e) ?_
    apply Classical.byContradiction
    intro z
    have eb := S.at_a b z
    subst eb
    rw [S.free z] at e
    cases e
  obtain ⟨mc, l1, l2⟩ := lim
  have md : Mod K mg (hidT s1.heap H) := ⟨kin, nsKept ns0, ⟨mb, nsKept nb, nbb⟩, ⟨mc, nsKept l1, l2⟩⟩
  have env : Env0 P w K mg (hidT s1.heap H) callerA [] s1 H := by
    refine ⟨rfl, md, fun b o e => of_hidT e, Nat.le_of_eq (hidT_size _ _), trivial, ?_, S.hok, .of_eq g0⟩
    intro b hb
    exact absurd hb (List.not_mem_nil)
  have run := (F _ kin (nsKept ns0)).runG callerA [] s1 H ⟨[.ref a], []⟩ [.ref a] [.ref a] _ _ rfl hr env (hbind s1 (.ref a)) (.cons rfl .nil) hsp
  refine codeAny_mono run ?_
  intro r s2 h
  match r, h with
  | .error e, h => exact False.elim h
  | .ok .next, h => exact False.elim h
  | .ok .brk, h => exact False.elim h
  | .ok .cont, h => exact False.elim h
  | .ok (.ret u), ⟨v, H2, os, bare, un, hok2, rv, q⟩ =>
    have q : v = .bl true := q
    subst q
    have rv : u = Value.bool true := rv
    subst rv
    refine ⟨rfl, PySem.OldK.of_keep ?_, os, bare⟩
    intro b o e
    by_cases z : H b = none
    · exact un.keep b o e z List.not_mem_nil List.not_mem_nil
    · obtain ⟨u, hu⟩ := Option.ne_none_iff_exists'.mp z
      obtain ⟨ob, xs, rfl⟩ := S.frz b u hu
      have k1 := (S.hok b _ hu).1
      have k2 := (hok2 b _ (un.frzs b ob _ hu)).1
      rw [e] at k1
      rw [Option.some.inj k1]
      exact k2

theorem walkG {l : PySem.W.OpenLaw} {n k : Nat} {q : Program} {loose : List Str} {XP : (Str → Option Value) → Heap → Prop} {YP : World → Heap → Prop} {d : DefRec} {K : Params → PySem.W.Frag} {sp : PySem.W.Frag → Sp} {x : Str}
    (hn : l.most = some n) (hn2 : n ≤ sizeLine) (hdf : d.params.defaults = []) (hr : Room k callerA)
    (hY : ∀ (w : World) (h : Heap), YP w h → (K w.params).In h)
    (F : ∀ (w : World) (mg : Str → Option Value) (fa : Addr) (h : Heap), (K w.params).In h → h.Ns mainGlobals mg → mg d.name = some (.ref fa) →
      ∃ fd : FuncData, (∀ (s : Shared) (u : Value), BindsTo s fd ⟨[u], []⟩ [(x, u)]) ∧ ∀ base : Heap, (K w.params).In base → base.Ns mainGlobals mg → FnG l.prog w (K w.params) mg base CX0 k fa fd [x] (sp (K w.params)))
    (hsp : ∀ (K : PySem.W.Frag) (H : Hp) (a : Addr) (ns : List Int), ns.length ≤ n → SqL K H a (ns.map V.int) → sp K [.ref a] H (fun v _ => v = .bl true) fun _ _ _ => False) :
    PySem.W.WalkO q loose XP YP l.row.toRowW d [] (fun f vs => PySem.call f vs) := by
  apply Att.attach_call hn hdf
  intro w s0 s1 mg mb fa o pm cd doc a vs ns G Y ho hd hcd hmg hobj hints hlen hg
  have KX := hY w _ Y
  have rv := vals_ints hints
  have le := hints.length
  have sz : (ns.map V.int).length ≤ sizeLine := by
    rw [List.length_map]
    exact Nat.le_trans hlen hn2
  obtain ⟨fd, hb, hF⟩ := F w mg fa _ KX G.T.g hmg
  cases hk : (K w.params).lookup a with
  | some o1 =>
    have e := KX a o1 hk
    rw [hobj] at e
    injection e with e
    subst e
    refine scr_end (H := fun _ => none) KX G.T.g G.T.b G.T.builtins G.T.nolimit hg hobj hr ⟨?_, fun b z => absurd rfl z, fun z => absurd rfl z, fun b u z => by cases z⟩ hF hb (hsp _ _ a ns hlen ?_)
    · intro b u z
      cases z
    · refine Or.inr ⟨_, vs.toArray, _, hk, rfl, rfl, rfl, ?_, ?_⟩
      · rw [List.size_toArray, le]
        exact Nat.le_trans hlen hn2
      · rw [List.toList_toArray]
        exact rv
  | none =>
    have own : ∀ b u, (fun b => if b = a then some (HO.frz { cls := .type "list", data := .seq vs.toArray } (.lst (ns.map V.int))) else none) b = some u → b = a ∧ u = .frz { cls := .type "list", data := .seq vs.toArray } (.lst (ns.map V.int)) := by
      intro b u z
      by_cases hba : b = a
      · refine ⟨hba, ?_⟩
        have z2 : (if b = a then some (HO.frz { cls := .type "list", data := .seq vs.toArray } (.lst (ns.map V.int))) else none) = some u := z
        rw [if_pos hba] at z2
        exact (Option.some.inj z2).symm
      · have z2 : (if b = a then some (HO.frz { cls := .type "list", data := .seq vs.toArray } (.lst (ns.map V.int))) else none) = some u := z
        rw [if_neg hba] at z2
        cases z2
    refine scr_end (H := fun b => if b = a then some (.frz { cls := .type "list", data := .seq vs.toArray } (.lst (ns.map V.int))) else none) KX G.T.g G.T.b G.T.builtins G.T.nolimit hg hobj hr ⟨?_, ?_, fun _ => hk, ?_⟩ hF hb (hsp _ _ a ns hlen ?_)
    · intro b u z
      obtain ⟨rfl, rfl⟩ := own b u z
      exact ⟨hobj, sz, vs, _, rv, hobj⟩
    · intro b z
      obtain ⟨u, hu⟩ := Option.ne_none_iff_exists'.mp z
      exact (own b u hu).1
    · intro b u z
      exact ⟨_, _, (own b u z).2⟩
    · exact Or.inl (Or.inr ⟨_, if_pos rfl⟩)
end Bl
/-! Data with tuples and an empty dict, what it is for isinstance, its repr; further rules. -/
namespace Bl
open PySem PySem.Spec PyProof.Rows L2 TL

/-! ### data of tuples and the empty dict -/
mutual
inductive Rt (K : PySem.W.Frag) (H : Hp) : V → PyData → Prop
  | non : Rt K H .non .none
  | bl (b : Bool) : Rt K H (.bl b) (.bool b)
  | int (i : Int) : Rt K H (.int i) (.int i)
  | str (x : Str) : Rt K H (.str x) (.str x)
  | tup {a : Addr} {xs : List V} {ds : List PyData} : SqT K H a xs → RtAll K H xs ds → Rt K H (.ref a) (.tuple ds)
  | emp {a : Addr} : H a = some (.dK []) → Rt K H (.ref a) (.dict [])
inductive RtAll (K : PySem.W.Frag) (H : Hp) : List V → List PyData → Prop
  | nil : RtAll K H [] []
  | cons {v : V} {vs : List V} {d : PyData} {ds : List PyData} : Rt K H v d → RtAll K H vs ds → RtAll K H (v :: vs) (d :: ds)
end
section
variable {X : Cx} {pins : List (Addr × Obj)} {σ : L2.St} {H : Hp} {s : Shared}
mutual
theorem Rt.reads (I : Inv X pins σ H s) : ∀ (d : PyData) (v : V) (u : Value), Rt X.K H v d → RelV v u → ∃ as, Reads s.heap u d as ∧ sysModules ∉ as
  | .none, _, _, h, r => by
    cases h; cases r
    exact ⟨_, .none, List.not_mem_nil⟩
  | .bool b, _, _, h, r => by
    cases h; cases r
    exact ⟨_, .bool b, List.not_mem_nil⟩
  | .int i, _, _, h, r => by
    cases h
    obtain ⟨t, rfl⟩ := r
    exact ⟨_, .int i t, List.not_mem_nil⟩
  | .str x, _, _, h, r => by
    cases h
    obtain ⟨t, rfl⟩ := r
    exact ⟨_, .str x t, List.not_mem_nil⟩
  | .list _, _, _, h, _ => by cases h
  | .tuple ds, _, _, h, r => by
    cases h with
    | tup hq ha =>
      cases r
      have z := I.tuple hq
      obtain ⟨its, rv, q, _⟩ := z
      obtain ⟨o, ho, hc, n, hd⟩ := q
      obtain ⟨as, hr, hn⟩ := Rt.readsAll I ds _ its ha rv
      exact ⟨as, .tuple ho hc hd hr, hn⟩
  | .dict kvs, _, _, h, r => by
    cases h with
    | @emp a e =>
      cases r
      have z : ([] : List (Key × V)).length ≤ sizeLine ∧ (a == sysModules) = false ∧ ∃ vs, KV ([] : List (Key × V)) vs ∧ s.heap.DictOf (mixKind X.prog X.w) a vs := I.hok a _ e
      obtain ⟨_, hne, vs, kv, D⟩ := z
      cases kv
      obtain ⟨o, es, ep, e1, e2, e3, _, e4, _⟩ := D
      have hes : es.toList = [] := by
        cases es with
        | mk l =>
          cases l with
          | nil => rfl
          | cons x r => cases e4
      refine ⟨_, .dict (kvs := []) e1 e2.1 e3 (as := []) (bs := []) ?_ ?_, ?_⟩
      · rw [hes]
        exact .nil
      · rw [hes]
        exact .nil
      · intro hm
        have hm : sysModules = a := by simpa using hm
        rw [hm] at hne
        simp at hne
theorem Rt.readsAll (I : Inv X pins σ H s) : ∀ (ds : List PyData) (vs : List V) (us : List Value), RtAll X.K H vs ds → Vals vs us → ∃ as, ReadsAll s.heap us ds as ∧ sysModules ∉ as
  | [], _, _, h, r => by
    cases h; cases r
    exact ⟨_, .nil, List.not_mem_nil⟩
  | d :: ds, _, _, h, r => by
    cases h with
    | cons h1 h2 =>
      cases r with
      | cons r1 r2 =>
        obtain ⟨as, q1, n1⟩ := Rt.reads I d _ _ h1 r1
        obtain ⟨bs, q2, n2⟩ := Rt.readsAll I ds _ _ h2 r2
        exact ⟨as ++ bs, .cons q1 q2, fun hm => (List.mem_append.mp hm).elim n1 n2⟩
end
end

/-- data of either kind -/
def Gd (K : PySem.W.Frag) (H : Hp) (v : V) (d : PyData) : Prop := Dp K H v d ∨ Rt K H v d
def GdAll (K : PySem.W.Frag) (H : Hp) (vs : List V) (ds : List PyData) : Prop := DpAll K H vs ds ∨ RtAll K H vs ds
theorem dpAll_at {K : PySem.W.Frag} {H : Hp} : ∀ {vs : List V} {ds : List PyData}, DpAll K H vs ds → ∀ (i : Nat) (v : V), vs[i]? = some v → ∃ d, ds[i]? = some d ∧ Dp K H v d
  | _, _, .nil, i, v, h => by simp at h
  | _, _, .cons r q, 0, v, h => by
    simp at h
    subst h
    exact ⟨_, rfl, r⟩
  | _, _, .cons r q, i + 1, v, h => by
    obtain ⟨d, h1, h2⟩ := dpAll_at q i v (by simpa using h)
    exact ⟨d, by simpa using h1, h2⟩
theorem rtAll_at {K : PySem.W.Frag} {H : Hp} : ∀ {vs : List V} {ds : List PyData}, RtAll K H vs ds → ∀ (i : Nat) (v : V), vs[i]? = some v → ∃ d, ds[i]? = some d ∧ Rt K H v d
  | _, _, .nil, i, v, h => by simp at h
  | _, _, .cons r q, 0, v, h => by
    simp at h
    subst h
    exact ⟨_, rfl, r⟩
  | _, _, .cons r q, i + 1, v, h => by
    obtain ⟨d, h1, h2⟩ := rtAll_at q i v (by simpa using h)
    exact ⟨d, by simpa using h1, h2⟩
theorem GdAll.at {K : PySem.W.Frag} {H : Hp} {vs : List V} {ds : List PyData} (h : GdAll K H vs ds) {i : Nat} {v : V} (e : vs[i]? = some v) : ∃ d, ds[i]? = some d ∧ Gd K H v d := by
  rcases h with h | h
  · obtain ⟨d, h1, h2⟩ := dpAll_at h i v e
    exact ⟨d, h1, .inl h2⟩
  · obtain ⟨d, h1, h2⟩ := rtAll_at h i v e
    exact ⟨d, h1, .inr h2⟩
theorem dpAll_len {K : PySem.W.Frag} {H : Hp} : ∀ {vs : List V} {ds : List PyData}, DpAll K H vs ds → vs.length = ds.length
  | _, _, .nil => rfl
  | _, _, .cons _ q => by rw [List.length_cons, List.length_cons, dpAll_len q]
theorem rtAll_len {K : PySem.W.Frag} {H : Hp} : ∀ {vs : List V} {ds : List PyData}, RtAll K H vs ds → vs.length = ds.length
  | _, _, .nil => rfl
  | _, _, .cons _ q => by rw [List.length_cons, List.length_cons, rtAll_len q]
theorem GdAll.len {K : PySem.W.Frag} {H : Hp} {vs : List V} {ds : List PyData} (h : GdAll K H vs ds) : vs.length = ds.length := h.elim dpAll_len rtAll_len
theorem Gd.tup {K : PySem.W.Frag} {H : Hp} {a : Addr} {vs : List V} {ds : List PyData} (h : SqT K H a vs) (q : GdAll K H vs ds) : Gd K H (.ref a) (.tuple ds) := by
  rcases q with q | q
  · exact .inl (.tup h q)
  · exact .inr (.tup h q)
/-- it stands while what stands stands -/
theorem same_t {K : PySem.W.Frag} {H H' : Hp} {a : Addr} {xs : List V} (e : Same H H') (h : SqT K H a xs) : SqT K H' a xs := by
  rcases h with h | h
  · rcases h with h | ⟨o, h⟩
    · exact .inl (.inl (e _ _ h))
    · exact .inl (.inr ⟨o, e _ _ h⟩)
  · exact .inr h
mutual
theorem dp_mono {K : PySem.W.Frag} {H H' : Hp} (e : Same H H') : ∀ (d : PyData) (v : V), Dp K H v d → Dp K H' v d
  | .none, _, h => by cases h; exact .non
  | .bool b, _, h => by cases h; exact .bl b
  | .int i, _, h => by cases h; exact .int i
  | .str x, _, h => by cases h; exact .str x
  | .list ds, _, h => by
    cases h with
    | lst q r => exact .lst (e.seq q) (dpAll_mono e ds _ r)
  | .tuple ds, _, h => by
    cases h with
    | tup q r => exact .tup (same_t e q) (dpAll_mono e ds _ r)
  | .dict _, _, h => by cases h
theorem dpAll_mono {K : PySem.W.Frag} {H H' : Hp} (e : Same H H') : ∀ (ds : List PyData) (vs : List V), DpAll K H vs ds → DpAll K H' vs ds
  | [], _, h => by cases h; exact .nil
  | d :: ds, _, h => by
    cases h with
    | cons q r => exact .cons (dp_mono e d _ q) (dpAll_mono e ds _ r)
end
mutual
theorem rt_mono {K : PySem.W.Frag} {H H' : Hp} (e : Same H H') : ∀ (d : PyData) (v : V), Rt K H v d → Rt K H' v d
  | .none, _, h => by cases h; exact .non
  | .bool b, _, h => by cases h; exact .bl b
  | .int i, _, h => by cases h; exact .int i
  | .str x, _, h => by cases h; exact .str x
  | .list ds, _, h => by cases h
  | .tuple ds, _, h => by
    cases h with
    | tup q r => exact .tup (same_t e q) (rtAll_mono e ds _ r)
  | .dict _, _, h => by
    cases h with
    | emp q => exact .emp (e _ _ q)
theorem rtAll_mono {K : PySem.W.Frag} {H H' : Hp} (e : Same H H') : ∀ (ds : List PyData) (vs : List V), RtAll K H vs ds → RtAll K H' vs ds
  | [], _, h => by cases h; exact .nil
  | d :: ds, _, h => by
    cases h with
    | cons q r => exact .cons (rt_mono e d _ q) (rtAll_mono e ds _ r)
end
theorem Gd.mono {K : PySem.W.Frag} {H H' : Hp} {v : V} {d : PyData} (h : Gd K H v d) (e : Same H H') : Gd K H' v d := h.elim (fun z => .inl (dp_mono e d v z)) fun z => .inr (rt_mono e d v z)
theorem GdAll.mono {K : PySem.W.Frag} {H H' : Hp} {vs : List V} {ds : List PyData} (h : GdAll K H vs ds) (e : Same H H') : GdAll K H' vs ds := h.elim (fun z => .inl (dpAll_mono e ds vs z)) fun z => .inr (rtAll_mono e ds vs z)

/-! ### how long a repr of data comes -/
mutual
def sz : PyData → Nat
  | .none => 4
  | .bool _ => 5
  | .int _ => 1
  | .str x => 10 * x.length + 2
  | .list ds => szAll ds + 3
  | .tuple ds => szAll ds + 3
  | .dict _ => 2
def szAll : List PyData → Nat
  | [] => 0
  | d :: ds => sz d + 2 + szAll ds
end
mutual
/-- small ints, plain texts, empty dicts -/
def okD : PyData → Prop
  | .none => True
  | .bool _ => True
  | .int i => 0 ≤ i ∧ i ≤ 9
  | .str x => ∀ c ∈ x.cps.toList, c < 1000
  | .list ds => okAll ds
  | .tuple ds => okAll ds
  | .dict kvs => kvs = []
def okAll : List PyData → Prop
  | [] => True
  | d :: ds => okD d ∧ okAll ds
end
theorem digit_len : ∀ k < 10, (toString ((k : Nat) : Int) : String).length = 1 := by decide
mutual
theorem show_le : ∀ d : PyData, okD d → d.shown.length ≤ sz d ∧ d.showable = true
  | .none, _ => ⟨by show ("None" : Str).length ≤ 4; decide +kernel, rfl⟩
  | .bool b, _ => ⟨by cases b; (show ("False" : Str).length ≤ 5; decide +kernel); (show ("True" : Str).length ≤ 5; decide +kernel), rfl⟩
  | .int i, h => by
    obtain ⟨h0, h1⟩ : 0 ≤ i ∧ i ≤ 9 := h
    have e : i = 0 ∨ i = 1 ∨ i = 2 ∨ i = 3 ∨ i = 4 ∨ i = 5 ∨ i = 6 ∨ i = 7 ∨ i = 8 ∨ i = 9 := by omega
    refine ⟨?_, ?_⟩
    · show (Str.ofString (toString i)).length ≤ 1
      rcases e with rfl | rfl | rfl | rfl | rfl | rfl | rfl | rfl | rfl | rfl <;> decide +kernel
    · rcases e with rfl | rfl | rfl | rfl | rfl | rfl | rfl | rfl | rfl | rfl <;> decide +kernel
  | .str x, h => by
    have h : ∀ c ∈ x.cps.toList, c < 1000 := h
    exact ⟨StrLaws.reprText_len x fun c hc => Nat.lt_of_lt_of_le (h c hc) (by decide), rfl⟩
  | .list ds, h => by
    obtain ⟨h1, h2⟩ := showAll_le ds h
    have q := listText_len_le (PyData.shownAll ds)
    refine ⟨?_, h2⟩
    show (listText (PyData.shownAll ds)).length ≤ szAll ds + 3
    omega
  | .tuple ds, h => by
    obtain ⟨h1, h2⟩ := showAll_le ds h
    have q := tupleText_len_le (PyData.shownAll ds)
    refine ⟨?_, h2⟩
    show (tupleText (PyData.shownAll ds)).length ≤ szAll ds + 3
    omega
  | .dict kvs, h => by
    have h : kvs = [] := h
    subst h
    exact ⟨by show (dictText []).length ≤ 2; decide +kernel, rfl⟩
theorem showAll_le : ∀ ds : List PyData, okAll ds → ((PyData.shownAll ds).map (·.length)).sum + 2 * (PyData.shownAll ds).length ≤ szAll ds ∧ PyData.showableAll ds = true
  | [], _ => ⟨Nat.le_refl _, rfl⟩
  | d :: ds, h => by
    obtain ⟨h1, h2⟩ : okD d ∧ okAll ds := h
    obtain ⟨a1, a2⟩ := show_le d h1
    obtain ⟨b1, b2⟩ := showAll_le ds h2
    refine ⟨?_, ?_⟩
    · show ((d.shown :: PyData.shownAll ds).map (·.length)).sum + 2 * (d.shown :: PyData.shownAll ds).length ≤ sz d + 2 + szAll ds
      rw [List.map_cons, List.sum_cons, List.length_cons]
      omega
    · show (d.showable && PyData.showableAll ds) = true
      rw [a2, b2]
      rfl
end
section
variable {X : Cx}
/-- repr of data of either kind -/
def rReprG (K : PySem.W.Frag) : List V → Hp → VK → Prop := fun xs H Q => ∃ (v : V) (d : PyData), xs = [v] ∧ Gd K H v d ∧ okD d ∧ sz d ≤ 16000000 ∧ d.depth ≤ 40 ∧ Q (.str d.shown) H
theorem dp_noDict {K : PySem.W.Frag} {H : Hp} : ∀ (d : PyData) (v : V), Dp K H v d → d.canLay0 = true ∨ True := fun _ _ _ => .inr trivial
mutual
theorem dp_hasNo {K : PySem.W.Frag} {H : Hp} : ∀ (d : PyData) (v : V), Dp K H v d → d.hasDict = false
  | .none, _, _ => rfl
  | .bool _, _, _ => rfl
  | .int _, _, _ => rfl
  | .str _, _, _ => rfl
  | .list ds, _, h => by
    cases h with
    | lst _ r => exact dpAll_hasNo ds _ r
  | .tuple ds, _, h => by
    cases h with
    | tup _ r => exact dpAll_hasNo ds _ r
  | .dict _, _, h => by cases h
theorem dpAll_hasNo {K : PySem.W.Frag} {H : Hp} : ∀ (ds : List PyData) (vs : List V), DpAll K H vs ds → PyData.hasDictAll ds = false
  | [], _, _ => rfl
  | d :: ds, _, h => by
    cases h with
    | cons q r =>
      show (d.hasDict || PyData.hasDictAll ds) = false
      rw [dp_hasNo d _ q, dpAll_hasNo ds _ r]
      rfl
end
theorem call_reprG (hg : X.A.guards = some []) (hu : X.A.units + 64 < cLine) : CallR X (.builtin "repr") (rReprG X.K) := by
  intro pins s σ H xs us Q I r h
  obtain ⟨v, d, rfl, hd, ok, hz, hdp, q⟩ := h
  obtain ⟨u, rfl, ru⟩ := vals1 r
  obtain ⟨l1, l2⟩ := show_le d ok
  have hl : d.shown.length ≤ sizeLine := by
    rw [sizeLine_eq]
    omega
  obtain ⟨as, rd, hsm⟩ : ∃ as, Reads s.heap u d as ∧ (d.hasDict = true → sysModules ∉ as) := by
    rcases hd with z | z
    · obtain ⟨as, rd⟩ := Dp.reads I d v u z ru
      exact ⟨as, rd, PyData.noDict_hsm (dp_hasNo d v z)⟩
    · obtain ⟨as, rd, n⟩ := Rt.reads I d v u z ru
      exact ⟨as, rd, fun _ => n⟩
  cases v with
  | ref a =>
    cases ru
    refine repr_of_reads' rd l2 hsm hg (by omega) (fun _ _ z => z) (fun h' w tk k => ?_) hl
    exact ⟨.str d.shown, H, I.kept (t' := tk) k, ⟨_, rfl⟩, q⟩
  | non =>
    cases ru
    cases rd
    exact PySem.P.repr_of_none ⟨.str _, H, I.tok _, ⟨_, rfl⟩, q⟩
  | bl b =>
    cases ru
    cases rd
    exact PySem.P.repr_of_bool ⟨.str _, H, I.tok _, ⟨_, rfl⟩, q⟩
  | int i =>
    obtain ⟨t, rfl⟩ := ru
    cases rd
    exact PySem.P.repr_of_int (by simpa [PyData.showable] using l2) ⟨.str _, H, I.tok _, ⟨_, rfl⟩, q⟩
  | str x =>
    obtain ⟨t, rfl⟩ := ru
    cases rd
    exact PySem.P.repr_of_str (hsz := hl) ⟨.str _, H, I.tok _, ⟨_, rfl⟩, q⟩
  | byt b => rcases hd with z | z <;> cases z
  | flt b => rcases hd with z | z <;> cases z
  | ty n => rcases hd with z | z <;> cases z
end

/-! ### isinstance -/
def kindOf : PyData → String
  | .none => "NoneType"
  | .bool _ => "bool"
  | .int _ => "int"
  | .str _ => "str"
  | .list _ => "list"
  | .tuple _ => "tuple"
  | .dict _ => "dict"
theorem ty_list {K : PySem.W.Frag} {H : Hp} {a : Addr} {xs : List V} (h : SqL K H a xs) : TyX K H (.ref a) (.type "list") := by
  rcases h with (h | ⟨o, h⟩) | ⟨o, its, n, h, hc, _⟩
  · exact .base (.lst h)
  · exact .base (.frz h)
  · exact .kList h hc
theorem ty_tuple {K : PySem.W.Frag} {H : Hp} {a : Addr} {xs : List V} (h : SqT K H a xs) : TyX K H (.ref a) (.type "tuple") := by
  rcases h with (h | ⟨o, h⟩) | ⟨o, its, n, h, hc, _⟩
  · exact .base (.tup h)
  · exact .fTuple h
  · exact .kTuple h hc
theorem ty_of {K : PySem.W.Frag} {H : Hp} {v : V} {d : PyData} (h : Gd K H v d) : TyX K H v (.type (kindOf d)) := by
  rcases h with h | h
  · cases h with
    | non => exact .base .non
    | bl b => exact .base (.bl b)
    | int i => exact .base (.int i)
    | str x => exact .base (.str x)
    | lst q _ => exact ty_list q
    | tup q _ => exact ty_tuple q
  · cases h with
    | non => exact .base .non
    | bl b => exact .base (.bl b)
    | int i => exact .base (.int i)
    | str x => exact .base (.str x)
    | tup q _ => exact ty_tuple q
    | emp q => exact .base (.dK q)
def isT : PyData → Bool
  | .tuple _ => true
  | _ => false
def isS : PyData → Bool
  | .str _ => true
  | _ => false
theorem kit_t : ∀ d : PyData, kitB (kindOf d) "tuple" = some (isT d)
  | .none => (by decide +kernel : kitB "NoneType" "tuple" = some false)
  | .bool _ => (by decide +kernel : kitB "bool" "tuple" = some false)
  | .int _ => (by decide +kernel : kitB "int" "tuple" = some false)
  | .str _ => (by decide +kernel : kitB "str" "tuple" = some false)
  | .list _ => (by decide +kernel : kitB "list" "tuple" = some false)
  | .tuple _ => (by decide +kernel : kitB "tuple" "tuple" = some true)
  | .dict _ => (by decide +kernel : kitB "dict" "tuple" = some false)
theorem kit_s : ∀ d : PyData, kitB (kindOf d) "str" = some (isS d)
  | .none => (by decide +kernel : kitB "NoneType" "str" = some false)
  | .bool _ => (by decide +kernel : kitB "bool" "str" = some false)
  | .int _ => (by decide +kernel : kitB "int" "str" = some false)
  | .str _ => (by decide +kernel : kitB "str" "str" = some true)
  | .list _ => (by decide +kernel : kitB "list" "str" = some false)
  | .tuple _ => (by decide +kernel : kitB "tuple" "str" = some false)
  | .dict _ => (by decide +kernel : kitB "dict" "str" = some false)

/-! ### strip of letters leaves nothing -/
theorem strip_all {x y : Str} : (Txt.stripChars x y).length = 0 ↔ ∀ c ∈ tl x, y.cps.contains c = true := by
  have tw : ∀ (p : Nat → Bool) (l : List Nat), (∀ c ∈ l, p c = true) → l.takeWhile p = l := by
    intro p l h
    induction l with
    | nil => rfl
    | cons a r ih =>
      rw [List.takeWhile_cons, h a List.mem_cons_self, if_pos rfl, ih fun c hc => h c (List.mem_cons_of_mem _ hc)]
  have mem_tw : ∀ (p : Nat → Bool) (l : List Nat) (c : Nat), c ∈ l.takeWhile p → p c = true := by
    intro p l
    induction l with
    | nil => intro c hc; cases hc
    | cons a r ih =>
      intro c hc
      rw [List.takeWhile_cons] at hc
      by_cases pa : p a = true
      · rw [if_pos pa] at hc
        rcases List.mem_cons.mp hc with e | e
        · rw [e]; exact pa
        · exact ih c e
      · rw [if_neg pa] at hc
        cases hc
  have hx := len_tl x
  constructor
  · intro h
    unfold Txt.stripChars Txt.stripBy at h
    by_cases c : stripSame y.cps.contains true true x = true
    · rw [if_pos c, len_tl] at h
      intro d hd
      rw [List.eq_nil_of_length_eq_zero h] at hd
      cases hd
    · rw [if_neg c] at h
      have e1 : tl (stripped y.cps.contains true true x) = ((tl x).drop (stripLo y.cps.contains true x)).take (stripHi y.cps.contains true x (stripLo y.cps.contains true x) - stripLo y.cps.contains true x) := PySem.StrLaws.strSub_toList x _ _
      have elo : stripLo y.cps.contains true x = ((tl x).takeWhile y.cps.contains).length := rfl
      rw [len_tl, e1] at h
      rw [elo] at h
      have ehi : stripHi y.cps.contains true x ((tl x).takeWhile y.cps.contains).length = x.length - (((tl x).drop ((tl x).takeWhile y.cps.contains).length).reverse.takeWhile y.cps.contains).length := rfl
      rw [ehi] at h
      have esplit := List.takeWhile_append_dropWhile (p := y.cps.contains) (l := tl x)
      have edrop : (tl x).drop ((tl x).takeWhile y.cps.contains).length = (tl x).dropWhile y.cps.contains := by
        have q := congrArg (List.drop ((tl x).takeWhile y.cps.contains).length) esplit
        rw [List.drop_left] at q
        exact q.symm
      rw [edrop] at h
      cases hd : (tl x).dropWhile y.cps.contains with
      | nil =>
        rw [hd, List.append_nil] at esplit
        intro d hdm
        rw [← esplit] at hdm
        exact mem_tw _ _ _ hdm
      | cons d r =>
        exfalso
        have hnp : ¬ y.cps.contains d = true := by
          have q := List.head?_dropWhile_not (p := y.cps.contains) (tl x)
          rw [hd] at q
          simpa using q
        have hlen : (((d :: r).reverse).takeWhile y.cps.contains).length ≤ r.length := by
          have hle : (((d :: r).reverse).takeWhile y.cps.contains).length ≤ (d :: r).length := by
            have q := (List.takeWhile_sublist (l := (d :: r).reverse) y.cps.contains).length_le
            rw [List.length_reverse] at q
            exact q
          by_cases hz : (((d :: r).reverse).takeWhile y.cps.contains).length = (d :: r).length
          · exfalso
            have q := List.takeWhile_append_dropWhile (p := y.cps.contains) (l := (d :: r).reverse)
            have q2 : ((d :: r).reverse).dropWhile y.cps.contains = [] := by
              have q3 := congrArg List.length q
              rw [List.length_append, hz, List.length_reverse] at q3
              exact List.eq_nil_of_length_eq_zero (by omega)
            rw [q2, List.append_nil] at q
            have hm : d ∈ ((d :: r).reverse).takeWhile y.cps.contains := by
              rw [q]
              simp
            exact hnp (mem_tw _ _ _ hm)
          · rw [List.length_cons] at hle hz
            omega
        rw [hd, List.length_take, List.length_cons] at h
        have hsum := congrArg List.length esplit
        rw [hd, List.length_append, List.length_cons, ← hx] at hsum
        omega
  · intro h
    have e0 : stripLo y.cps.contains true x = x.length := by
      show ((tl x).takeWhile y.cps.contains).length = x.length
      rw [tw _ _ h, hx]
    unfold Txt.stripChars Txt.stripBy
    by_cases c : stripSame y.cps.contains true true x = true
    · rw [if_pos c]
      unfold stripSame at c
      rw [e0, Bool.and_eq_true] at c
      exact beq_iff_eq.mp c.1
    · rw [if_neg c, len_tl]
      have e1 : tl (stripped y.cps.contains true true x) = ((tl x).drop (stripLo y.cps.contains true x)).take (stripHi y.cps.contains true x (stripLo y.cps.contains true x) - stripLo y.cps.contains true x) := PySem.StrLaws.strSub_toList x _ _
      rw [e1, e0, List.drop_of_length_le (by omega)]
      simp
end Bl
/-! Words, rows and products among data. -/
namespace Bl
open PySem PySem.Spec PyProof.Rows L2 TL
theorem ascii_tab : ∀ c < 128, (Unicode.isAlpha c && !(Unicode.isUpper c || Unicode.isTitle c)) = true → 97 ≤ c ∧ c ≤ 122 := by decide +kernel
/-- as the program asks it -/
def wordB (x : Str) : Bool := (x.length == 0) || (Txt.isascii x && (Txt.isalpha x && Txt.islower x))
theorem word_iff {x : Str} : wordB x = true ↔ Lets x := by
  unfold wordB
  constructor
  · intro h
    by_cases h0 : x.length = 0
    · intro c hc
      rw [len_tl] at h0
      rw [List.eq_nil_of_length_eq_zero h0] at hc
      cases hc
    · have h0 : (x.length == 0) = false := beq_eq_false_iff_ne.mpr h0
      rw [h0, Bool.false_or, Bool.and_eq_true, Bool.and_eq_true] at h
      obtain ⟨h1, h2, h3⟩ := h
      unfold Txt.isascii at h1
      unfold Txt.isalpha at h2
      unfold Txt.islower at h3
      rw [Bool.and_eq_true] at h2 h3
      rw [← Array.all_toList, List.all_eq_true] at h1
      have h2 := h2.2
      rw [← Array.all_toList, List.all_eq_true] at h2
      have h3 := h3.2
      rw [Bool.not_eq_true', ← Array.any_toList, List.any_eq_false] at h3
      intro c hc
      have a1 := of_decide_eq_true (h1 c hc)
      have a2 := h2 c hc
      have a3 := h3 c hc
      refine ascii_tab c a1 ?_
      rw [a2, Bool.true_and]
      cases e : (Unicode.isUpper c || Unicode.isTitle c)
      · rfl
      · exact absurd e a3
  · intro h
    obtain ⟨h1, h2⟩ := word_tests h
    by_cases h0 : x.length = 0
    · rw [h0]
      rfl
    · obtain ⟨h3, h4⟩ := h2 h0
      rw [h1, h3, h4]
      simp
def azs : Str := "abcdefghijklmnopqrstuvwxyz"
theorem azs_list : azs.cps = #[97, 98, 99, 100, 101, 102, 103, 104, 105, 106, 107, 108, 109, 110, 111, 112, 113, 114, 115, 116, 117, 118, 119, 120, 121, 122] := by decide +kernel
theorem azs_has {c : Nat} : azs.cps.contains c = true ↔ 97 ≤ c ∧ c ≤ 122 := by
  rw [azs_list, Array.contains_iff]
  simp
  omega
theorem strip_lets {x : Str} : (Txt.stripChars x azs).length = 0 ↔ Lets x := by
  rw [strip_all]
  constructor
  · intro h c hc
    exact azs_has.mp (h c hc)
  · intro h c hc
    exact azs_has.mpr (h c hc)
def wordD : PyData → Bool
  | .str x => wordB x
  | _ => false
def rowD : PyData → Bool
  | .tuple ds => !ds.isEmpty && ds.all wordD
  | _ => false
def prodD : PyData → Bool
  | .tuple ds => !ds.isEmpty && ds.all rowD
  | _ => false
theorem str_of {K : PySem.W.Frag} {H : Hp} {v : V} {d : PyData} (h : Gd K H v d) (e : isS d = true) : ∃ x, v = .str x ∧ d = .str x := by
  rcases h with h | h <;> cases h <;> first | exact ⟨_, rfl, rfl⟩ | exact absurd e (by simp [isS])
theorem tup_of {K : PySem.W.Frag} {H : Hp} {v : V} {d : PyData} (h : Gd K H v d) (e : isT d = true) : ∃ a xs ds, v = .ref a ∧ d = .tuple ds ∧ SqT K H a xs ∧ GdAll K H xs ds := by
  rcases h with h | h
  · cases h with
    | tup q r => exact ⟨_, _, _, rfl, rfl, q, .inl r⟩
    | _ => exact absurd e (by simp [isT])
  · cases h with
    | tup q r => exact ⟨_, _, _, rfl, rfl, q, .inr r⟩
    | _ => exact absurd e (by simp [isT])
theorem sz_mem : ∀ {ds : List PyData} {d : PyData}, d ∈ ds → sz d + 2 ≤ szAll ds
  | [], d, h => by cases h
  | a :: r, d, h => by
    show sz d + 2 ≤ sz a + 2 + szAll r
    rcases List.mem_cons.mp h with e | e
    · rw [e]; omega
    · have := sz_mem e
      omega
theorem sz_len : ∀ ds : List PyData, 2 * ds.length ≤ szAll ds
  | [] => Nat.le_refl _
  | a :: r => by
    have := sz_len r
    show 2 * (r.length + 1) ≤ sz a + 2 + szAll r
    omega
theorem szAll_append : ∀ a b : List PyData, szAll (a ++ b) = szAll a + szAll b
  | [], b => by show szAll b = 0 + szAll b; omega
  | x :: a, b => by
    show sz x + 2 + szAll (a ++ b) = sz x + 2 + szAll a + szAll b
    rw [szAll_append a b]
    omega
theorem take_more {α : Type} {l : List α} {i : Nat} {x : α} (h : l[i]? = some x) : l.take (i + 1) = l.take i ++ [x] := by
  rw [List.take_succ, h]
  rfl
theorem same_d {H H' : Hp} {D : Addr} {o : HO} (hD : H D = none) (h : Same H H') : Same H (upd H' D o) := fun b u e => by
  rw [upd_ne (ne_of_none e hD)]
  exact h b u e
section
variable {X : Cx}
/-- xs == [] -/
def rEqNil (K : PySem.W.Frag) : R2 := fun x y H Q => ∃ (a b : Addr) (xs : List V), x = .ref a ∧ y = .ref b ∧ SqL K H a xs ∧ SqL K H b [] ∧ Q (.bl xs.isEmpty) H
theorem op_eqNil (hu : X.A.units + 64 < cLine) : OpR X (compareOp .Eq) (rEqNil X.K) := by
  intro pins s σ H x y v u Q I rx ry h
  obtain ⟨a, b, xs, rfl, rfl, h1, h2, q⟩ := h
  cases xs with
  | nil => exact op_eqD hu pins s σ H _ _ v u Q I rx ry ⟨.list [], .list [], .lst h1 .nil, .lst h2 .nil, by decide +kernel, by decide +kernel, q⟩
  | cons z xs =>
    cases rx
    cases ry
    obtain ⟨its, r1, p1, _⟩ := I.list h1
    obtain ⟨its2, r2, p2, _⟩ := I.list h2
    have e2 := r2.length
    have e1 := r1.length
    refine SeqAt.eq_list_lengthsAt p1.isList p2.isList ?_ (by omega) ⟨.bl false, H, I, rfl, q⟩
    rw [bne_iff_ne]
    intro e
    rw [List.size_toArray, List.size_toArray, ← e1, ← e2] at e
    simp at e
def rNeNil (K : PySem.W.Frag) : R2 := fun x y H Q => ∃ (a b : Addr) (xs : List V), x = .ref a ∧ y = .ref b ∧ SqL K H a xs ∧ SqL K H b [] ∧ Q (.bl (!xs.isEmpty)) H
end
theorem gd_same {K : PySem.W.Frag} {H H' : Hp} {vs : List V} {ds : List PyData} {i : Nat} {v : V} (h : GdAll K H vs ds) (e : Same H H') (hv : vs[i]? = some v) : ∃ d, ds[i]? = some d ∧ Gd K H' v d := by
  obtain ⟨d, h1, h2⟩ := h.at hv
  exact ⟨d, h1, h2.mono e⟩
end Bl
/-! The tray that draws are taken from, and what may change beside it. -/
namespace Bl
open PySem PySem.Spec PyProof.Rows L2 TL
theorem sl_small {n : Nat} (h : n ≤ 100000) : n ≤ sizeLine := Nat.le_trans h (by decide)
/-! ### the tray: three ints in a list, the last one counts -/
def Tray (H : Hp) (t : Addr) (n : Nat) : Prop := ∃ a b c : Int, H t = some (.lst [.int a, .int b, .int c]) ∧ 0 ≤ a ∧ 0 ≤ b ∧ b < 2 ^ 200 ∧ 0 ≤ c ∧ c ≤ (n : Int)
theorem Tray.mono {H : Hp} {t : Addr} {n m : Nat} (h : Tray H t n) (e : n ≤ m) : Tray H t m := by
  obtain ⟨a, b, c, h1, h2, h3, h4, h5, h6⟩ := h
  exact ⟨a, b, c, h1, h2, h3, h4, h5, by omega⟩
theorem Tray.of {H H' : Hp} {t : Addr} {n : Nat} (h : Tray H t n) (e : H' t = H t) : Tray H' t n := by
  obtain ⟨a, b, c, h1, h2⟩ := h
  exact ⟨a, b, c, e.trans h1, h2⟩
/-- all but the object at t stands as it did -/
def But (t : Addr) (H H' : Hp) : Prop := ∀ b o, b ≠ t → H b = some o → H' b = some o
theorem But.refl (t : Addr) (H : Hp) : But t H H := fun _ _ _ h => h
theorem But.trans {t : Addr} {H H1 H2 : Hp} (a : But t H H1) (b : But t H1 H2) : But t H H2 := fun c o n h => b c o n (a c o n h)
theorem But.set {t : Addr} {H : Hp} {o : HO} : But t H (upd H t o) := fun b u n h => by
  rw [upd_ne n]
  exact h
theorem But.new {t p : Addr} {H : Hp} {o : HO} (hp : H p = none) : But t H (upd H p o) := fun b u _ h => by
  rw [upd_ne (ne_of_none h hp)]
  exact h
/-- what a def with a tray may do: the tray's own change, new objects, nothing else -/
theorem Tray.ne {H : Hp} {t p : Addr} {n : Nat} (h : Tray H t n) (hp : H p = none) : t ≠ p := by
  obtain ⟨a, b, c, h1, _⟩ := h
  exact ne_of_none h1 hp
theorem Tray.new {H : Hp} {t p : Addr} {n : Nat} {o : HO} (h : Tray H t n) (hp : H p = none) : Tray (upd H p o) t n := h.of (upd_ne (h.ne hp))
theorem seed_range (z : Int) (i : Nat) (hi : i ≤ 1000) : 0 ≤ z % ((10 : Int) ^ (38 : Int).toNat + 133) * 89 + 59 * (i : Int) + 23 ∧ z % ((10 : Int) ^ (38 : Int).toNat + 133) * 89 + 59 * (i : Int) + 23 < 2 ^ 200 := by
  have e : (10 : Int) ^ (38 : Int).toNat + 133 = 100000000000000000000000000000000000133 := by decide
  rw [e]
  have h1 := Int.emod_nonneg z (b := 100000000000000000000000000000000000133) (by decide)
  have h2 := Int.emod_lt_of_pos z (b := 100000000000000000000000000000000000133) (by decide)
  have e2 : (2 : Int) ^ 200 = 1606938044258990275541962092341162602522202993782792835301376 := by decide
  rw [e2]
  omega
theorem big1 : (10 : Int) ^ (39 : Int).toNat + 3 = 1000000000000000000000000000000000000003 := by decide
theorem big2 : (10 : Int) ^ (40 : Int).toNat + 121 = 10000000000000000000000000000000000000121 := by decide
theorem p200 : (2 : Int) ^ 200 = 1606938044258990275541962092341162602522202993782792835301376 := by decide
theorem pow_ok {x : Int} (h0 : 0 ≤ x) (h1 : x < 2 ^ 210) : CPowW x 3 := by
  refine ⟨⟨by decide, by decide⟩, ?_⟩
  have e : (2 : Int) ^ 210 = ((2 ^ 210 : Nat) : Int) := by decide
  have h2 : x.natAbs < 2 ^ 210 := by
    rw [e] at h1
    omega
  exact Nat.lt_trans h2 (Nat.pow_lt_pow_right (by decide) (by decide))
theorem p210 : (2 : Int) ^ 210 = 1645504557321206042154969182557350504982735865633579863348609024 := by decide
theorem log_small {m : Int} (h0 : 0 < m) (h : m < 4294967296) : m.natAbs.log2 < 9000 :=
  Nat.lt_trans (PySem.Flt.log2_lt_of (n := m.natAbs) (k := 32) (by decide) (by omega)) (by decide)
theorem sum_ones : ∀ ys : List Str, (∀ y ∈ ys, y.length = 1) → (ys.map (·.length)).sum = ys.length
  | [], _ => rfl
  | y :: r, h => by
    rw [List.map_cons, List.sum_cons, List.length_cons, h y List.mem_cons_self, sum_ones r fun z hz => h z (List.mem_cons_of_mem _ hz)]
    omega
theorem join_lets : ∀ ys : List Str, (∀ y ∈ ys, Lets y ∧ y.length = 1) → Lets (Txt.join "" ys) ∧ (Txt.join "" ys).length = ys.length := by
  intro ys h
  rw [join_eq]
  have key : ∀ ps : List (List Nat), (∀ p ∈ ps, p.length = 1 ∧ ∀ c ∈ p, 97 ≤ c ∧ c ≤ 122) → (joinL [] ps).length = ps.length ∧ ∀ c ∈ joinL [] ps, 97 ≤ c ∧ c ≤ 122 := by
    intro ps
    induction ps with
    | nil => intro _; exact ⟨rfl, fun c hc => absurd hc (by simp [joinL])⟩
    | cons p r ih =>
      intro hp
      obtain ⟨h1, h2⟩ := hp p List.mem_cons_self
      obtain ⟨i1, i2⟩ := ih fun q hq => hp q (List.mem_cons_of_mem _ hq)
      have e : joinL [] (p :: r) = p ++ joinL [] r := by
        cases r with
        | nil => simp [joinL]
        | cons q s => simp [joinL]
      rw [e]
      refine ⟨by rw [List.length_append, List.length_cons, h1, i1]; omega, fun c hc => ?_⟩
      rcases List.mem_append.mp hc with z | z
      · exact h2 c z
      · exact i2 c z
  have ht := tl_join "" ys
  have he : tl ("" : Str) = [] := rfl
  rw [he] at ht
  obtain ⟨k1, k2⟩ := key (ys.map tl) fun p hp => by
    obtain ⟨y, hy, rfl⟩ := List.mem_map.mp hp
    obtain ⟨q1, q2⟩ := h y hy
    exact ⟨by rw [← len_tl]; exact q2, q1⟩
  refine ⟨fun c hc => k2 c (by rw [← ht]; exact hc), ?_⟩
  rw [len_tl, ht, k1, List.length_map]
theorem same_new {H : Hp} {p : Addr} {o : HO} (hp : H p = none) : Same H (upd H p o) := fun b u h => by
  rw [upd_ne (ne_of_none h hp)]
  exact h
theorem pick3 (a b c : V) {v : Int} (h0 : 0 ≤ v) (h1 : v < 3) : ∃ x, atI [a, b, c] v = some x ∧ (x = a ∨ x = b ∨ x = c) := by
  have e : v = 0 ∨ v = 1 ∨ v = 2 := by omega
  rcases e with rfl | rfl | rfl
  · exact ⟨a, rfl, .inl rfl⟩
  · exact ⟨b, rfl, .inr (.inl rfl)⟩
  · exact ⟨c, rfl, .inr (.inr rfl)⟩
theorem pick4 (a b c d : V) {v : Int} (h0 : 0 ≤ v) (h1 : v < 4) : ∃ x, atI [a, b, c, d] v = some x ∧ (x = a ∨ x = b ∨ x = c ∨ x = d) := by
  have e : v = 0 ∨ v = 1 ∨ v = 2 ∨ v = 3 := by omega
  rcases e with rfl | rfl | rfl | rfl
  · exact ⟨a, rfl, .inl rfl⟩
  · exact ⟨b, rfl, .inr (.inl rfl)⟩
  · exact ⟨c, rfl, .inr (.inr (.inl rfl))⟩
  · exact ⟨d, rfl, .inr (.inr (.inr rfl))⟩
theorem lets_x : Lets ("x" : Str) := by unfold Lets; decide +kernel
theorem lets_ab : Lets ("ab" : Str) := by unfold Lets; decide +kernel
theorem lets_az : Lets ("abcdefghijklmnopqrstuvwxyz" : Str) := by unfold Lets; decide +kernel
end Bl
namespace K1
open PySem PySem.Spec PyProof.Rows L2 TL Bl
def top (i : Nat) : Stmt := PySem.Challenge.pw_braceloops_k01_rows_and_products_recogni.main.body.getD i (.Pass ⟨0, 0, 0, 0⟩)
abbrev sIsWord : Stmt := top 1
abbrev sIsRow : Stmt := top 3
abbrev sIsProd : Stmt := top 4
abbrev sTray : Stmt := top 6
abbrev sTake : Stmt := top 7
abbrev sLetters : Stmt := top 8
abbrev sRow : Stmt := top 9
abbrev sLIsRow : Stmt := top 10
abbrev sLIsProd : Stmt := top 11
abbrev sBent : Stmt := top 12
abbrev sRight : Stmt := top 13
abbrev sLaw : Stmt := top 14
structure Names (mg : Str → Option Value) : Prop where
  isi : mg "isinstance" = none
  str : mg "str" = none
  tuple : mg "tuple" = none
  list : mg "list" = none
  len : mg "len" = none
  min : mg "min" = none
  max : mg "max" = none
  abs : mg "abs" = none
  range : mg "range" = none
  repr : mg "repr" = none
  all : mg "all" = none
section
variable {P : Program} {w : World} {K : PySem.W.Frag} {mg : Str → Option Value} {base : Heap}
def spWord (K : PySem.W.Frag) : Sp := fun vs H Q _ => ∃ (v : V) (d : PyData), vs = [v] ∧ Gd K H v d ∧ Q (.bl (wordD d)) H
theorem scIsWord : FnScope ["value"] ["value"] (defScope sIsWord) := ⟨rfl, rfl, rfl, by decide +kernel, rfl, by decide +kernel, by decide +kernel⟩
theorem empty_iff {x : Str} : x = ("" : Str) ↔ x.length = 0 := by
  constructor
  · rintro rfl
    rfl
  · intro h
    apply ext_tl
    rw [len_tl] at h
    exact List.eq_nil_of_length_eq_zero h
theorem ok_isWord {f : Addr} {fd : FuncData} (F : Fun K "is_word" "is_word" sIsWord f fd) (T : Names mg) : FnOk P w K mg base CX0 1 f fd ["value"] (spWord K) := by
  refine F.ok scIsWord (fun vs H Q E h => ?_) (fun cdv A outer s H vs Q E hr h => ?_)
  · obtain ⟨v, d, rfl, _⟩ := h
    rfl
  · obtain ⟨v, d, rfl, hd, k⟩ := h
    refine ⟨_, pss_cons (ps_if (pt_not (pt_val (pe_callB call_isi (by rfl) T.isi boot_isinstance (pa_cons (pv 0) (pa_cons (pe_bltn (v := .ty "str") (by rfl) T.str PyProof.Rows.boot_str rfl) pa_nil))))) (pss_one (ps_ret pe_bl)) pss_nil)
      (pss_one (ps_ret (pe_or (pe_cmpR op_eq (pv 0) pe_str (nomark _)) (pe_one (pe_and (pe_m0 PySem.F.slot_str_isascii PySem.F.type_str_isascii mt_isascii (pv 0))
        (pe_and (pe_m0 PySem.F.slot_str_isalpha PySem.F.type_str_isalpha mt_isalpha (pv 0)) (pe_one (pe_m0 PySem.F.slot_str_islower PySem.F.type_str_islower mt_islower (pv 0))))))))), ?_⟩
    refine ⟨_, rfl, _, .ty "str", _, _, isS d, rfl, .ty "str", ty_of hd, kit_ty (kit_s d), isS d, rfl, ?_⟩
    cases e : isS d with
    | false =>
      refine iteT ?_
      have ew : wordD d = false := by
        cases d <;> first | rfl | exact absurd e (by simp [isS])
      rw [ew] at k
      exact k
    | true =>
      refine iteF ?_
      obtain ⟨x, rfl, rfl⟩ := str_of hd e
      have k : Q (.bl (wordB x)) H := k
      unfold wordB at k
      refine ⟨_, rfl, rfl, _, rfl, ?_⟩
      by_cases e0 : x = ("" : Str)
      · have h0 : (x.length == 0) = true := by rw [empty_iff.mp e0]; rfl
        rw [h0] at k
        rw [decide_eq_true (congrArg V.str e0)]
        exact iteT k
      · have e' : ¬ V.str x = V.str "" := fun z => e0 (V.str.inj z)
        have h0 : (x.length == 0) = false := beq_eq_false_iff_ne.mpr fun z => e0 (empty_iff.mpr z)
        rw [h0, Bool.false_or] at k
        rw [decide_eq_false e']
        refine iteF ⟨_, rfl, ⟨x, rfl⟩, x, rfl, rfl, trivial, _, rfl, ?_⟩
        cases e1 : Txt.isascii x with
        | false =>
          rw [e1] at k
          exact iteF k
        | true =>
          rw [e1, Bool.true_and] at k
          refine iteT ⟨_, rfl, ⟨x, rfl⟩, x, rfl, rfl, trivial, _, rfl, ?_⟩
          cases e2 : Txt.isalpha x with
          | false =>
            rw [e2] at k
            exact iteF k
          | true =>
            rw [e2, Bool.true_and] at k
            exact iteT ⟨_, rfl, ⟨x, rfl⟩, x, rfl, rfl, trivial, k⟩

/-! ### is_row, is_product -/
def spRowB (K : PySem.W.Frag) (g : PyData → Bool) : Sp := fun vs H Q _ => ∃ (v : V) (d : PyData), vs = [v] ∧ Gd K H v d ∧ sz d ≤ 16000000 ∧ ∀ H', Same H H' → Q (.bl (g d)) H'
theorem scIsRow : FnScope ["value", "word"] ["value"] (defScope sIsRow) := ⟨rfl, rfl, rfl, by decide +kernel, rfl, by decide +kernel, by decide +kernel⟩
theorem all_id (g : PyData → Bool) (ds : List PyData) : (ds.map g).all id = ds.all g := by
  rw [List.all_map]
  rfl
theorem ok_isRow {f i : Addr} {fd id : FuncData} (F : Fun K "is_row" "is_row" sIsRow f fd) (T : Names mg) (I : Fun K "is_word" "is_word" sIsWord i id) (mI : mg "is_word" = some (.ref i)) (bI : Binds K id ["value"] []) :
    FnOk P w K mg base CX0 2 f fd ["value"] (spRowB K rowD) := by
  refine F.ok scIsRow (fun vs H Q E h => ?_) (fun cdv A outer s H vs Q E hr h => ?_)
  · obtain ⟨v, d, rfl, _⟩ := h
    rfl
  · obtain ⟨v, d, rfl, hd, hz, k⟩ := h
    refine ⟨_, pss_cons (ps_if (PW.pt (pw_or (pt_not (pt_val (pe_callB call_isi (by rfl) T.isi boot_isinstance (pa_cons (pv 0) (pa_cons (pe_bltn (v := .ty "tuple") (by rfl) T.tuple (by decide +kernel) rfl) pa_nil)))))
        (pw_or1 (pt_cmpR op_eq (pe_callB call_len_seq (by rfl) T.len PySem.boot_len (pa_cons (pv 0) pa_nil)) pe_int (nomark _))))) (pss_one (ps_ret pe_bl)) pss_nil)
      (pss_one (ps_ret (pe_callB (cr_all rfl) (by rfl) T.all (by decide +kernel) (pa_cons (pe_lc (own := [("word", 1)]) (g := gName 1) (tt := tYes) rfl scIsRow.nd (pi_tup (pv 0))
        (blkOk_by (N := ["value", "word"]) (sc := defScope sIsRow) (by decide +kernel)) (fun _ _ _ _ _ => pg_name (i := 1) scIsRow.nd rfl (Or.inl rfl)) (fun _ _ _ _ _ => pts_nil)
        (fun _ _ _ _ _ => pe_call (ok_isWord I T) hr (by rfl) mI I.kp bI .nil pass0 (pa_cons (pv 1) pa_nil))) pa_nil)))), ?_⟩
    refine ⟨_, rfl, _, .ty "tuple", _, _, isT d, rfl, .ty "tuple", ty_of hd, kit_ty (kit_t d), isT d, rfl, ?_⟩
    cases e : isT d with
    | false =>
      refine iteT (iteT ?_)
      have ew : rowD d = false := by
        cases d <;> first | rfl | exact absurd e (by simp [isT])
      rw [ew] at k
      exact k H (Same.refl H)
    | true =>
      refine iteF ?_
      obtain ⟨a, xs, ds, rfl, rfl, hT, hA⟩ := tup_of hd e
      have hlen := hA.len
      refine ⟨_, rfl, a, xs, rfl, .inr hT, rfl, _, rfl, ?_⟩
      have k : ∀ H', Same H H' → Q (.bl (!ds.isEmpty && ds.all wordD)) H' := k
      refine ite2 (fun c => ?_) (fun c => ?_)
      · have hx : xs.length = 0 := by
          have := V.int.inj (of_decide_eq_true c)
          omega
        have hd0 : ds = [] := List.eq_nil_of_length_eq_zero (by omega)
        subst hd0
        exact k H (Same.refl H)
      · have hd0 : ds.isEmpty = false := by
          cases ds with
          | nil => exact absurd (decide_eq_true (by rw [hlen]; rfl)) c
          | cons x r => rfl
        rw [hd0] at k
        have hsz : 2 * ds.length ≤ 16000000 := by
          have h1 := sz_len ds
          have h2 : szAll ds + 3 ≤ 16000000 := hz
          omega
        refine ⟨_, rfl, a, rfl, ⟨xs, hT⟩, fun D hD => lc_tup (xs := xs) (fun j H' => Same H H' ∧ H' D = some (.lst (((ds.take j).map wordD).map V.bl))) ⟨same_new hD, by simp [upd_same]⟩ (fun j H' _ p => same_t p.1 hT) ?_ ?_⟩
        · rintro j x H' hx ⟨S1, h1⟩
          obtain ⟨d, e1, e2⟩ := gd_same hA S1 hx
          have hj : j < ds.length := (List.getElem?_eq_some_iff.mp e1).1
          refine ⟨rfl, ?_⟩
          refine ⟨_, rfl, x, d, rfl, e2, _, h1, ?_, same_d hD S1, ?_⟩
          · rw [List.length_map, List.length_map, List.length_take, sizeLine_eq]
            omega
          · rw [take_more e1, List.map_append, List.map_append]
            exact upd_same
        · rintro H' ⟨S1, h1⟩
          rw [hlen, List.take_length] at h1
          refine ⟨D, ds.map wordD, rfl, SqL.of h1, ?_⟩
          rw [all_id]
          exact k H' S1
theorem scIsProd : FnScope ["value", "row"] ["value"] (defScope sIsProd) := ⟨rfl, rfl, rfl, by decide +kernel, rfl, by decide +kernel, by decide +kernel⟩
theorem ok_isProd {f r i : Addr} {fd rd id : FuncData} (F : Fun K "is_product" "is_product" sIsProd f fd) (T : Names mg) (R : Fun K "is_row" "is_row" sIsRow r rd) (mR : mg "is_row" = some (.ref r)) (bR : Binds K rd ["value"] [])
    (I : Fun K "is_word" "is_word" sIsWord i id) (mI : mg "is_word" = some (.ref i)) (bI : Binds K id ["value"] []) : FnOk P w K mg base CX0 3 f fd ["value"] (spRowB K prodD) := by
  refine F.ok scIsProd (fun vs H Q E h => ?_) (fun cdv A outer s H vs Q E hr h => ?_)
  · obtain ⟨v, d, rfl, _⟩ := h
    rfl
  · obtain ⟨v, d, rfl, hd, hz, k⟩ := h
    refine ⟨_, pss_cons (ps_if (PW.pt (pw_or (pt_not (pt_val (pe_callB call_isi (by rfl) T.isi boot_isinstance (pa_cons (pv 0) (pa_cons (pe_bltn (v := .ty "tuple") (by rfl) T.tuple (by decide +kernel) rfl) pa_nil)))))
        (pw_or1 (pt_cmpR op_eq (pe_callB call_len_seq (by rfl) T.len PySem.boot_len (pa_cons (pv 0) pa_nil)) pe_int (nomark _))))) (pss_one (ps_ret pe_bl)) pss_nil)
      (pss_one (ps_ret (pe_callB (cr_all rfl) (by rfl) T.all (by decide +kernel) (pa_cons (pe_lc (own := [("row", 1)]) (g := gName 1) (tt := tYes) rfl scIsProd.nd (pi_tup (pv 0))
        (blkOk_by (N := ["value", "row"]) (sc := defScope sIsProd) (by decide +kernel)) (fun _ _ _ _ _ => pg_name (i := 1) scIsProd.nd rfl (Or.inl rfl)) (fun _ _ _ _ _ => pts_nil)
        (fun _ _ _ _ _ => pe_call (ok_isRow R T I mI bI) hr (by rfl) mR R.kp bR .nil pass0 (pa_cons (pv 1) pa_nil))) pa_nil)))), ?_⟩
    refine ⟨_, rfl, _, .ty "tuple", _, _, isT d, rfl, .ty "tuple", ty_of hd, kit_ty (kit_t d), isT d, rfl, ?_⟩
    cases e : isT d with
    | false =>
      refine iteT (iteT ?_)
      have ew : prodD d = false := by
        cases d <;> first | rfl | exact absurd e (by simp [isT])
      rw [ew] at k
      exact k H (Same.refl H)
    | true =>
      refine iteF ?_
      obtain ⟨a, xs, ds, rfl, rfl, hT, hA⟩ := tup_of hd e
      have hlen := hA.len
      refine ⟨_, rfl, a, xs, rfl, .inr hT, rfl, _, rfl, ?_⟩
      have k : ∀ H', Same H H' → Q (.bl (!ds.isEmpty && ds.all rowD)) H' := k
      refine ite2 (fun c => ?_) (fun c => ?_)
      · have hx : xs.length = 0 := by
          have := V.int.inj (of_decide_eq_true c)
          omega
        have hd0 : ds = [] := List.eq_nil_of_length_eq_zero (by omega)
        subst hd0
        exact k H (Same.refl H)
      · have hd0 : ds.isEmpty = false := by
          cases ds with
          | nil => exact absurd (decide_eq_true (by rw [hlen]; rfl)) c
          | cons x r => rfl
        rw [hd0] at k
        have h2 : szAll ds + 3 ≤ 16000000 := hz
        have hsz : 2 * ds.length ≤ 16000000 := by
          have h1 := sz_len ds
          omega
        refine ⟨_, rfl, a, rfl, ⟨xs, hT⟩, fun D hD => lc_tup (xs := xs) (fun j H' => Same H H' ∧ H' D = some (.lst (((ds.take j).map rowD).map V.bl))) ⟨same_new hD, by simp [upd_same]⟩ (fun j H' _ p => same_t p.1 hT) ?_ ?_⟩
        · rintro j x H' hx ⟨S1, h1⟩
          obtain ⟨d, e1, e2⟩ := gd_same hA S1 hx
          have hj : j < ds.length := (List.getElem?_eq_some_iff.mp e1).1
          have hm := sz_mem (List.mem_of_getElem? e1)
          refine ⟨rfl, ?_⟩
          refine ⟨_, rfl, x, d, rfl, e2, by omega, fun H2 S2 => ⟨_, S2 D _ h1, ?_, same_d hD (S1.trans S2), ?_⟩⟩
          · rw [List.length_map, List.length_map, List.length_take, sizeLine_eq]
            omega
          · rw [take_more e1, List.map_append, List.map_append]
            exact upd_same
        · rintro H' ⟨S1, h1⟩
          rw [hlen, List.take_length] at h1
          refine ⟨D, ds.map rowD, rfl, SqL.of h1, ?_⟩
          rw [all_id]
          exact k H' S1
end
end K1
namespace K1
open PySem PySem.Spec PyProof.Rows L2 TL Bl
section
variable {P : Program} {w : World} {K : PySem.W.Frag} {mg : Str → Option Value} {base : Heap}
/-! ### _law_tray -/
def spTray (K : PySem.W.Frag) : Sp := fun vs H Q _ => ∃ (a : Addr) (ns : List Int) (i : Nat), vs = [.ref a, .int i] ∧ SqL K H a (ns.map V.int) ∧ ns.length ≤ 100000 ∧ i ≤ 1000 ∧ ∀ p H', H p = none → Tray H' p 0 → (∀ b o, H b = some o → H' b = some o) → Q (.ref p) H'
theorem scTray : FnScope ["script", "at", "cell"] ["script", "at"] (defScope sTray) := ⟨rfl, rfl, rfl, by decide +kernel, rfl, by decide +kernel, by decide +kernel⟩
theorem ok_tray {f : Addr} {fd : FuncData} (F : Fun K "_law_tray" "_law_tray" sTray f fd) (T : Names mg) : FnOk P w K mg base CX0 1 f fd ["script", "at"] (spTray K) := by
  refine F.ok scTray (fun vs H Q E h => ?_) (fun cdv A outer s H vs Q E hr h => ?_)
  · obtain ⟨a, ns, i, rfl, _⟩ := h
    rfl
  · obtain ⟨a, ns, i, rfl, hS, hl, hi, k⟩ := h
    refine ⟨_, Evl.pss_cut (ps_set (i := 2) scTray.nd rfl (Or.inl rfl) (pe_ifExp (pt_cmpR op_lt (pv 1) (pe_callB call_len_seq (by rfl) T.len PySem.boot_len (pa_cons (pv 0) pa_nil)) (nomark _)) (pe_ix ix_list (pv 0) (pv 1) (fun _ _ => rfl)) pe_int))
      (pss_one (ps_ret (pe_lst (pa_cons (pe_callB (call_max2 rfl) (by rfl) T.max boot_max (pa_cons pe_int (pa_cons (pe_op op_sub (pe_callB call_abs (by rfl) T.abs boot_abs (pa_cons (pv 2) pa_nil)) (pe_op op_pow pe_int pe_int)) pa_nil)))
        (pa_cons (pe_op op_add (pe_op op_add (pe_op op_mul (pe_op op_mod (pv 2) (pe_op op_add (pe_op op_pow pe_int pe_int) pe_int)) pe_int) (pe_op op_mul pe_int (pv 1))) pe_int) (pa_cons pe_int pa_nil)))))), ?_⟩
    refine ⟨fun σ H' => H' = H ∧ ∃ z : Int, σ = [some (.ref a), some (.int i), some (.int z)], ?_, ?_⟩
    · refine ⟨_, rfl, _, rfl, a, _, rfl, .inl hS, _, _, rfl, rfl, _, rfl, ?_⟩
      rw [List.length_map]
      refine ite2 (fun hc => ?_) (fun hc => ?_)
      · have hlt : i < ns.length := by
          have := of_decide_eq_true hc
          omega
        refine ⟨_, rfl, _, rfl, a, _, _, V.int ns[i], rfl, rfl, hS, atI_nat (by rw [List.getElem?_map, List.getElem?_eq_getElem hlt]; rfl), rfl, ns[i], rfl⟩
      · exact ⟨rfl, 0, rfl⟩
    · rintro σ H' ⟨rfl, z, rfl⟩
      refine ⟨_, rfl, _, rfl, _, _, rfl, rfl, ⟨by decide, by decide, by decide⟩, _, _, rfl, rfl, _, _, rfl, _, rfl, _, _, rfl, rfl, ⟨by decide, by decide, by decide⟩, _, _, rfl, rfl, _, _, rfl, rfl, (by show (0 : Int) < (10 : Int) ^ (38 : Int).toNat + 133; decide), _, _, rfl, rfl, .inr ⟨by decide, by decide⟩,
        _, rfl, _, _, rfl, rfl, .inl ⟨by decide, by decide⟩, _, _, rfl, rfl, _, _, rfl, rfl, (by show 3 ≤ sizeLine; decide), fun p hp => ?_⟩
      obtain ⟨q1, q2⟩ := seed_range z i hi
      refine k p _ hp ⟨_, _, 0, upd_same, ?_, q1, q2, Int.le_refl 0, Int.le_refl 0⟩ fun b o e => by
        rw [upd_ne (ne_of_none e hp)]
        exact e
      show (0 : Int) ≤ if (if z < 0 then -z else z) - (10 : Int) ^ (18 : Int).toNat > 0 then (if z < 0 then -z else z) - (10 : Int) ^ (18 : Int).toNat else 0
      split <;> omega

/-! ### _law_take -/
def spTake : Sp := fun vs H Q _ => ∃ (t : Addr) (m : Int) (n : Nat), vs = [.ref t, .int m] ∧ 0 < m ∧ m.natAbs.log2 < 9000 ∧ Tray H t n ∧ n ≤ 1000000 ∧ ∀ v H', 0 ≤ v → v < m → Tray H' t (n + 1) → But t H H' → Q (.int v) H'
theorem scTake : FnScope ["tray", "many", "taken", "mixed"] ["tray", "many"] (defScope sTake) := ⟨rfl, rfl, rfl, by decide +kernel, rfl, by decide +kernel, by decide +kernel⟩
theorem ok_take {f : Addr} {fd : FuncData} (F : Fun K "_law_take" "_law_take" sTake f fd) : FnOk P w K mg base CX0 1 f fd ["tray", "many"] spTake := by
  refine F.ok scTake (fun vs H Q E h => ?_) (fun cdv A outer s H vs Q E hr h => ?_)
  · obtain ⟨t, m, n, rfl, _⟩ := h
    rfl
  · obtain ⟨t, m, n, rfl, hm, hlog, ⟨a, b, c, ht, ha, hb, hb2, hc, hcn⟩, hn, k⟩ := h
    refine ⟨_, pss_cons (ps_if (pt_cmpR op_gt (pe_ix ix_list (pv 0) pe_int (fun _ _ => rfl)) pe_int (nomark _))
        (pss_cons (ps_set (i := 2) scTake.nd rfl (Or.inl rfl) (pe_op op_mod (pe_ix ix_list (pv 0) pe_int (fun _ _ => rfl)) (pv 1)))
        (pss_cons (ps_asg (pe_op op_fdivW (pe_ix ix_list (pv 0) pe_int (fun _ _ => rfl)) (pv 1)) (pg_sub (pv 0) pe_int set_list))
        (pss_one (ps_ret (pv 2))))) pss_nil)
      (pss_cons (ps_asg (pe_op op_add (pe_ix ix_list (pv 0) pe_int (fun _ _ => rfl)) pe_int) (pg_sub (pv 0) pe_int set_list))
      (pss_cons (ps_set (i := 3) scTake.nd rfl (Or.inl rfl) (pe_op op_mod (pe_op op_powW (pe_op op_add (pe_ix ix_list (pv 0) pe_int (fun _ _ => rfl)) (pe_op op_mul pe_int (pe_ix ix_list (pv 0) pe_int (fun _ _ => rfl)))) pe_int) (pe_op op_add (pe_op op_pow pe_int pe_int) pe_int)))
      (pss_cons (ps_set (i := 3) scTake.nd rfl (Or.inl rfl) (pe_op op_mod (pe_op op_powW (pe_op op_add (pv 3) (pe_op op_mul pe_int (pe_ix ix_list (pv 0) pe_int (fun _ _ => rfl)))) pe_int) (pe_op op_add (pe_op op_pow pe_int pe_int) pe_int)))
      (pss_one (ps_ret (pe_op op_mod (pe_op op_fdiv (pv 3) pe_int) (pv 1))))))), ?_⟩
    refine ⟨_, rfl, t, _, _, .int a, rfl, rfl, SqL.of ht, rfl, _, _, rfl, rfl, _, rfl, ?_⟩
    refine ite2 (fun hp => ?_) (fun hp => ?_)
    · -- the big number gives
      have hp : 0 < a := by simpa using hp
      refine ⟨_, rfl, t, _, _, .int a, rfl, rfl, SqL.of ht, rfl, _, rfl, _, _, rfl, rfl, hm, ?_⟩
      refine ⟨_, rfl, t, _, _, .int a, rfl, rfl, SqL.of ht, rfl, _, rfl, _, _, rfl, rfl, ⟨hm, hlog⟩, _, rfl, t, _, 0, 0, rfl, rfl, ht, rfl, _, rfl, ?_⟩
      refine k _ _ (Int.emod_nonneg _ (by omega)) (Int.emod_lt_of_pos _ hm) ⟨a / m, b, c, upd_same, Int.ediv_nonneg ha (by omega), hb, hb2, hc, by omega⟩ But.set
    · refine ⟨_, rfl, t, _, _, .int c, rfl, rfl, SqL.of ht, rfl, _, _, rfl, rfl, _, rfl, t, _, 2, 2, rfl, rfl, ht, rfl, ?_⟩
      have ht2 : ∀ o, (upd H t (.lst ([V.int a, V.int b, V.int c].set 2 o))) t = some (.lst [.int a, .int b, o]) := fun o => upd_same
      have e39 := big1
      have e40 := big2
      have z200 := p200
      have z210 := p210
      rw [z200] at hb2
      refine ⟨_, rfl, t, _, _, .int b, rfl, rfl, SqL.of (ht2 _), rfl, _, rfl, t, _, _, .int (c + 1), rfl, rfl, SqL.of (ht2 _), rfl, _, _, rfl, rfl, .inl ⟨by decide, by decide⟩, _, _, rfl, rfl, _, _, rfl, rfl, pow_ok (by omega) (by rw [z210]; omega), _, _, rfl, rfl, ⟨by decide, by decide, by decide⟩, _, _, rfl, rfl, _, _, rfl, rfl, (by show (0 : Int) < (10 : Int) ^ (39 : Int).toNat + 3; decide), ?_⟩
      generalize hx : (b + 715827883 * (c + 1)) ^ (3 : Int).toNat = x
      have x0 : 0 ≤ x % ((10 : Int) ^ (39 : Int).toNat + 3) := Int.emod_nonneg _ (by rw [e39]; decide)
      have x1 : x % ((10 : Int) ^ (39 : Int).toNat + 3) < 1000000000000000000000000000000000000003 := by
        rw [e39]
        exact Int.emod_lt_of_pos _ (by decide)
      refine ⟨_, rfl, _, rfl, t, _, _, .int (c + 1), rfl, rfl, SqL.of (ht2 _), rfl, _, _, rfl, rfl, .inl ⟨by decide, by decide⟩, _, _, rfl, rfl, _, _, rfl, rfl, ?_, _, _, rfl, rfl, ⟨by decide, by decide, by decide⟩, _, _, rfl, rfl, _, _, rfl, rfl, (by show (0 : Int) < (10 : Int) ^ (40 : Int).toNat + 121; decide), ?_⟩
      · exact pow_ok (by omega) (by rw [z210]; omega)
      refine ⟨_, rfl, _, _, rfl, rfl, ⟨by decide, by decide⟩, _, rfl, _, _, rfl, rfl, hm, ?_⟩
      exact k _ _ (Int.emod_nonneg _ (by omega)) (Int.emod_lt_of_pos _ hm) ⟨a, b, c + 1, ht2 _, ha, hb, by rw [z200]; exact hb2, by omega, by omega⟩ But.set

/-! ### _law_letters -/
def spLetters : Sp := fun vs H Q _ => ∃ (t : Addr) (sg : Str) (mo : Int) (n : Nat), vs = [.ref t, .str sg, .int mo] ∧ Lets sg ∧ 1 ≤ sg.length ∧ sg.length ≤ 100 ∧ 0 ≤ mo ∧ mo ≤ 100 ∧ Tray H t n ∧ n ≤ 900000 ∧
  ∀ x H', Lets x → (x.length : Int) ≤ mo → Tray H' t (n + 200) → But t H H' → Q (.str x) H'
theorem scLetters : FnScope ["tray", "signs", "most", "turn"] ["tray", "signs", "most"] (defScope sLetters) := ⟨rfl, rfl, rfl, by decide +kernel, rfl, by decide +kernel, by decide +kernel⟩
theorem ok_letters {f g : Addr} {fd gd : FuncData} (F : Fun K "_law_letters" "_law_letters" sLetters f fd) (T : Names mg) (G : Fun K "_law_take" "_law_take" sTake g gd) (mG : mg "_law_take" = some (.ref g)) (bG : Binds K gd ["tray", "many"] []) :
    FnOk P w K mg base CX0 2 f fd ["tray", "signs", "most"] spLetters := by
  refine F.ok scLetters (fun vs H Q E h => ?_) (fun cdv A outer s H vs Q E hr h => ?_)
  · obtain ⟨t, sg, mo, n, rfl, _⟩ := h
    rfl
  · obtain ⟨t, sg, mo, n, rfl, hsg, h1, h2, h3, h4, ht, hn, k⟩ := h
    refine ⟨_, pss_one (ps_ret (pe_join pe_str (pe_lc (own := [("turn", 3)]) (g := gName 3) (tt := tYes) rfl scLetters.nd
      (pi_range1 (by rfl) T.range (pa_cons (pe_call (ok_take G) hr (by rfl) mG G.kp bG .nil pass0 (pa_cons (pv 0) (pa_cons (pe_op op_add (pv 2) pe_int) pa_nil))) pa_nil))
      (blkOk_by (N := ["tray", "signs", "most", "turn"]) (sc := defScope sLetters) (by decide +kernel)) (fun _ _ _ _ _ => pg_name (i := 3) scLetters.nd rfl (Or.inl rfl)) (fun _ _ _ _ _ => pts_nil)
      (fun _ _ _ _ _ => pe_ix ix_str (pv 1) (pe_call (ok_take G) hr (by rfl) mG G.kp bG .nil pass0 (pa_cons (pv 0) (pa_cons (pe_callB call_len_str (by rfl) T.len PySem.boot_len (pa_cons (pv 1) pa_nil)) pa_nil))) (fun _ _ => rfl))))), ?_⟩
    refine ⟨⟨_, rfl⟩, _, rfl, _, rfl, _, _, rfl, rfl, t, _, n, rfl, by omega, log_small (by omega) (by omega), ht, by omega, fun v H1 v0 v1 T1 B1 => ?_⟩
    refine ⟨v, rfl, by omega, by omega, fun D hD => ?_⟩
    refine lc_range (lo := 0) (n := v.toNat) (fun i H' => Tray H' t (n + 1 + i) ∧ But t H H' ∧ H D = none ∧ ∃ ys : List Str, H' D = some (.lst (ys.map V.str)) ∧ ys.length = i ∧ ∀ y ∈ ys, Lets y ∧ y.length = 1) ?_ ?_ ?_
    · have hD0 : H D = none := by
        cases q : H D with
        | none => rfl
        | some o =>
          by_cases e : D = t
          · obtain ⟨_, _, _, z, _⟩ := T1
            rw [e] at hD
            rw [hD] at z
            cases z
          · have := B1 D o e q
            rw [hD] at this
            cases this
      exact ⟨T1.new hD, B1.trans (But.new hD), hD0, [], upd_same, rfl, fun y hy => by cases hy⟩
    · rintro i H' hi ⟨T2, B2, hD0, ys, hy, hl, hys⟩
      refine ⟨rfl, ?_⟩
      refine ⟨_, rfl, _, rfl, _, rfl, sg, rfl, sl_small (by omega), t, _, n + 1 + i, rfl, by omega, log_small (by omega) (by omega), T2, by omega, fun u H2 u0 u1 T3 B3 => ?_⟩
      have hu : u.toNat < (tl sg).length := by
        rw [← len_tl]
        omega
      have hat : atI sg.cps.toList u = some ((tl sg)[u.toNat]) := by
        have q := atI_nat (j := u.toNat) (List.getElem?_eq_getElem hu)
        rw [Int.toNat_of_nonneg u0] at q
        exact q
      refine ⟨sg, u, _, rfl, rfl, sl_small (by omega), hat, ?_⟩
      have hDt : D ≠ t := fun e => by
        obtain ⟨_, _, _, z, _⟩ := ht
        rw [e] at hD0
        rw [hD0] at z
        cases z
      have hy2 := B3 D _ hDt hy
      refine ⟨ys.map V.str, hy2, by rw [List.length_map]; exact Nat.lt_of_lt_of_le (by omega) (sl_small (n := 100000) (Nat.le_refl _)), ?_, ?_, hD0, ys ++ [⟨#[(tl sg)[u.toNat]]⟩], ?_, ?_, ?_⟩
      · exact (T3.mono (by omega)).of (upd_ne hDt.symm)
      · intro b o hb hbo
        have := B3 b o hb (B2 b o hb hbo)
        rw [upd_ne (ne_of_none hbo hD0)]
        exact this
      · rw [List.map_append]
        exact upd_same
      · rw [List.length_append, hl]
        rfl
      · intro y hyy
        rcases List.mem_append.mp hyy with z | z
        · exact hys y z
        · rw [List.mem_singleton] at z
          rw [z]
          refine ⟨fun c hc => ?_, rfl⟩
          have hc : c ∈ [(tl sg)[u.toNat]] := hc
          rw [List.mem_singleton] at hc
          rw [hc]
          exact hsg _ (List.getElem_mem _)
    · rintro H' ⟨T2, B2, hD0, ys, hy, hl, hys⟩
      obtain ⟨j1, j2⟩ := join_lets ys hys
      refine ⟨_, D, ys, rfl, rfl, .inl (SqL.of hy), ?_, k _ _ j1 (by rw [j2]; omega) (T2.mono (by omega)) B2⟩
      rw [sum_ones ys fun y hy => (hys y hy).2]
      have e0 : ("" : Str).length = 0 := rfl
      rw [e0]
      omega

end
end K1
namespace K1
open PySem PySem.Spec PyProof.Rows L2 TL Bl
section
variable {P : Program} {w : World} {K : PySem.W.Frag} {mg : Str → Option Value} {base : Heap}
/-! ### _law_row -/
def WordsOk (ws : List Str) : Prop := ∀ x ∈ ws, Lets x ∧ x.length ≤ 200
def spRow : Sp := fun vs H Q _ => ∃ (t : Addr) (m n : Nat), vs = [.ref t, .int m] ∧ 1 ≤ m ∧ m ≤ 60 ∧ Tray H t n ∧ n ≤ 800000 ∧
  ∀ p ws H', H p = none → p ≠ t → H' p = some (.tup ((ws : List Str).map V.str)) → 1 ≤ ws.length → ws.length ≤ m → WordsOk ws → Tray H' t (n + 1000 + 200 * m) → But t H H' → Q (.ref p) H'
theorem scRow : FnScope ["tray", "most", "many", "style", "signs", "base", "tail", "found", "wide", "at"] ["tray", "most"] (defScope sRow) := ⟨rfl, rfl, rfl, by decide +kernel, rfl, by decide +kernel, by decide +kernel⟩
theorem but_none {t b : Addr} {H H' : Hp} {n : Nat} (hT : Tray H' t n) (h : But t H H') (e : H' b = none) : H b = none := by
  cases q : H b with
  | none => rfl
  | some o =>
    by_cases hb : b = t
    · obtain ⟨_, _, _, z, _⟩ := hT
      rw [hb] at e
      rw [e] at z
      cases z
    · rw [h b o hb q] at e
      cases e
theorem rep_flat (x : V) : ∀ n : Nat, (List.replicate n [x]).flatten = List.replicate n x
  | 0 => rfl
  | n + 1 => by rw [List.replicate_succ, List.flatten_cons, rep_flat x n, List.replicate_succ]; rfl
theorem min_many {mn m : Nat} {q : Int} (hq : 0 ≤ q) (h1 : 1 ≤ mn) (h2 : mn ≤ m) : ∃ k : Nat, (if 1 + q < (mn : Int) then 1 + q else (mn : Int)) = (k : Int) ∧ 1 ≤ k ∧ k ≤ m := by
  by_cases c : 1 + q < (mn : Int)
  · rw [if_pos c]
    exact ⟨(1 + q).toNat, by omega, by omega, by omega⟩
  · rw [if_neg c]
    exact ⟨mn, rfl, h1, h2⟩
theorem words_app {a b : List Str} (h : WordsOk a) (k : WordsOk b) : WordsOk (a ++ b) := fun x hx => (List.mem_append.mp hx).elim (h x) (k x)
theorem words_one {x : Str} (h : Lets x) (k : x.length ≤ 200) : WordsOk [x] := fun y hy => by
  rw [List.mem_singleton] at hy
  rw [hy]
  exact ⟨h, k⟩
set_option maxHeartbeats 4000000 in
theorem ok_row {f g le : Addr} {fd gd led : FuncData} (F : Fun K "_law_row" "_law_row" sRow f fd) (T : Names mg) (G : Fun K "_law_take" "_law_take" sTake g gd) (mG : mg "_law_take" = some (.ref g)) (bG : Binds K gd ["tray", "many"] [])
    (FL : Fun K "_law_letters" "_law_letters" sLetters le led) (mL : mg "_law_letters" = some (.ref le)) (bL : Binds K led ["tray", "signs", "most"] []) : FnOk P w K mg base CX0 3 f fd ["tray", "most"] spRow := by
  refine F.ok scRow (fun vs H Q E h => ?_) (fun cdv A outer s H vs Q E hr h => ?_)
  · obtain ⟨t, m, n, rfl, _⟩ := h
    rfl
  · obtain ⟨t, m, n, rfl, hm1, hm2, hT, hn, k⟩ := h
    have OT : FnOk P w K mg base CX0 1 g gd ["tray", "many"] spTake := ok_take G
    have OL : FnOk P w K mg base CX0 2 le led ["tray", "signs", "most"] spLetters := ok_letters FL T G mG bG
    have hr1 : Room 1 _ := hr.mono (by decide)
    refine ⟨_, Evl.pss_cut (ps_par (i := 2) (j := 3) rfl scRow.nd rfl rfl (by decide) rfl rfl (pa_cons (pe_op op_add pe_int (pe_call OT hr1 (by rfl) mG G.kp bG .nil pass0 (pa_cons (pv 0) (pa_cons (pv 1) pa_nil))))
          (pa_cons (pe_call OT hr1 (by rfl) mG G.kp bG .nil pass0 (pa_cons (pv 0) (pa_cons pe_int pa_nil))) pa_nil)) (by rfl))
      (Evl.pss_cut (ps_set (i := 4) scRow.nd rfl (Or.inr rfl) (pe_ix ix_list (pe_lst (pa_cons pe_str (pa_cons pe_str (pa_cons pe_str pa_nil)))) (pe_call OT hr1 (by rfl) mG G.kp bG .nil pass0 (pa_cons (pv 0) (pa_cons pe_int pa_nil))) (fun _ _ => rfl)))
      (Evl.pss_cut (ps_asg (pe_tup (pa_cons (pe_call OL hr (by rfl) mL FL.kp bL .nil pass0 (pa_cons (pv 0) (pa_cons (pv 4) (pa_cons pe_int pa_nil)))) (pa_cons (pe_call OL hr (by rfl) mL FL.kp bL .nil pass0 (pa_cons (pv 0) (pa_cons (pv 4) (pa_cons pe_int pa_nil)))) pa_nil)))
          (pg_tup rfl (pgs_cons (pg_name (i := 5) scRow.nd rfl (Or.inr rfl)) (pgs_cons (pg_name (i := 6) scRow.nd rfl (Or.inr rfl)) pgs_nil))))
      (Evl.pss_cut (ps_if (pt_cmpR op_in_seq (pv 3) (pe_tup (pa_cons pe_int (pa_cons pe_int pa_nil))) (by rfl))
          (pss_one (ps_set (i := 2) scRow.nd rfl (Or.inl rfl) (pe_callB (call_min2 rfl) (by rfl) T.min boot_min (pa_cons (pv 2) (pa_cons (pe_op op_add pe_int (pe_op op_fdiv pe_int
            (pe_callB (call_max2 rfl) (by rfl) T.max boot_max (pa_cons pe_int (pa_cons (pe_callB call_len_str (by rfl) T.len PySem.boot_len (pa_cons (pv 5) pa_nil)) pa_nil))))) pa_nil))))) pss_nil)
      (Evl.pss_cut (ps_setLc (i := 7) (own := [("at", 9)]) (g := gName 9) (tt := tYes) rfl scRow.nd rfl rfl (sw_true rfl rfl rfl (by decide +kernel)) (pi_range1 (by rfl) T.range (pa_cons (pv 2) pa_nil))
          (blkOk_by (N := ["tray", "most", "many", "style", "signs", "base", "tail", "found", "wide", "at"]) (sc := defScope sRow) (by decide +kernel)) (fun _ _ _ _ _ => pg_name (i := 9) scRow.nd rfl (Or.inl rfl)) (fun _ _ _ _ _ => pts_nil)
          (fun _ _ _ _ _ => pe_op op_add_str (pe_op op_mulS (pv 5) (pv 9)) (pv 6)))
      (Evl.pss_cut (ps_if (pt_cmpR op_eq (pv 3) pe_int (nomark _)) (pss_one (ps_set (i := 7) scRow.nd rfl (Or.inl rfl) (pe_revL (pv 7)))) pss_nil)
      (Evl.pss_cut (ps_if (pt_cmpR op_eq (pv 3) pe_int (nomark _)) (pss_one (ps_set (i := 7) scRow.nd rfl (Or.inl rfl) (pe_op op_rep (pe_lst (pa_cons (pe_op op_add_str (pv 5) (pv 6)) pa_nil)) (pv 2)))) pss_nil)
      (Evl.pss_cut (ps_if (pt_cmpR op_in_seq (pv 3) (pe_tup (pa_cons pe_int (pa_cons pe_int pa_nil))) (by rfl))
          (pss_cons (ps_set (i := 8) scRow.nd rfl (Or.inr rfl) (pe_ix ix_list (pe_lst (pa_cons pe_int (pa_cons pe_int (pa_cons pe_int pa_nil)))) (pe_call OT hr1 (by rfl) mG G.kp bG .nil pass0 (pa_cons (pv 0) (pa_cons pe_int pa_nil))) (fun _ _ => rfl)))
          (pss_one (ps_setLc (i := 7) (own := [("at", 9)]) (g := gName 9) (tt := tYes) rfl scRow.nd rfl rfl (sw_true rfl rfl rfl (by decide +kernel)) (pi_range1 (by rfl) T.range (pa_cons (pv 2) pa_nil))
            (blkOk_by (N := ["tray", "most", "many", "style", "signs", "base", "tail", "found", "wide", "at"]) (sc := defScope sRow) (by decide +kernel)) (fun _ _ _ _ _ => pg_name (i := 9) scRow.nd rfl (Or.inl rfl)) (fun _ _ _ _ _ => pts_nil)
            (fun _ _ _ _ _ => pe_call OL hr (by rfl) mL FL.kp bL .nil pass0 (pa_cons (pv 0) (pa_cons (pv 4) (pa_cons (pv 8) pa_nil))))))) pss_nil)
      (pss_one (ps_ret (pe_callTy call_tuple_of (by rfl) T.tuple (by decide +kernel) (pa_cons (pv 7) pa_nil))))))))))), ?_⟩
    -- many, style
    refine ⟨fun σ H1 => ∃ (mn : Nat) (st : Int), σ = [some (.ref t), some (.int m), some (.int mn), some (.int st), none, none, none, none, none, none] ∧ 1 ≤ mn ∧ mn ≤ m ∧ Tray H1 t (n + 2) ∧ But t H H1, ?_, ?_⟩
    · refine ⟨_, rfl, _, rfl, t, m, n, rfl, by omega, log_small (by omega) (by omega), hT, by omega, fun v H1 v0 v1 T1 B1 => ?_⟩
      refine ⟨_, _, rfl, rfl, _, rfl, t, 5, n + 1, rfl, by decide, log_small (by decide) (by decide), T1, by omega, fun u H2 u0 u1 T2 B2 => ?_⟩
      refine ⟨_, _, rfl, (1 + v).toNat, u, ?_, by omega, by omega, T2, B1.trans B2⟩
      have e : ((1 + v).toNat : Int) = 1 + v := by omega
      rw [e]
      rfl
    rintro σ H1 ⟨mn, st, rfl, mn1, mn2, T1, B1⟩
    -- the text of signs
    refine ⟨fun σ H2 => ∃ (sg : Str), σ = [some (.ref t), some (.int m), some (.int mn), some (.int st), some (.str sg), none, none, none, none, none] ∧ Lets sg ∧ 1 ≤ sg.length ∧ sg.length ≤ 100 ∧ Tray H2 t (n + 3) ∧ But t H H2, ?_, ?_⟩
    · refine ⟨(by show 3 ≤ sizeLine; decide), fun l1 hl1 => ?_⟩
      refine ⟨_, rfl, t, 3, n + 2, rfl, by decide, log_small (by decide) (by decide), T1.new hl1, by omega, fun v H2 v0 v1 T2 B2 => ?_⟩
      obtain ⟨x, hx, hx3⟩ := pick3 (V.str "x") (V.str "ab") (V.str "abcdefghijklmnopqrstuvwxyz") v0 v1
      have hx3 : ∃ sg : Str, x = .str sg ∧ Lets sg ∧ 1 ≤ sg.length ∧ sg.length ≤ 100 := by
        rcases hx3 with e | e | e
        · exact ⟨_, e, lets_x, by decide +kernel, by decide +kernel⟩
        · exact ⟨_, e, lets_ab, by decide +kernel, by decide +kernel⟩
        · exact ⟨_, e, lets_az, by decide +kernel, by decide +kernel⟩
      obtain ⟨sg, rfl, s1, s2, s3⟩ := hx3
      have n1 : l1 ≠ t := (T1.ne hl1).symm
      exact ⟨l1, _, v, _, rfl, rfl, SqL.of (B2 l1 _ n1 upd_same), hx, sg, rfl, s1, s2, s3, T2, B1.trans ((But.new hl1).trans B2)⟩
    rintro σ H2 ⟨sg, rfl, s1, s2, s3, T2, B2⟩
    -- base, tail
    refine ⟨fun σ H3 => ∃ (ba ta : Str), σ = [some (.ref t), some (.int m), some (.int mn), some (.int st), some (.str sg), some (.str ba), some (.str ta), none, none, none] ∧ Lets ba ∧ Lets ta ∧ ba.length ≤ 2 ∧ ta.length ≤ 2 ∧ Tray H3 t (n + 403) ∧ But t H H3, ?_, ?_⟩
    · refine ⟨_, rfl, _, rfl, t, sg, 2, n + 3, rfl, s1, s2, s3, by decide, by decide, T2, by omega, fun x H3 lx hx T3 B3 => ?_⟩
      refine ⟨_, rfl, _, rfl, t, sg, 2, n + 203, rfl, s1, s2, s3, by decide, by decide, T3, by omega, fun y H4 ly hy T4 B4 => ?_⟩
      exact ⟨(by show 2 ≤ sizeLine; decide), fun p hp => ⟨p, _, rfl, SqT.of upd_same, rfl, _, _, rfl, _, _, rfl, rfl, x, y, rfl, lx, ly, by omega, by omega, T4.new hp, ((B2.trans B3).trans B4).trans (But.new hp)⟩⟩
    rintro σ H3 ⟨ba, ta, rfl, g1, g2, g3, g4, T3, B3⟩
    -- fewer, where the base would grow too long
    refine ⟨fun σ H4 => ∃ (mn : Nat), σ = [some (.ref t), some (.int m), some (.int mn), some (.int st), some (.str sg), some (.str ba), some (.str ta), none, none, none] ∧ 1 ≤ mn ∧ mn ≤ m ∧ Tray H4 t (n + 403) ∧ But t H H4, ?_, ?_⟩
    · refine ⟨_, rfl, (by show 2 ≤ sizeLine; decide), fun p hp => ⟨p, _, rfl, .inr (SqT.of upd_same), rfl, rfl, _, rfl, ?_⟩⟩
      refine ite2 (fun _ => ?_) (fun _ => ?_)
      · refine ⟨_, rfl, _, rfl, ba, rfl, sl_small (by omega), _, _, rfl, _, _, rfl, rfl, ?_, _, _, rfl, rfl, _, _, rfl, ?_⟩
        · constructor
          · show (0 : Int) < if ((ba.length : Nat) : Int) > 1 then ((ba.length : Nat) : Int) else 1
            split <;> omega
          · show (if ((ba.length : Nat) : Int) > 1 then ((ba.length : Nat) : Int) else 1) < (1073741824 : Int)
            split <;> omega
        · have hq : (0 : Int) ≤ 18 / (if ((ba.length : Nat) : Int) > 1 then ((ba.length : Nat) : Int) else 1) := Int.ediv_nonneg (by decide) (by split <;> omega)
          obtain ⟨k1, ek, hk1, hk2⟩ := min_many (m := m) hq mn1 mn2
          refine ⟨k1, ?_, hk1, hk2, T3.new hp, B3.trans (But.new hp)⟩
          rw [← ek]
          rfl
      · exact ⟨mn, rfl, mn1, mn2, T3.new hp, B3.trans (But.new hp)⟩
    clear mn1 mn2
    rintro σ H4 ⟨mn, rfl, mn1, mn2, T4, B4⟩
    -- the words, a first time
    refine ⟨fun σ H5 => ∃ (l : Addr) (ws : List Str), σ = [some (.ref t), some (.int m), some (.int mn), some (.int st), some (.str sg), some (.str ba), some (.str ta), some (.ref l), none, none] ∧ H5 l = some (.lst (ws.map V.str)) ∧ ws.length = mn ∧ WordsOk ws ∧ Tray H5 t (n + 403) ∧ But t H H5, ?_, ?_⟩
    · refine ⟨_, rfl, _, rfl, by omega, by omega, fun D hD => ?_⟩
      have hD0 : H D = none := but_none T4 B4 hD
      refine lc_range (lo := 0) (fun i H' => Tray H' t (n + 403) ∧ But t H H' ∧ ∃ ws : List Str, H' D = some (.lst (ws.map V.str)) ∧ ws.length = i ∧ WordsOk ws) ⟨T4.new hD, B4.trans (But.new hD), [], upd_same, rfl, fun x hx => by cases hx⟩ ?_ ?_
      · rintro i H' hi ⟨T5, B5, ws, hw, hl, hok⟩
        have hi : i < (mn : Int).toNat := hi
        have e0 : (0 : Int) + (i : Int) = (i : Int) := Int.zero_add _
        have hlen : (Txt.mul ba (i : Int)).length ≤ 120 := by
          rw [Bl.len_mul]
          calc i * ba.length ≤ 60 * 2 := Nat.mul_le_mul (by omega) g3
            _ = 120 := by decide
        refine ⟨rfl, ?_⟩
        refine ⟨_, rfl, _, rfl, ba, (i : Int), rfl, by rw [e0], by omega, by omega, ?_, _, rfl, _, _, rfl, rfl, sl_small (by omega), ?_⟩
        · rw [Int.toNat_natCast]
          refine sl_small ?_
          calc ba.length * i ≤ 2 * 60 := Nat.mul_le_mul g3 (by omega)
            _ ≤ 100000 := by decide
        · refine ⟨ws.map V.str, hw, by rw [List.length_map]; exact Nat.lt_of_lt_of_le (by omega) (sl_small (n := 100000) (Nat.le_refl _)), T5.of (upd_ne (fun e => by obtain ⟨_, _, _, z, _⟩ := T4; rw [← e] at hD; rw [hD] at z; cases z)), fun b o hb hbo => ?_, ws ++ [Txt.mul ba (i : Int) ++ ta], ?_, ?_, ?_⟩
          · rw [upd_ne (ne_of_none hbo hD0)]
            exact B5 b o hb hbo
          · rw [List.map_append]
            exact upd_same
          · rw [List.length_append, hl]
            rfl
          · exact words_app hok (words_one ((lets_mul g1 i).app g2) (by rw [len_app]; omega))
      · rintro H' ⟨T5, B5, ws, hw, hl, hok⟩
        exact ⟨D, ws, rfl, hw, by have : (mn : Int).toNat = mn := Int.toNat_natCast mn; omega, hok, T5, B5⟩
    rintro σ H5 ⟨l, ws, rfl, hw, hl, hok, T5, B5⟩
    -- turned round
    refine ⟨fun σ H5 => ∃ (l : Addr) (ws : List Str), σ = [some (.ref t), some (.int m), some (.int mn), some (.int st), some (.str sg), some (.str ba), some (.str ta), some (.ref l), none, none] ∧ H5 l = some (.lst (ws.map V.str)) ∧ ws.length = mn ∧ WordsOk ws ∧ Tray H5 t (n + 403) ∧ But t H H5, ?_, ?_⟩
    · refine ⟨_, rfl, rfl, _, rfl, ?_⟩
      refine ite2 (fun _ => ?_) (fun _ => ?_)
      · refine ⟨_, rfl, l, _, rfl, SqL.of hw, fun p hp => ⟨p, ws.reverse, rfl, ?_, by rw [List.length_reverse]; exact hl, fun x hx => hok x (List.mem_reverse.mp hx), T5.new hp, B5.trans (But.new hp)⟩⟩
        rw [List.map_reverse]
        exact upd_same
      · exact ⟨l, ws, rfl, hw, hl, hok, T5, B5⟩
    clear hw hl hok T5 B5
    rintro σ H5 ⟨l, ws, rfl, hw, hl, hok, T5, B5⟩
    -- all alike
    refine ⟨fun σ H5 => ∃ (l : Addr) (ws : List Str), σ = [some (.ref t), some (.int m), some (.int mn), some (.int st), some (.str sg), some (.str ba), some (.str ta), some (.ref l), none, none] ∧ H5 l = some (.lst (ws.map V.str)) ∧ ws.length = mn ∧ WordsOk ws ∧ Tray H5 t (n + 403) ∧ But t H H5, ?_, ?_⟩
    · refine ⟨_, rfl, rfl, _, rfl, ?_⟩
      refine ite2 (fun _ => ?_) (fun _ => ?_)
      · refine ⟨_, rfl, _, rfl, _, _, rfl, rfl, sl_small (by omega), (by show 1 ≤ sizeLine; decide), fun l1 hl1 => ?_⟩
        refine ⟨_, rfl, l1, mn, _, rfl, rfl, upd_same, by omega, by omega, ?_, fun p hp => ⟨p, List.replicate mn (ba ++ ta), rfl, ?_, List.length_replicate, ?_, (T5.new hl1).new hp, B5.trans ((But.new hl1).trans (But.new hp))⟩⟩
        · show 1 * (mn : Int).toNat ≤ sizeLine
          exact sl_small (by omega)
        · have e : (List.replicate (mn : Int).toNat [V.str (ba ++ ta)]).flatten = (List.replicate mn (ba ++ ta)).map V.str := by
            rw [Int.toNat_natCast, List.map_replicate, rep_flat]
          rw [e]
          exact upd_same
        · intro x hx
          rw [(List.mem_replicate.mp hx).2]
          exact ⟨g1.app g2, by rw [len_app]; omega⟩
      · exact ⟨l, ws, rfl, hw, hl, hok, T5, B5⟩
    clear hw hl hok T5 B5
    rintro σ H5 ⟨l, ws, rfl, hw, hl, hok, T5, B5⟩
    -- any words
    refine ⟨fun σ H6 => ∃ (l : Addr) (ws : List Str) (o : Option V), σ = [some (.ref t), some (.int m), some (.int mn), some (.int st), some (.str sg), some (.str ba), some (.str ta), some (.ref l), o, none] ∧ H6 l = some (.lst (ws.map V.str)) ∧ ws.length = mn ∧ WordsOk ws ∧ Tray H6 t (n + 404 + 200 * m) ∧ But t H H6, ?_, ?_⟩
    · refine ⟨_, rfl, (by show 2 ≤ sizeLine; decide), fun p hp => ⟨p, _, rfl, .inr (SqT.of upd_same), rfl, rfl, _, rfl, ?_⟩⟩
      refine ite2 (fun _ => ?_) (fun _ => ?_)
      · refine ⟨(by show 3 ≤ sizeLine; decide), fun l1 hl1 => ?_⟩
        have T6 := (T5.new hp).new (o := .lst [.int 2, .int 4, .int 20]) hl1
        have B6 := B5.trans ((But.new (t := t) (o := .tup [.int 0, .int 4]) hp).trans (But.new (o := .lst [.int 2, .int 4, .int 20]) hl1))
        refine ⟨_, rfl, t, 3, n + 403, rfl, by decide, log_small (by decide) (by decide), T6, by omega, fun v H7 v0 v1 T7 B7 => ?_⟩
        obtain ⟨x, hx, hx3⟩ := pick3 (V.int 2) (V.int 4) (V.int 20) v0 v1
        have hx3 : ∃ wd : Int, x = .int wd ∧ 0 ≤ wd ∧ wd ≤ 20 := by
          rcases hx3 with e | e | e
          · exact ⟨_, e, by decide, by decide⟩
          · exact ⟨_, e, by decide, by decide⟩
          · exact ⟨_, e, by decide, by decide⟩
        obtain ⟨wd, rfl, w1, w2⟩ := hx3
        have n1 : l1 ≠ t := ((T5.new (o := .tup [.int 0, .int 4]) hp).ne hl1).symm
        refine ⟨l1, _, v, _, rfl, rfl, SqL.of (B7 l1 _ n1 upd_same), hx, ?_⟩
        have B8 := B6.trans B7
        refine ⟨_, rfl, _, rfl, by omega, by omega, fun D hD => ?_⟩
        have hD0 : H D = none := but_none T7 B8 hD
        have nD : D ≠ t := (T7.ne hD).symm
        refine lc_range (lo := 0) (fun i H' => Tray H' t (n + 404 + 200 * i) ∧ But t H H' ∧ ∃ ws : List Str, H' D = some (.lst (ws.map V.str)) ∧ ws.length = i ∧ WordsOk ws) ⟨T7.new hD, B8.trans (But.new hD), [], upd_same, rfl, fun x hx => by cases hx⟩ ?_ ?_
        · rintro i H' hi ⟨T9, B9, ws, hw, hl, hok⟩
          have hi : i < (mn : Int).toNat := hi
          refine ⟨rfl, ?_⟩
          refine ⟨_, rfl, _, rfl, _, rfl, t, sg, wd, n + 404 + 200 * i, rfl, s1, s2, s3, by omega, by omega, T9, by omega, fun x H9 lx hx T10 B10 => ?_⟩
          refine ⟨ws.map V.str, B10 D _ nD hw, by rw [List.length_map]; exact Nat.lt_of_lt_of_le (by omega) (sl_small (n := 100000) (Nat.le_refl _)), (T10.mono (by omega)).of (upd_ne nD.symm), fun b o hb hbo => ?_, ws ++ [x], ?_, ?_, ?_⟩
          · rw [upd_ne (ne_of_none hbo hD0)]
            exact B10 b o hb (B9 b o hb hbo)
          · rw [List.map_append]
            exact upd_same
          · rw [List.length_append, hl]
            rfl
          · exact words_app hok (words_one lx (by omega))
        · rintro H' ⟨T9, B9, ws, hw, hl, hok⟩
          have hmn : (mn : Int).toNat = mn := Int.toNat_natCast mn
          exact ⟨D, ws, some (.int wd), rfl, hw, by omega, hok, T9.mono (by omega), B9⟩
      · refine ⟨l, ws, none, rfl, ?_, hl, hok, (T5.new hp).mono (by omega), B5.trans (But.new hp)⟩
        rw [upd_ne (ne_of_none hw hp)]
        exact hw
    clear hw hl hok T5 B5
    rintro σ H6 ⟨l, ws, o, rfl, hw, hl, hok, T6, B6⟩
    refine ⟨_, rfl, l, _, rfl, .inl ⟨SqL.of hw, fun p hp => ?_⟩⟩
    exact k p ws _ (but_none T6 B6 hp) (T6.ne hp).symm upd_same (by omega) (by omega) hok ((T6.new hp).mono (by omega)) (B6.trans (But.new hp))
end
end K1
namespace K1
open PySem PySem.Spec PyProof.Rows L2 TL Bl
/-! ### what the law asks of rows -/
def stx (ds : List PyData) : List Str := ds.filterMap fun d => match d with | .str x => some x | _ => none
theorem stx_app (a b : List PyData) : stx (a ++ b) = stx a ++ stx b := by
  unfold stx
  exact List.filterMap_append
theorem stx_len : ∀ ds : List PyData, (stx ds).length ≤ ds.length := fun ds => List.length_filterMap_le _ _
theorem stx_yes (x : Str) : stx [.str x] = [x] := rfl
theorem stx_no {d : PyData} (h : isS d = false) : stx [d] = [] := by
  cases d <;> first | rfl | exact absurd h (by simp [isS])
theorem stx_sum : ∀ ds : List PyData, ((stx ds).map (·.length)).sum ≤ szAll ds
  | [] => Nat.zero_le _
  | d :: ds => by
    have ih := stx_sum ds
    have e : stx (d :: ds) = stx [d] ++ stx ds := stx_app [d] ds
    rw [e, List.map_append, List.sum_append]
    show _ ≤ sz d + 2 + szAll ds
    cases h : isS d with
    | false =>
      rw [stx_no h]
      simp only [List.map_nil, List.sum_nil]
      omega
    | true =>
      cases d with
      | str x =>
        rw [stx_yes]
        simp only [List.map_cons, List.map_nil, List.sum_cons, List.sum_nil]
        show x.length + 0 + _ ≤ 10 * x.length + 2 + 2 + szAll ds
        omega
      | _ => exact absurd h (by simp [isS])
theorem flat_join : ∀ ps : List (List Nat), joinL [] ps = ps.flatten
  | [] => rfl
  | [p] => by simp [joinL]
  | p :: q :: r => by
    have ih := flat_join (q :: r)
    have e : joinL [] (p :: q :: r) = p ++ ([] ++ joinL [] (q :: r)) := by simp [joinL]
    rw [e, ih]
    simp
theorem join_iff (ys : List Str) : Lets (Txt.join "" ys) ↔ ∀ y ∈ ys, Lets y := by
  have e : tl (Txt.join "" ys) = (ys.map tl).flatten := by
    rw [join_eq, tl_join]
    exact flat_join _
  unfold Lets
  rw [e]
  constructor
  · intro h y hy c hc
    exact h c (List.mem_flatten.mpr ⟨tl y, List.mem_map_of_mem hy, hc⟩)
  · intro h c hc
    obtain ⟨l, hl, hc⟩ := List.mem_flatten.mp hc
    obtain ⟨y, hy, rfl⟩ := List.mem_map.mp hl
    exact h y hy c hc
theorem row_law : ∀ ds : List PyData, ds.all wordD = true ↔ ((stx ds).length = ds.length ∧ ∀ y ∈ stx ds, Lets y)
  | [] => by simp [stx]
  | d :: ds => by
    have ih := row_law ds
    have e : stx (d :: ds) = stx [d] ++ stx ds := stx_app [d] ds
    have hl := stx_len ds
    rw [e, List.all_cons, Bool.and_eq_true, ih]
    cases h : isS d with
    | false =>
      rw [stx_no h]
      have hw : wordD d = false := by cases d <;> first | rfl | exact absurd h (by simp [isS])
      rw [hw]
      constructor
      · rintro ⟨z, _⟩
        exact absurd z Bool.false_ne_true
      · rintro ⟨z, _⟩
        simp only [List.nil_append, List.length_cons] at z
        omega
    | true =>
      cases d with
      | str x =>
        rw [stx_yes]
        have hw : wordD (.str x) = wordB x := rfl
        rw [hw, word_iff]
        simp only [List.singleton_append, List.length_cons, List.mem_cons, forall_eq_or_imp]
        constructor
        · rintro ⟨a, b, c⟩
          exact ⟨by omega, a, c⟩
        · rintro ⟨a, b, c⟩
          exact ⟨b, by omega, c⟩
      | _ => exact absurd h (by simp [isS])
section
variable {P : Program} {w : World} {K : PySem.W.Frag} {mg : Str → Option Value} {base : Heap}
theorem scLIsRow : FnScope ["given", "strings", "one"] ["given"] (defScope sLIsRow) := ⟨rfl, rfl, rfl, by decide +kernel, rfl, by decide +kernel, by decide +kernel⟩
set_option maxHeartbeats 1000000 in
theorem ok_lIsRow {f : Addr} {fd : FuncData} (F : Fun K "_law_is_row" "_law_is_row" sLIsRow f fd) (T : Names mg) : FnOk P w K mg base CX0 1 f fd ["given"] (spRowB K rowD) := by
  refine F.ok scLIsRow (fun vs H Q E h => ?_) (fun cdv A outer s H vs Q E hr h => ?_)
  · obtain ⟨v, d, rfl, _⟩ := h
    rfl
  · obtain ⟨v, d, rfl, hd, hz, k⟩ := h
    refine ⟨_, pss_cons (ps_if (PW.pt (pw_or (pt_not (pt_val (pe_callB call_isi (by rfl) T.isi boot_isinstance (pa_cons (pv 0) (pa_cons (pe_bltn (v := .ty "tuple") (by rfl) T.tuple (by decide +kernel) rfl) pa_nil)))))
        (pw_or1 (pt_cmpR op_eq (pe_callB call_len_seq (by rfl) T.len PySem.boot_len (pa_cons (pv 0) pa_nil)) pe_int (nomark _))))) (pss_one (ps_ret pe_bl)) pss_nil)
      (pss_cons (ps_setLc (i := 1) (own := [("one", 2)]) (g := gName 2) (tt := tB (tCB (rIsi K) (tCons (tVar 2) (tCons (tC (.ty "str")) tNil)))) rfl scLIsRow.nd rfl rfl (sw_true rfl rfl rfl (by decide +kernel)) (pi_tup (pv 0))
        (blkOk_by (N := ["given", "strings", "one"]) (sc := defScope sLIsRow) (by decide +kernel)) (fun _ _ _ _ _ => pg_name (i := 2) scLIsRow.nd rfl (Or.inl rfl))
        (fun _ _ _ _ _ => pts_one (pt_val (pe_callB (r := rIsi K) call_isi (by rfl) T.isi boot_isinstance (pa_cons (pv 2) (pa_cons (pe_bltn (v := .ty "str") (by rfl) T.str PyProof.Rows.boot_str rfl) pa_nil))))) (fun _ _ _ _ _ => pv 2))
      (pss_one (ps_ret (pe_and (pe_cmpR op_eq (pe_callB call_len_seq (by rfl) T.len PySem.boot_len (pa_cons (pv 1) pa_nil)) (pe_callB call_len_seq (by rfl) T.len PySem.boot_len (pa_cons (pv 0) pa_nil)) (nomark _))
        (pe_one (pe_cmpR op_eq (pe_m1 PySem.F.slot_str_strip PySem.F.type_str_strip mt_stripChars (pe_join pe_str (pv 1)) pe_str) pe_str (nomark _))))))), ?_⟩
    refine ⟨_, rfl, _, .ty "tuple", _, _, isT d, rfl, .ty "tuple", ty_of hd, kit_ty (kit_t d), isT d, rfl, ?_⟩
    cases e : isT d with
    | false =>
      refine iteT (iteT ?_)
      have ew : rowD d = false := by
        cases d <;> first | rfl | exact absurd e (by simp [isT])
      rw [ew] at k
      exact k H (Same.refl H)
    | true =>
      refine iteF ?_
      obtain ⟨a, xs, ds, rfl, rfl, hT, hA⟩ := tup_of hd e
      have hlen := hA.len
      refine ⟨_, rfl, a, xs, rfl, .inr hT, rfl, _, rfl, ?_⟩
      have k : ∀ H', Same H H' → Q (.bl (!ds.isEmpty && ds.all wordD)) H' := k
      refine ite2 (fun c => ?_) (fun c => ?_)
      · have hx : xs.length = 0 := by
          have := V.int.inj (of_decide_eq_true c)
          omega
        have hd0 : ds = [] := List.eq_nil_of_length_eq_zero (by omega)
        subst hd0
        exact k H (Same.refl H)
      · have hd0 : ds.isEmpty = false := by
          cases ds with
          | nil => exact absurd (decide_eq_true (by rw [hlen]; rfl)) c
          | cons x r => rfl
        rw [hd0] at k
        have h2 : szAll ds + 3 ≤ 16000000 := hz
        have hsz := sz_len ds
        refine ⟨_, rfl, a, rfl, ⟨xs, hT⟩, fun D hD => lc_tup (xs := xs) (fun j H' => Same H H' ∧ H' D = some (.lst ((stx (ds.take j)).map V.str))) ⟨same_new hD, by simp [upd_same, stx]⟩ (fun j H' _ p => same_t p.1 hT) ?_ ?_⟩
        · rintro j x H' hx ⟨S1, h1⟩
          obtain ⟨d, e1, e2⟩ := gd_same hA S1 hx
          have hj : j < ds.length := (List.getElem?_eq_some_iff.mp e1).1
          refine ⟨rfl, ?_⟩
          refine ⟨_, rfl, x, .ty "str", _, _, isS d, rfl, .ty "str", ty_of e2, kit_ty (kit_s d), isS d, rfl, ?_⟩
          cases es : isS d with
          | false =>
            refine iteF ⟨S1, ?_⟩
            rw [take_more e1, stx_app, stx_no es, List.append_nil]
            exact h1
          | true =>
            obtain ⟨z, rfl, rfl⟩ := str_of e2 es
            refine iteT ⟨_, rfl, _, h1, ?_, same_d hD S1, ?_⟩
            · have := stx_len (ds.take j)
              rw [List.length_take] at this
              rw [List.length_map, sizeLine_eq]
              omega
            · rw [take_more e1, stx_app, stx_yes, List.map_append]
              exact upd_same
        · rintro H' ⟨S1, h1⟩
          rw [hlen, List.take_length] at h1
          have hsl := stx_len ds
          refine ⟨_, rfl, D, _, rfl, .inl (SqL.of h1), _, rfl, a, xs, rfl, .inr (same_t S1 hT), rfl, _, rfl, ?_⟩
          rw [List.length_map]
          have hlaw := row_law ds
          refine ite2 (fun c => ?_) (fun c => ?_)
          · have c := V.int.inj (of_decide_eq_true c)
            have hsum := stx_sum ds
            refine ⟨⟨_, rfl⟩, _, rfl, _, D, _, rfl, rfl, .inl (SqL.of h1), ?_, ⟨_, rfl⟩, _, _, rfl, rfl, ?_, rfl, ?_⟩
            · have e0 : ("" : Str).length = 0 := rfl
              rw [e0]
              omega
            · have hj : (Txt.join "" (stx ds)).length = ((stx ds).map (·.length)).sum := by
                rw [join_eq, len_tl, tl_join]
                have e0 : tl ("" : Str) = [] := rfl
                rw [e0, flat_join, List.length_flatten, List.map_map]
                congr 1
              rw [hj]
              exact Nat.le_trans (by omega : _ ≤ 16777216) (by rw [sizeLine_eq]; exact Nat.le_refl _)
            · have hiff : decide (V.str (Txt.stripChars (Txt.join "" (stx ds)) azs) = V.str "") = ds.all wordD := by
                rw [Bool.eq_iff_iff, decide_eq_true_eq, hlaw]
                constructor
                · intro z
                  have z := V.str.inj z
                  have z0 : (Txt.stripChars (Txt.join "" (stx ds)) azs).length = 0 := by rw [z]; rfl
                  exact ⟨by omega, (join_iff _).mp (strip_lets.mp z0)⟩
                · rintro ⟨_, z⟩
                  exact congrArg V.str (empty_iff.mpr (strip_lets.mpr ((join_iff _).mpr z)))
              have k := k H' S1
              rw [← hiff] at k
              exact k
          · have hf : ds.all wordD = false := by
              cases hb : ds.all wordD with
              | false => rfl
              | true =>
                have := (hlaw.mp hb).1
                exact absurd (decide_eq_true (by rw [this, hlen])) c
            have k := k H' S1
            rw [hf] at k
            exact k
end
end K1
namespace K1
open PySem PySem.Spec PyProof.Rows L2 TL Bl
def gOne {α : Type} : List α → List α → List α
  | [], zs => zs
  | _, _ => []
section
variable {P : Program} {w : World} {K : PySem.W.Frag} {mg : Str → Option Value} {base : Heap}
theorem kb_one {py : Str} {st : Stmt} {p : Str} {f : Addr} {fd : FuncData} (F : Fun K py py st f fd)
    (h : ∀ (kV doc pm : Value) (an : Option Addr) (cdv ct : Value) (u : Value), bindArgs (PySem.W.fnOf py py (defArgs st) (defBody st) (defScope st) .none kV doc pm an cdv ct) ⟨[], [(p, u)]⟩ = pure [(p, u)]) : KBinds K fd [p] [p] gOne gOne := by
  obtain ⟨oc, od, kV, doc, pm, an, cdv, ct, osl, rfl, lk, hcd⟩ := F.ex
  constructor
  · intro s us ws _ hl
    match us, ws, hl with
    | [], [x], _ => exact .of_eq (h kV doc pm an cdv ct x)
  · intro vs us zs ws r1 r2
    cases r1 with
    | nil => exact r2
    | cons _ _ => exact .nil
theorem scLIsProd : FnScope ["given", "one"] ["given"] (defScope sLIsProd) := ⟨rfl, rfl, rfl, by decide +kernel, rfl, by decide +kernel, by decide +kernel⟩
theorem ok_lIsProd {f r : Addr} {fd rd : FuncData} (F : Fun K "_law_is_product" "_law_is_product" sLIsProd f fd) (T : Names mg) (R : Fun K "_law_is_row" "_law_is_row" sLIsRow r rd) (mR : mg "_law_is_row" = some (.ref r)) (bR : Binds K rd ["given"] []) :
    FnOk P w K mg base CX0 2 f fd ["given"] (spRowB K prodD) := by
  refine F.ok scLIsProd (fun vs H Q E h => ?_) (fun cdv A outer s H vs Q E hr h => ?_)
  · obtain ⟨v, d, rfl, _⟩ := h
    rfl
  · obtain ⟨v, d, rfl, hd, hz, k⟩ := h
    have hu := hr.units
    refine ⟨_, pss_cons (ps_if (PW.pt (pw_or (pt_not (pt_val (pe_callB call_isi (by rfl) T.isi boot_isinstance (pa_cons (pv 0) (pa_cons (pe_bltn (v := .ty "tuple") (by rfl) T.tuple (by decide +kernel) rfl) pa_nil)))))
        (pw_or1 (pt_cmpR op_eq (pe_callB call_len_seq (by rfl) T.len PySem.boot_len (pa_cons (pv 0) pa_nil)) pe_int (nomark _))))) (pss_one (ps_ret pe_bl)) pss_nil)
      (pss_one (ps_ret (pe_cmpR (op_eqNil hu) (pe_lc (own := [("one", 1)]) (g := gName 1) (tt := tNot (tB (tCall (spRowB K rowD) [] E0 (tCons (tVar 1) tNil)))) rfl scLIsProd.nd (pi_tup (pv 0))
        (blkOk_by (N := ["given", "one"]) (sc := defScope sLIsProd) (by decide +kernel)) (fun _ _ _ _ _ => pg_name (i := 1) scLIsProd.nd rfl (Or.inl rfl))
        (fun _ _ _ _ _ => pts_one (pt_not (pt_val (pe_call (ok_lIsRow R T) hr (by rfl) mR R.kp bR .nil pass0 (pa_cons (pv 1) pa_nil))))) (fun _ _ _ _ _ => pv 1)) (pe_lst pa_nil) (nomark _)))), ?_⟩
    refine ⟨_, rfl, _, .ty "tuple", _, _, isT d, rfl, .ty "tuple", ty_of hd, kit_ty (kit_t d), isT d, rfl, ?_⟩
    cases e : isT d with
    | false =>
      refine iteT (iteT ?_)
      have ew : prodD d = false := by
        cases d <;> first | rfl | exact absurd e (by simp [isT])
      rw [ew] at k
      exact k H (Same.refl H)
    | true =>
      refine iteF ?_
      obtain ⟨a, xs, ds, rfl, rfl, hT, hA⟩ := tup_of hd e
      have hlen := hA.len
      refine ⟨_, rfl, a, xs, rfl, .inr hT, rfl, _, rfl, ?_⟩
      have k : ∀ H', Same H H' → Q (.bl (!ds.isEmpty && ds.all rowD)) H' := k
      refine ite2 (fun c => ?_) (fun c => ?_)
      · have hx : xs.length = 0 := by
          have := V.int.inj (of_decide_eq_true c)
          omega
        have hd0 : ds = [] := List.eq_nil_of_length_eq_zero (by omega)
        subst hd0
        exact k H (Same.refl H)
      · have hd0 : ds.isEmpty = false := by
          cases ds with
          | nil => exact absurd (decide_eq_true (by rw [hlen]; rfl)) c
          | cons x r => rfl
        rw [hd0] at k
        have h2 : szAll ds + 3 ≤ 16000000 := hz
        have hsz := sz_len ds
        refine ⟨_, rfl, a, rfl, ⟨xs, hT⟩, fun D hD => lc_tup (xs := xs) (fun j H' => Same H H' ∧ ∃ ys : List V, H' D = some (.lst ys) ∧ ys.length ≤ j ∧ ys.isEmpty = (ds.take j).all rowD) ⟨same_new hD, [], upd_same, Nat.le_refl _, rfl⟩ (fun j H' _ p => same_t p.1 hT) ?_ ?_⟩
        · rintro j x H' hx ⟨S1, ys, h1, hl, hb⟩
          obtain ⟨d, e1, e2⟩ := gd_same hA S1 hx
          have hj : j < ds.length := (List.getElem?_eq_some_iff.mp e1).1
          have hm := sz_mem (List.mem_of_getElem? e1)
          refine ⟨rfl, ?_⟩
          refine ⟨_, rfl, x, d, rfl, e2, by omega, fun H2 S2 => ⟨rowD d, rfl, ?_⟩⟩
          have etk : (ds.take (j + 1)).all rowD = ((ds.take j).all rowD && rowD d) := by
            rw [take_more e1, List.all_append, List.all_cons, List.all_nil, Bool.and_true]
          cases er : rowD d with
          | true =>
            refine iteF ⟨S1.trans S2, ys, S2 D _ h1, by omega, ?_⟩
            rw [etk, er, Bool.and_true]
            exact hb
          | false =>
            refine iteT ⟨_, rfl, ys, S2 D _ h1, ?_, same_d hD (S1.trans S2), ys ++ [x], upd_same, ?_, ?_⟩
            · rw [sizeLine_eq]
              omega
            · rw [List.length_append]
              show ys.length + 1 ≤ j + 1
              omega
            · rw [etk, er, Bool.and_false]
              cases ys <;> rfl
        · rintro H' ⟨S1, ys, h1, hl, hb⟩
          rw [hlen, List.take_length] at hb
          refine ⟨Nat.zero_le _, fun p hp => ⟨D, p, ys, rfl, rfl, SqL.of ?_, SqL.of upd_same, ?_⟩⟩
          · rw [upd_ne (ne_of_none h1 hp)]
            exact h1
          · rw [hb]
            exact k _ (S1.trans (same_new hp))

/-! ### _law_right -/
def spRight (K : PySem.W.Frag) : Sp := fun vs H Q _ => ∃ (v : V) (d : PyData), vs = [v] ∧ Gd K H v d ∧ okD d ∧ sz d ≤ 16000000 ∧ d.depth ≤ 40 ∧ ∀ H', Same H H' → Q (.bl true) H'
theorem scRight : FnScope ["given", "before_here", "dues", "told"] ["given"] (defScope sRight) := ⟨rfl, rfl, rfl, by decide +kernel, rfl, by decide +kernel, by decide +kernel⟩
def bls (a b : Bool) : PyData := .list [.bool a, .bool b, .bool a, .bool b]
theorem bls_ok (a b : Bool) : okD (bls a b) ∧ sz (bls a b) ≤ 16000000 ∧ (bls a b).depth ≤ 40 := by
  refine ⟨⟨trivial, trivial, trivial, trivial, trivial⟩, ?_, ?_⟩
  · show 5 + 2 + (5 + 2 + (5 + 2 + (5 + 2 + 0))) + 3 ≤ 16000000
    decide
  · show 1 ≤ 40
    decide
theorem bls_dp {K : PySem.W.Frag} {H : Hp} {l : Addr} {a b : Bool} (h : H l = some (.lst [.bl a, .bl b, .bl a, .bl b])) : Gd K H (.ref l) (bls a b) := .inl (.lst (SqL.of h) (.cons (.bl a) (.cons (.bl b) (.cons (.bl a) (.cons (.bl b) .nil)))))
theorem ok_right {f lr lp ir ip iw : Addr} {fd lrd lpd ird ipd iwd : FuncData} (F : Fun K "_law_right" "_law_right" sRight f fd) (T : Names mg)
    (LR : Fun K "_law_is_row" "_law_is_row" sLIsRow lr lrd) (mLR : mg "_law_is_row" = some (.ref lr)) (bLR : Binds K lrd ["given"] [])
    (LP : Fun K "_law_is_product" "_law_is_product" sLIsProd lp lpd) (mLP : mg "_law_is_product" = some (.ref lp)) (bLP : Binds K lpd ["given"] [])
    (IW : Fun K "is_word" "is_word" sIsWord iw iwd) (mIW : mg "is_word" = some (.ref iw)) (bIW : Binds K iwd ["value"] [])
    (IR : Fun K "is_row" "is_row" sIsRow ir ird) (mIR : mg "is_row" = some (.ref ir)) (bIR : Binds K ird ["value"] [])
    (IP : Fun K "is_product" "is_product" sIsProd ip ipd) (mIP : mg "is_product" = some (.ref ip)) (bIP : Binds K ipd ["value"] []) :
    FnG P w K mg base CX0 4 f fd ["given"] (spRight K) := by
  refine okG F scRight (fun vs H Q E h => ?_) (fun cdv A outer s H vs Q E hgd hr h => ?_)
  · obtain ⟨v, d, rfl, _⟩ := h
    rfl
  · obtain ⟨v, d, rfl, hd, ok, hz, hdp, k⟩ := h
    have hu := hr.units
    have hr1 : Room 1 _ := hr.mono (by decide)
    have hr2 : Room 2 _ := hr.mono (by decide)
    have OLR : FnOk P w K mg base CX0 1 lr lrd ["given"] (spRowB K rowD) := ok_lIsRow LR T
    have OLP : FnOk P w K mg base CX0 2 lp lpd ["given"] (spRowB K prodD) := ok_lIsProd LP T LR mLR bLR
    have OIR : FnOk P w K mg base CX0 2 ir ird ["value"] (spRowB K rowD) := ok_isRow IR T IW mIW bIW
    have OIP : FnOk P w K mg base CX0 3 ip ipd ["value"] (spRowB K prodD) := ok_isProd IP T IR mIR bIR IW mIW bIW
    have kR : KBinds K ird ["value"] ["value"] gOne gOne := kb_one IR fun _ _ _ _ _ _ _ => rfl
    have kP : KBinds K ipd ["value"] ["value"] gOne gOne := kb_one IP fun _ _ _ _ _ _ _ => rfl
    refine ⟨_, pss_cons (ps_par (i := 1) (j := 2) rfl scRight.nd rfl rfl (by decide) rfl rfl (pa_cons (pe_callB (call_reprG hgd hu) (by rfl) T.repr boot_repr (pa_cons (pv 0) pa_nil))
        (pa_cons (pe_lst (pa_cons (pe_call OLR hr1 (by rfl) mLR LR.kp bLR .nil pass0 (pa_cons (pv 0) pa_nil)) (pa_cons (pe_call OLP hr2 (by rfl) mLP LP.kp bLP .nil pass0 (pa_cons (pv 0) pa_nil)) pa_nil))) pa_nil)) (by rfl))
      (pss_cons (ps_set (i := 3) scRight.nd rfl (Or.inl rfl) (pe_lst (pa_cons (pe_call OIR hr2 (by rfl) mIR IR.kp bIR .nil pass0 (pa_cons (pv 0) pa_nil)) (pa_cons (pe_call OIP hr (by rfl) mIP IP.kp bIP .nil pass0 (pa_cons (pv 0) pa_nil))
        (pa_cons (pe_callK0 OIR hr2 (by rfl) mIR IR.kp kR pass0 (pk_cons (pv 0) pk_nil)) (pa_cons (pe_callK0 OIP hr (by rfl) mIP IP.kp kP pass0 (pk_cons (pv 0) pk_nil)) pa_nil))))))
      (pss_one (ps_ret (pe_and (pe_cmpR op_eq (pe_callB (call_reprG hgd hu) (by rfl) T.repr boot_repr (pa_cons (pv 3) pa_nil)) (pe_callB (call_reprG hgd hu) (by rfl) T.repr boot_repr (pa_cons (pe_op op_rep (pv 2) pe_int) pa_nil)) (nomark _))
        (pe_one (pe_cmpR op_eq (pe_callB (call_reprG hgd hu) (by rfl) T.repr boot_repr (pa_cons (pv 0) pa_nil)) (pv 1) (nomark _))))))), ?_⟩
    refine ⟨_, rfl, v, d, rfl, hd, ok, hz, hdp, ?_⟩
    refine ⟨_, rfl, v, d, rfl, hd, hz, fun H1 S1 => ?_⟩
    refine ⟨_, rfl, v, d, rfl, hd.mono S1, hz, fun H2 S2 => ?_⟩
    refine ⟨(by show 2 ≤ sizeLine; decide), fun l1 hl1 => ⟨_, _, rfl, ?_⟩⟩
    have S3 := (S1.trans S2).trans (same_new (o := .lst [.bl (rowD d), .bl (prodD d)]) hl1)
    refine ⟨_, rfl, v, d, rfl, hd.mono S3, hz, fun H4 S4 => ?_⟩
    refine ⟨_, rfl, v, d, rfl, hd.mono (S3.trans S4), hz, fun H5 S5 => ?_⟩
    refine ⟨_, rfl, v, d, rfl, hd.mono ((S3.trans S4).trans S5), hz, fun H6 S6 => ?_⟩
    refine ⟨_, rfl, v, d, rfl, hd.mono (((S3.trans S4).trans S5).trans S6), hz, fun H7 S7 => ?_⟩
    refine ⟨(by show 4 ≤ sizeLine; decide), fun l2 hl2 => ?_⟩
    have S8 := (((S3.trans S4).trans S5).trans S6).trans S7
    obtain ⟨b1, b2, b3⟩ := bls_ok (rowD d) (prodD d)
    have el1 := same_new (o := .lst [.bl (rowD d), .bl (prodD d), .bl (rowD d), .bl (prodD d)]) hl2 l1 _ (S7 l1 _ (S6 l1 _ (S5 l1 _ (S4 l1 _ upd_same))))
    refine ⟨_, rfl, .ref l2, bls (rowD d) (prodD d), rfl, bls_dp upd_same, b1, b2, b3, ?_⟩
    refine ⟨_, rfl, l1, 2, _, rfl, rfl, el1, by decide, by decide, (by show 2 * 2 ≤ sizeLine; decide), fun l3 hl3 => ?_⟩
    refine ⟨.ref l3, bls (rowD d) (prodD d), rfl, bls_dp upd_same, b1, b2, b3, rfl, true, ?_, ?_⟩
    · rw [decide_eq_true rfl]
    · have S9 := S8.trans ((same_new (o := .lst [.bl (rowD d), .bl (prodD d), .bl (rowD d), .bl (prodD d)]) hl2).trans (same_new (o := .lst (List.replicate (2 : Int).toNat [V.bl (rowD d), .bl (prodD d)]).flatten) hl3))
      refine iteT ⟨_, rfl, v, d, rfl, hd.mono S9, ok, hz, hdp, _, rfl, rfl, ?_⟩
      rw [decide_eq_true rfl]
      exact k _ S9
end
end K1
/-! Items with bounds, in one of two kinds of data; tuples put together, where the new address does not matter. -/
namespace Bl
open PySem PySem.Spec PyProof.Rows L2 TL
def Rl (K : PySem.W.Frag) (H : Hp) : Bool → V → PyData → Prop
  | true => Dp K H
  | false => Rt K H
def Itm (K : PySem.W.Frag) (b k : Nat) (m : Bool) (H : Hp) (v : V) : Prop := ∃ d, Rl K H m v d ∧ okD d ∧ sz d ≤ b ∧ d.depth ≤ k
def Itms (K : PySem.W.Frag) (b k : Nat) (m : Bool) (H : Hp) (vs : List V) : Prop := ∀ v ∈ vs, Itm K b k m H v
section
variable {K : PySem.W.Frag} {b k : Nat} {m : Bool} {H H' : Hp} {v : V} {vs ws : List V}
theorem Itm.mono (h : Itm K b k m H v) (e : Same H H') : Itm K b k m H' v := by
  obtain ⟨d, h1, h2⟩ := h
  cases m with
  | true => exact ⟨d, dp_mono e d v h1, h2⟩
  | false => exact ⟨d, rt_mono e d v h1, h2⟩
theorem Itm.more {b' k' : Nat} (h : Itm K b k m H v) (hb : b ≤ b') (hk : k ≤ k') : Itm K b' k' m H v := by
  obtain ⟨d, h1, h2, h3, h4⟩ := h
  exact ⟨d, h1, h2, by omega, by omega⟩
theorem Itm.gd (h : Itm K b k m H v) : ∃ d, Gd K H v d ∧ okD d ∧ sz d ≤ b ∧ d.depth ≤ k := by
  obtain ⟨d, h1, h2⟩ := h
  cases m with
  | true => exact ⟨d, .inl h1, h2⟩
  | false => exact ⟨d, .inr h1, h2⟩
theorem Itms.mono (h : Itms K b k m H vs) (e : Same H H') : Itms K b k m H' vs := fun v hv => (h v hv).mono e
theorem Itms.more {b' k' : Nat} (h : Itms K b k m H vs) (hb : b ≤ b') (hk : k ≤ k') : Itms K b' k' m H vs := fun v hv => (h v hv).more hb hk
theorem Itms.app (h : Itms K b k m H vs) (q : Itms K b k m H ws) : Itms K b k m H (vs ++ ws) := fun v hv => (List.mem_append.mp hv).elim (h v) (q v)
theorem Itms.one (h : Itm K b k m H v) : Itms K b k m H [v] := fun u hu => by
  rw [List.mem_singleton] at hu
  rw [hu]
  exact h
theorem Itms.nil : Itms K b k m H [] := fun u hu => by cases hu
theorem Itms.cons (h : Itm K b k m H v) (q : Itms K b k m H vs) : Itms K b k m H (v :: vs) := fun u hu => by
  rcases List.mem_cons.mp hu with e | e
  · rw [e]; exact h
  · exact q u e
theorem Itms.take (h : Itms K b k m H vs) (n : Nat) : Itms K b k m H (vs.take n) := fun u hu => h u (List.mem_of_mem_take hu)
theorem Itms.drop (h : Itms K b k m H vs) (n : Nat) : Itms K b k m H (vs.drop n) := fun u hu => h u (List.mem_of_mem_drop hu)
/-- the data of items as a list -/
theorem Itms.all : ∀ {vs : List V}, Itms K b k m H vs → ∃ ds, (match m with | true => DpAll K H vs ds | false => RtAll K H vs ds) ∧ okAll ds ∧ szAll ds ≤ vs.length * (b + 2) ∧ PyData.depthAll ds ≤ k
  | [], _ => ⟨[], by cases m; exact .nil; exact .nil, trivial, by show 0 ≤ _; omega, Nat.zero_le _⟩
  | v :: vs, h => by
    obtain ⟨d, h1, h2, h3, h4⟩ := h v List.mem_cons_self
    obtain ⟨ds, q1, q2, q3, q4⟩ := Itms.all fun u hu => h u (List.mem_cons_of_mem _ hu)
    refine ⟨d :: ds, ?_, ⟨h2, q2⟩, ?_, ?_⟩
    · cases m with
      | true => exact .cons h1 q1
      | false => exact .cons h1 q1
    · show sz d + 2 + szAll ds ≤ (vs.length + 1) * (b + 2)
      rw [Nat.succ_mul]
      omega
    · show max d.depth (PyData.depthAll ds) ≤ k
      omega
theorem Itms.tup {a : Addr} {b' : Nat} (h : Itms K b k m H vs) (ht : SqT K H a vs) (hb : vs.length * (b + 2) + 3 ≤ b') : Itm K b' (k + 1) m H (.ref a) := by
  obtain ⟨ds, q1, q2, q3, q4⟩ := h.all
  refine ⟨.tuple ds, ?_, q2, ?_, ?_⟩
  · cases m with
    | true => exact .tup ht q1
    | false => exact .tup ht q1
  · show szAll ds + 3 ≤ b'
    omega
  · show PyData.depthAll ds + 1 ≤ k + 1
    omega
theorem Itms.lst {a : Addr} {b' : Nat} (h : Itms K b k true H vs) (ht : SqL K H a vs) (hb : vs.length * (b + 2) + 3 ≤ b') : Itm K b' (k + 1) true H (.ref a) := by
  obtain ⟨ds, q1, q2, q3, q4⟩ := h.all
  refine ⟨.list ds, .lst ht q1, q2, ?_, ?_⟩
  · show szAll ds + 3 ≤ b'
    omega
  · show PyData.depthAll ds + 1 ≤ k + 1
    omega
theorem itm_str {x : Str} (h : ∀ c ∈ x.cps.toList, c < 1000) (hb : 10 * x.length + 2 ≤ b) : Itm K b k m H (.str x) := ⟨.str x, by cases m; exact .str x; exact .str x, h, hb, Nat.zero_le _⟩
theorem itm_lets {x : Str} (h : Lets x) (hb : 10 * x.length + 2 ≤ b) : Itm K b k m H (.str x) := itm_str (fun c hc => by have := h c hc; omega) hb
theorem itm_non (hb : 4 ≤ b) : Itm K b k m H .non := ⟨.none, by cases m; exact .non; exact .non, trivial, hb, Nat.zero_le _⟩
theorem itm_bl {x : Bool} (hb : 5 ≤ b) : Itm K b k m H (.bl x) := ⟨.bool x, by cases m; exact .bl x; exact .bl x, trivial, hb, Nat.zero_le _⟩
theorem itm_int {i : Int} (h0 : 0 ≤ i) (h1 : i ≤ 9) (hb : 1 ≤ b) : Itm K b k m H (.int i) := ⟨.int i, by cases m; exact .int i; exact .int i, ⟨h0, h1⟩, hb, Nat.zero_le _⟩
theorem itm_dict {a : Addr} (h : H a = some (.dK [])) (hb : 2 ≤ b) (hk : (PyData.dict []).depth ≤ k) : Itm K b k false H (.ref a) := ⟨.dict [], .emp h, rfl, hb, hk⟩
/-- words -/
theorem itms_words {xs : List Str} (h : ∀ x ∈ xs, Lets x ∧ x.length ≤ 200) : Itms K 2002 0 m H (xs.map V.str) := fun v hv => by
  obtain ⟨x, hx, rfl⟩ := List.mem_map.mp hv
  obtain ⟨h1, h2⟩ := h x hx
  exact itm_lets h1 (by omega)
end
/-! ### tuples, wherever they come to lie -/
section
variable {X : Cx}
def rCatN (K : PySem.W.Frag) : R2 := fun x y H Q => ∃ (a b : Addr) (xs ys : List V), x = .ref a ∧ y = .ref b ∧ SqT K H a xs ∧ SqT K H b ys ∧ xs.length + ys.length ≤ sizeLine ∧ ∀ q H', Same H H' → SqT K H' q (xs ++ ys) → Q (.ref q) H'
theorem op_catN : OpR X (binaryOp .Add) (rCatN X.K) := by
  intro pins s σ H x y v u Q I rx ry h
  obtain ⟨a, b, xs, ys, ex, ey, ha, hb, hz, q⟩ := h
  refine op_catA pins s σ H x y v u Q I rx ry ⟨a, b, xs, ys, ex, ey, ha, hb, hz, fun e => ?_, fun _ e => ?_, fun _ _ p hp => ?_⟩
  · subst e
    exact q b H (Same.refl H) hb
  · subst e
    exact q a H (Same.refl H) (by rw [List.append_nil]; exact ha)
  · exact q p _ (same_new hp) (SqT.of upd_same)
def rSlN (K : PySem.W.Frag) : V → Option Int → Option Int → Hp → VK → Prop := fun x lo hi H Q => ∃ (a : Addr) (xs : List V), x = .ref a ∧ SqT K H a xs ∧ ∀ q H', Same H H' → SqT K H' q (cutV xs lo hi) → Q (.ref q) H'
theorem sl_tupN : SlR X (rSlN X.K) := by
  intro pins s σ H x v vl vu lo hi sl Q I rx hs pl pu h
  obtain ⟨a, xs, ex, ha, q⟩ := h
  refine sl_tupA pins s σ H x v vl vu lo hi sl Q I rx hs pl pu ⟨a, xs, ex, ha, fun e => ?_, fun _ p hp => ?_⟩
  · refine q a H (Same.refl H) ?_
    have e2 : cutV xs lo hi = xs := by
      unfold cutV
      rw [e.1, e.2, List.drop_zero, Nat.sub_zero, List.take_length]
    rw [e2]
    exact ha
  · exact q p _ (same_new hp) (SqT.of upd_same)
theorem cutV_to (xs : List V) (n : Nat) : cutV xs none (some (n : Int)) = xs.take n := by
  unfold cutV
  rw [HT.sIx_nat]
  show (xs.drop 0).take (min n xs.length - 0) = xs.take n
  rw [List.drop_zero, Nat.sub_zero]
  by_cases h : n ≤ xs.length
  · rw [Nat.min_eq_left h]
  · rw [Nat.min_eq_right (by omega), List.take_of_length_le (Nat.le_refl _), List.take_of_length_le (by omega)]
theorem cutV_from (xs : List V) (n : Nat) : cutV xs (some (n : Int)) none = xs.drop n := by
  unfold cutV
  rw [HT.sIx_nat]
  show (xs.drop (min n xs.length)).take (xs.length - min n xs.length) = xs.drop n
  by_cases h : n ≤ xs.length
  · rw [Nat.min_eq_left h]
    exact List.take_of_length_le (by rw [List.length_drop]; omega)
  · rw [Nat.min_eq_right (by omega), List.drop_of_length_le (Nat.le_refl _), List.drop_of_length_le (by omega)]
    simp
/-- tuple * int, the tuple not empty -/
def rRepB (K : PySem.W.Frag) : R2 := fun x y H Q => ∃ (l : Addr) (k : Int) (xs : List V), x = .ref l ∧ y = .int k ∧ SqT K H l xs ∧ xs ≠ [] ∧ 2 ≤ k ∧ k ≤ 4000 ∧ xs.length ≤ 1000 ∧ ∀ p, H p = none → Q (.ref p) (upd H p (.tup (List.replicate k.toNat xs).flatten))
theorem op_repB : OpR X (binaryOp .Mult) (rRepB X.K) := by
  intro pins s σ H x y v u Q I rx ry h
  obtain ⟨l, k, xs, rfl, rfl, hT, hne, h1, h2, hz, q⟩ := h
  cases rx
  obtain ⟨t, rfl⟩ := ry
  have z := I.tuple hT
  obtain ⟨its, r, ⟨⟨cls, dd, data, sl⟩, ho, hc, n, hd⟩, hs⟩ := z
  simp only at hc hd
  subst hc hd
  have len := r.length
  have many : k.toNat * xs.length ≤ 4000 * 1000 := Nat.mul_le_mul (by omega) hz
  have arr : its.toArray.size = xs.length := by rw [List.size_toArray, len]
  have pos : 0 < xs.length := List.length_pos_iff.mpr hne
  have noEmpty : its.toArray.isEmpty = false := by
    cases its with
    | nil =>
      rw [List.length_nil] at len
      omega
    | cons a b => rfl
  have prod : ((its.toArray.size : Nat) : Int) * k ≤ 4000000 := by
    rw [arr]
    have e : ((k.toNat * xs.length : Nat) : Int) = k * ((xs.length : Nat) : Int) := by
      rw [Int.natCast_mul, Int.toNat_of_nonneg (by omega)]
    rw [Int.mul_comm]
    omega
  have flat : (List.replicate k.toNat its).flatten.length ≤ sizeLine := by
    rw [lm_len_rep_flat, ← len, sizeLine_eq]
    omega
  have w0 : (decide (k < -(2 ^ 63)) || decide (k ≥ 2 ^ 63)) = false := by
    rw [Bool.or_eq_false_iff]
    exact ⟨decide_eq_false (by omega), decide_eq_false (by omega)⟩
  have w1 : (its.toArray.isEmpty || k == 1) = false := by
    rw [noEmpty]
    exact beq_eq_false_iff_ne.mpr (by omega)
  have w2 : (decide (k ≤ 0) || its.toArray.isEmpty) = false := by
    rw [noEmpty, decide_eq_false (by omega)]
    rfl
  have w4 : Builtin.Tuple.tupleTooMany (((its.toArray.size : Nat) : Int) * k) = false := by
    unfold Builtin.Tuple.tupleTooMany
    exact decide_eq_false (by rw [sizeLine_eq]; omega)
  have mul := tuple_mulW l its.toArray n dd sl k t w0 w1 w2 (by omega) w4 (by rw [size_rep, List.size_toArray]; exact flat)
  refine wpAny_binaryOp_repeat_ref (T := "tuple") (U := "int") (by decide) ⟨_, ho, rfl⟩
    (fun s2 => typeIs_int s2 k t) noFill_tuple_mul F.fills_int_mul
    F.slot_int_rmul repeat_tuple F.slot_int_index.lookup ?_
  refine call_meets F.slot_int_rmul (typeIs_int s k t) F.entry_int_rmul
    (F.args_int_rmul_2 _ _) (int_rmul_tuple k t l its.toArray n dd sl) ?_
  refine ⟨ho, rfl, ⟨_, ho, rfl⟩, ?_⟩
  refine call_meets F.slot_tuple_mul ⟨_, ho, rfl⟩ F.entry_tuple_mul
    (F.args_tuple_mul_2 _ _) mul ?_
  refine ⟨ho, ?_⟩
  rw [size_rep]
  have fresh := I.hok.fresh (Nat.le_refl s.heap.objs.size)
  refine ⟨.ref s.heap.objs.size, _, I.laid (t' := s.toks) (o := .tup (List.replicate k.toNat xs).flatten) (fun _ _ z => Heap.get?_push_of_some _ z) (Nat.le_refl _) ?_, rfl, q _ fresh⟩
  refine ⟨?_, _, r.rep k.toNat, IsTup.new _ _⟩
  rw [lm_len_rep_flat, sizeLine_eq]
  omega
end
end Bl
namespace K1
open PySem PySem.Spec PyProof.Rows L2 TL Bl
/-- the heap without the tray -/
def mask (t : Addr) (H : Hp) : Hp := fun b => if b = t then none else H b
theorem mask_same (t : Addr) (H : Hp) : Same (mask t H) H := fun b o e => by
  unfold mask at e
  by_cases h : b = t
  · rw [if_pos h] at e
    cases e
  · rw [if_neg h] at e
    exact e
theorem mask_but {t : Addr} {H H' : Hp} (e : But t H H') : Same (mask t H) (mask t H') := fun b o q => by
  unfold mask at q ⊢
  by_cases h : b = t
  · rw [if_pos h] at q
    cases q
  · rw [if_neg h] at q ⊢
    exact e b o h q
theorem mask_at {t p : Addr} {H : Hp} {o : HO} (h : p ≠ t) (e : H p = some o) : mask t H p = some o := by
  unfold mask
  rw [if_neg h]
  exact e
theorem mask_t {K : PySem.W.Frag} {t q : Addr} {H : Hp} {n : Nat} {zs : List V} (hT : Tray H t n) (h : SqT K H q zs) : SqT K (mask t H) q zs := by
  obtain ⟨_, _, _, z, _⟩ := hT
  rcases h with h | h
  · rcases h with h | ⟨o, h⟩
    · refine .inl (.inl (mask_at ?_ h))
      rintro rfl
      rw [z] at h
      cases h
    · refine .inl (.inr ⟨o, mask_at ?_ h⟩)
      rintro rfl
      rw [z] at h
      cases h
  · exact .inr h
theorem tray_same {t : Addr} {n : Nat} {H H' : Hp} (h : Tray H t n) (e : Same H H') : Tray H' t n := by
  obtain ⟨a, b, c, h1, h2⟩ := h
  exact ⟨a, b, c, e t _ h1, h2⟩
theorem but_of {t : Addr} {H H' : Hp} (e : Same H H') : But t H H' := fun b o _ h => e b o h
/-- a tuple of rows -/
structure Rows (K : PySem.W.Frag) (H : Hp) (a : Addr) (rs : List V) : Prop where
  at_ : SqT K H a rs
  len : 1 ≤ rs.length ∧ rs.length ≤ 40
  row : ∀ r ∈ rs, ∃ (p : Addr) (ws : List Str), r = .ref p ∧ SqT K H p (ws.map V.str) ∧ 1 ≤ ws.length ∧ ws.length ≤ 60 ∧ WordsOk ws
theorem Rows.mono {K : PySem.W.Frag} {H H' : Hp} {a : Addr} {rs : List V} (h : Rows K H a rs) (e : Same H H') : Rows K H' a rs :=
  ⟨same_t e h.at_, h.len, fun r hr => let ⟨p, ws, h1, h2, h3⟩ := h.row r hr; ⟨p, ws, h1, same_t e h2, h3⟩⟩
theorem Rows.itms {K : PySem.W.Frag} {H : Hp} {a : Addr} {rs : List V} (h : Rows K H a rs) (m : Bool) : Itms K 242487 4 m H rs := fun r hr => by
  obtain ⟨p, ws, rfl, h2, h3, h4, h5⟩ := h.row r hr
  have q := (itms_words (K := K) (m := m) (H := H) h5).tup (b' := 242487) h2 (by rw [List.length_map]; omega)
  exact q.more (Nat.le_refl _) (by decide)
def OddOk (K : PySem.W.Frag) (H : Hp) (v : V) : Prop := ∃ m, Itm K 2002 3 m H v
def OddsOk (K : PySem.W.Frag) (H : Hp) (xs : List V) : Prop := ∀ v ∈ xs, OddOk K H v
theorem OddOk.mono {K : PySem.W.Frag} {H H' : Hp} {v : V} (h : OddOk K H v) (e : Same H H') : OddOk K H' v := let ⟨m, q⟩ := h; ⟨m, q.mono e⟩
theorem OddsOk.nil {K : PySem.W.Frag} {H : Hp} : OddsOk K H [] := fun v hv => by cases hv
theorem OddsOk.cons {K : PySem.W.Frag} {H : Hp} {v : V} {xs : List V} (h : OddOk K H v) (q : OddsOk K H xs) : OddsOk K H (v :: xs) := fun u hu => by
  rcases List.mem_cons.mp hu with e | e
  · rw [e]; exact h
  · exact q u e
theorem OddsOk.mono {K : PySem.W.Frag} {H H' : Hp} {xs : List V} (h : OddsOk K H xs) (e : Same H H') : OddsOk K H' xs := fun v hv => (h v hv).mono e
theorem OddsOk.app {K : PySem.W.Frag} {H : Hp} {xs ys : List V} (h : OddsOk K H xs) (q : OddsOk K H ys) : OddsOk K H (xs ++ ys) := fun v hv => (List.mem_append.mp hv).elim (h v) (q v)
theorem odd_str {K : PySem.W.Frag} {H : Hp} {x : Str} (h : ∀ c ∈ x.cps.toList, c < 1000) (hb : 10 * x.length + 2 ≤ 2002) : OddOk K H (.str x) := ⟨true, itm_str h hb⟩
def BigOk (K : PySem.W.Frag) (H : Hp) (v : V) : Prop := ∃ m, Itm K 12000000 8 m H v
def BigsOk (K : PySem.W.Frag) (H : Hp) (xs : List V) : Prop := ∀ v ∈ xs, BigOk K H v
theorem BigOk.mono {K : PySem.W.Frag} {H H' : Hp} {v : V} (h : BigOk K H v) (e : Same H H') : BigOk K H' v := let ⟨m, q⟩ := h; ⟨m, q.mono e⟩
theorem BigsOk.nil {K : PySem.W.Frag} {H : Hp} : BigsOk K H [] := fun v hv => by cases hv
theorem BigsOk.cons {K : PySem.W.Frag} {H : Hp} {v : V} {xs : List V} (h : BigOk K H v) (q : BigsOk K H xs) : BigsOk K H (v :: xs) := fun u hu => by
  rcases List.mem_cons.mp hu with e | e
  · rw [e]; exact h
  · exact q u e
theorem BigsOk.mono {K : PySem.W.Frag} {H H' : Hp} {xs : List V} (h : BigsOk K H xs) (e : Same H H') : BigsOk K H' xs := fun v hv => (h v hv).mono e
theorem BigsOk.app {K : PySem.W.Frag} {H : Hp} {xs ys : List V} (h : BigsOk K H xs) (q : BigsOk K H ys) : BigsOk K H (xs ++ ys) := fun v hv => (List.mem_append.mp hv).elim (h v) (q v)
section
variable {P : Program} {w : World} {K : PySem.W.Frag} {mg : Str → Option Value} {base : Heap}
/-- what is known while the odd one is put in -/
structure Cur (K : PySem.W.Frag) (t : Addr) (n : Nat) (H H' : Hp) (a : Addr) (rs : List V) (v : V) : Prop where
  tr : Tray H' t n
  bt : But t H H'
  rw_ : Rows K (mask t H') a rs
  od : OddOk K (mask t H') v
theorem Cur.go {t : Addr} {n : Nat} {H H' H2 : Hp} {a : Addr} {rs : List V} {v : V} (c : Cur K t n H H' a rs v) (e : Same H' H2) : Cur K t n H H2 a rs v :=
  ⟨tray_same c.tr e, c.bt.trans (but_of e), c.rw_.mono (mask_but (but_of e)), c.od.mono (mask_but (but_of e))⟩
theorem Cur.at_ {t : Addr} {n : Nat} {H H' : Hp} {a : Addr} {rs : List V} {v : V} (c : Cur K t n H H' a rs v) : SqT K H' a rs := same_t (mask_same t H') c.rw_.at_
def spBent (K : PySem.W.Frag) : Sp := fun vs H Q _ => ∃ (t a : Addr) (rs : List V) (n : Nat), vs = [.ref t, .ref a] ∧ Rows K (mask t H) a rs ∧ Tray H t n ∧ n ≤ 900000 ∧
  ∀ l xs H', H' l = some (.lst xs) → xs.length ≤ 100 → BigsOk K (mask t H') xs → l ≠ t → H l = none → Tray H' t (n + 3) → But t H H' → Q (.ref l) H'
theorem scBent : FnScope ["tray", "some", "at", "far", "odds", "odd", "front", "back", "found", "bent"] ["tray", "some"] (defScope sBent) := ⟨rfl, rfl, rfl, by decide +kernel, rfl, by decide +kernel, by decide +kernel⟩
set_option maxHeartbeats 4000000 in
theorem ok_bent {f g : Addr} {fd gd : FuncData} (F : Fun K "_law_bent" "_law_bent" sBent f fd) (T : Names mg) (G : Fun K "_law_take" "_law_take" sTake g gd) (mG : mg "_law_take" = some (.ref g)) (bG : Binds K gd ["tray", "many"] []) :
    FnOk P w K mg base CX0 2 f fd ["tray", "some"] (spBent K) := by
  refine F.ok scBent (fun vs H Q E h => ?_) (fun cdv A outer s H vs Q E hr h => ?_)
  · obtain ⟨t, a, rs, n, rfl, _⟩ := h
    rfl
  · obtain ⟨t, a, rs, n, rfl, hR, hT, hn, k⟩ := h
    have OT : FnOk P w K mg base CX0 1 g gd ["tray", "many"] spTake := ok_take G
    refine ⟨_, Evl.pss_cut (ps_par (i := 2) (j := 3) rfl scBent.nd rfl rfl (by decide) rfl rfl
          (pa_cons (pe_call OT hr (by rfl) mG G.kp bG .nil pass0 (pa_cons (pv 0) (pa_cons (pe_callB call_len_seq (by rfl) T.len PySem.boot_len (pa_cons (pv 1) pa_nil)) pa_nil)))
          (pa_cons (pe_call OT hr (by rfl) mG G.kp bG .nil pass0 (pa_cons (pv 0) (pa_cons (pe_callB call_len_seq (by rfl) T.len PySem.boot_len (pa_cons (pe_ix ix_tup (pv 1) pe_int (fun _ _ => rfl)) pa_nil)) pa_nil))) pa_nil)) (by rfl))
      (Evl.pss_cut (ps_set (i := 4) scBent.nd rfl (Or.inl rfl) (pe_lst (pa_cons pe_str (pa_cons pe_str (pa_cons pe_str (pa_cons pe_str (pa_cons pe_str (pa_cons pe_str (pa_cons pe_str (pa_cons pe_non (pa_cons pe_int (pa_cons pe_bl
          (pa_cons (pe_tup pa_nil) (pa_cons (pe_lst (pa_cons pe_str pa_nil)) (pa_cons (pe_tup (pa_cons pe_str pa_nil)) (pa_cons pe_dnewK (pa_cons pe_str (pa_cons pe_str (pa_cons pe_str pa_nil)))))))))))))))))))
      (Evl.pss_cut (ps_set (i := 4) scBent.nd rfl (Or.inl rfl) (pe_op op_cat (pv 4) (pe_lst (pa_cons (pe_tup (pa_cons pe_str (pa_cons pe_str pa_nil))) (pa_cons (pe_tup (pa_cons pe_str (pa_cons pe_non pa_nil)))
          (pa_cons (pe_lst (pa_cons (pe_tup (pa_cons pe_str pa_nil)) pa_nil)) (pa_cons (pe_tup (pa_cons (pe_tup (pa_cons pe_str pa_nil)) pa_nil)) (pa_cons pe_str pa_nil))))))))
      (Evl.pss_cut (ps_set (i := 5) scBent.nd rfl (Or.inl rfl) (pe_ix ix_list (pv 4) (pe_call OT hr (by rfl) mG G.kp bG .nil pass0 (pa_cons (pv 0) (pa_cons (pe_callB call_len_seq (by rfl) T.len PySem.boot_len (pa_cons (pv 4) pa_nil)) pa_nil))) (fun _ _ => rfl)))
      (Evl.pss_cut (ps_par (i := 6) (j := 7) rfl scBent.nd rfl rfl (by decide) rfl rfl
          (pa_cons (pe_slice sl_tupN (pv 1) po_none (po_some (pv 2))) (pa_cons (pe_slice sl_tupN (pv 1) (po_some (pe_op op_add (pv 2) pe_int)) po_none) pa_nil)) (by rfl))
      (Evl.pss_cut (ps_set (i := 8) scBent.nd rfl (Or.inl rfl) (pe_lst (pa_cons (pe_op op_catN (pe_op op_catN (pv 6) (pe_tup (pa_cons (pv 5) pa_nil))) (pe_slice sl_tupN (pv 1) (po_some (pv 2)) po_none))
          (pa_cons (pe_op op_catN (pe_op op_catN (pv 6) (pe_tup (pa_cons (pv 5) pa_nil))) (pv 7)) (pa_cons (pe_op op_catN (pv 6) (pv 7))
          (pa_cons (pe_callTy call_list_of (by rfl) T.list (by decide +kernel) (pa_cons (pv 1) pa_nil)) (pa_cons (pe_ix ix_tup (pv 1) pe_int (fun _ _ => rfl))
          (pa_cons (pe_callTy call_list_of (by rfl) T.list (by decide +kernel) (pa_cons (pe_ix ix_tup (pv 1) pe_int (fun _ _ => rfl)) pa_nil)) pa_nil))))))))
      (Evl.pss_cut (ps_set (i := 9) scBent.nd rfl (Or.inl rfl) (pe_op op_catN (pe_op op_catN (pe_slice sl_tupN (pe_ix ix_tup (pv 1) pe_int (fun _ _ => rfl)) po_none (po_some (pv 3))) (pe_tup (pa_cons (pv 5) pa_nil)))
          (pe_slice sl_tupN (pe_ix ix_tup (pv 1) pe_int (fun _ _ => rfl)) (po_some (pe_op op_add (pv 3) pe_int)) po_none)))
      (Evl.pss_cut (ps_set (i := 8) scBent.nd rfl (Or.inl rfl) (pe_op op_cat (pv 8) (pe_lst (pa_cons (pv 9) (pa_cons (pe_op op_catN (pe_op op_catN (pv 6) (pe_tup (pa_cons (pv 9) pa_nil))) (pv 7)) (pa_cons (pv 5)
          (pa_cons (pe_tup (pa_cons (pv 5) pa_nil)) (pa_cons (pe_ix ix_tup (pe_ix ix_tup (pv 1) pe_int (fun _ _ => rfl)) pe_int (fun _ _ => rfl)) (pa_cons pe_non (pa_cons (pe_tup pa_nil)
          (pa_cons (pe_tup (pa_cons (pe_tup pa_nil) pa_nil)) (pa_cons (pe_lst (pa_cons (pe_tup pa_nil) pa_nil)) pa_nil))))))))))))
      (pss_one (ps_ret (pe_op op_cat (pv 8) (pe_lst (pa_cons (pe_op op_catN (pe_op op_catN (pv 6) (pe_tup (pa_cons (pe_callTy call_list_of (by rfl) T.list (by decide +kernel)
          (pa_cons (pe_ix ix_tup (pv 1) (pv 2) (fun _ _ => rfl)) pa_nil)) pa_nil))) (pv 7)) pa_nil)))))))))))), ?_⟩
    have hlr := hR.len
    obtain ⟨r0, h0⟩ : ∃ r0, rs[0]? = some r0 := ⟨rs[0]'(by omega), List.getElem?_eq_getElem _⟩
    obtain ⟨p0, w0, rfl, hp0, hw1, hw2, hw3⟩ := hR.row r0 (List.mem_of_getElem? h0)
    have at0 : atI rs (0 : Int) = some (.ref p0) := atI_nat (j := 0) h0
    -- two places
    refine ⟨fun σ H1 => ∃ (at_ far : Nat), σ = [some (.ref t), some (.ref a), some (.int at_), some (.int far), none, none, none, none, none, none] ∧ at_ < rs.length ∧ far < w0.length ∧ Tray H1 t (n + 2) ∧ But t H H1, ?_, ?_⟩
    · refine ⟨_, rfl, _, rfl, a, rs, rfl, .inr (same_t (mask_same t H) hR.at_), t, _, n, rfl, by omega, log_small (by omega) (by omega), hT, by omega, fun v H1 v0 v1 T1 B1 => ?_⟩
      have R1 := hR.mono (mask_but B1)
      have hp1 := same_t (mask_same t H1) (same_t (mask_but B1) hp0)
      refine ⟨_, rfl, _, rfl, a, rs, 0, .ref p0, rfl, rfl, same_t (mask_same t H1) R1.at_, at0, p0, _, rfl, .inr hp1, t, _, n + 1, rfl, ?_, ?_, T1, by omega, fun u H2 u0 u1 T2 B2 => ?_⟩
      · rw [List.length_map]
        omega
      · rw [List.length_map]
        exact log_small (by omega) (by omega)
      · rw [List.length_map] at u1
        refine ⟨_, _, rfl, v.toNat, u.toNat, ?_, by omega, by omega, T2, B1.trans B2⟩
        have e1 : ((v.toNat : Nat) : Int) = v := by omega
        have e2 : ((u.toNat : Nat) : Int) = u := by omega
        rw [e1, e2]
        rfl
    rintro σ H1 ⟨at_, far, rfl, ha1, hf1, T1, B1⟩
    -- odd things
    refine ⟨fun σ H2 => ∃ (l : Addr) (xs : List V), σ = [some (.ref t), some (.ref a), some (.int at_), some (.int far), some (.ref l), none, none, none, none, none] ∧ H2 l = some (.lst xs) ∧ l ≠ t ∧ xs.length = 17 ∧ OddsOk K (mask t H2) xs ∧ Tray H2 t (n + 2) ∧ But t H H2, ?_, ?_⟩
    · refine ⟨(by show 0 ≤ sizeLine; decide), fun p1 h1 => ?_⟩
      refine ⟨(by show 1 ≤ sizeLine; decide), fun l1 h2 => ?_⟩
      refine ⟨(by show 1 ≤ sizeLine; decide), fun p2 h3 => ?_⟩
      refine fun d1 h4 => ?_
      refine ⟨(by show 17 ≤ sizeLine; decide), fun l0 h5 => ?_⟩
      have T2 := T1.new (o := .tup []) h1
      have T3 := T2.new (o := .lst [.str "a"]) h2
      have T4 := T3.new (o := .tup [.str "a"]) h3
      have T5 := T4.new (o := .dK []) h4
      have S5 := same_new (o := HO.lst [.str "A", .str "a b", .str "a,", .str "{", .str "a1", .str " ", .str "\n", .non, .int 0, .bl true, .ref p1, .ref l1, .ref p2, .ref d1, .str "aZ", .str "-", .str "abcde_"]) h5
      have S4 := (same_new (o := .dK []) h4).trans S5
      have S3 := (same_new (o := .tup [.str "a"]) h3).trans S4
      have S2 := (same_new (o := .lst [.str "a"]) h2).trans S3
      have e1 := mask_at (T1.ne h1).symm (S2 p1 _ upd_same)
      have e2 := mask_at (T2.ne h2).symm (S3 l1 _ upd_same)
      have e3 := mask_at (T3.ne h3).symm (S4 p2 _ upd_same)
      have e4 := mask_at (T4.ne h4).symm (S5 d1 _ upd_same)
      have sa : ∀ {b k : Nat} {m : Bool} {H : Hp}, 12 ≤ b → Itm K b k m H (.str "a") := fun hb => itm_str (by decide +kernel) (Nat.le_trans (by decide +kernel) hb)
      refine ⟨l0, _, rfl, upd_same, (T5.ne h5).symm, rfl, ?_, T5.new h5, B1.trans (but_of ((same_new h1).trans S2))⟩
      have q1 : OddOk K (mask t (upd (upd (upd (upd (upd H1 p1 (.tup [])) l1 (.lst [.str "a"])) p2 (.tup [.str "a"])) d1 (.dK [])) l0 (.lst [.str "A", .str "a b", .str "a,", .str "{", .str "a1", .str " ", .str "\n", .non, .int 0, .bl true, .ref p1, .ref l1, .ref p2, .ref d1, .str "aZ", .str "-", .str "abcde_"]))) (.ref p1) := ⟨true, ((Itms.nil (b := 0) (k := 0)).tup (SqT.of e1) (by decide)).more (by decide : 3 ≤ 2002) (by decide)⟩
      have q2 : OddOk K _ (.ref l1) := ⟨true, ((Itms.one (sa (b := 12) (k := 0) (by decide))).lst (SqL.of e2) (by decide : 1 * (12 + 2) + 3 ≤ 2002)).more (Nat.le_refl _) (by decide)⟩
      have q3 : OddOk K _ (.ref p2) := ⟨true, ((Itms.one (sa (b := 12) (k := 0) (by decide))).tup (SqT.of e3) (by decide : 1 * (12 + 2) + 3 ≤ 2002)).more (Nat.le_refl _) (by decide)⟩
      have q4 : OddOk K _ (.ref d1) := ⟨false, itm_dict e4 (by decide) (by decide)⟩
      exact .cons (odd_str (by decide +kernel) (by decide +kernel)) (.cons (odd_str (by decide +kernel) (by decide +kernel)) (.cons (odd_str (by decide +kernel) (by decide +kernel)) (.cons (odd_str (by decide +kernel) (by decide +kernel)) (.cons (odd_str (by decide +kernel) (by decide +kernel))
        (.cons (odd_str (by decide +kernel) (by decide +kernel)) (.cons (odd_str (by decide +kernel) (by decide +kernel)) (.cons ⟨true, itm_non (by decide)⟩ (.cons ⟨true, itm_int (by decide) (by decide) (by decide)⟩ (.cons ⟨true, itm_bl (by decide)⟩ (.cons q1 (.cons q2 (.cons q3 (.cons q4
        (.cons (odd_str (by decide +kernel) (by decide +kernel)) (.cons (odd_str (by decide +kernel) (by decide +kernel)) (.cons (odd_str (by decide +kernel) (by decide +kernel)) .nil))))))))))))))))
    rintro σ H2 ⟨l, xs, rfl, hl, nl, lx, ox, T2, B2⟩
    -- and more of them
    refine ⟨fun σ H3 => ∃ (l : Addr) (xs : List V), σ = [some (.ref t), some (.ref a), some (.int at_), some (.int far), some (.ref l), none, none, none, none, none] ∧ H3 l = some (.lst xs) ∧ l ≠ t ∧ xs.length = 22 ∧ OddsOk K (mask t H3) xs ∧ Tray H3 t (n + 2) ∧ But t H H3, ?_, ?_⟩
    · refine ⟨_, rfl, (by show 2 ≤ sizeLine; decide), fun p1 h1 => ?_⟩
      refine ⟨(by show 2 ≤ sizeLine; decide), fun p2 h2 => ?_⟩
      refine ⟨(by show 1 ≤ sizeLine; decide), fun p3 h3 => ?_⟩
      refine ⟨(by show 1 ≤ sizeLine; decide), fun l4 h4 => ?_⟩
      refine ⟨(by show 1 ≤ sizeLine; decide), fun p5 h5 => ?_⟩
      refine ⟨(by show 1 ≤ sizeLine; decide), fun p6 h6 => ?_⟩
      refine ⟨(by show 5 ≤ sizeLine; decide), fun l7 h7 => ?_⟩
      have U1 := T2.new (o := .tup [.str "a", .str "A"]) h1
      have U2 := U1.new (o := .tup [.str "a", .non]) h2
      have U3 := U2.new (o := .tup [.str "a"]) h3
      have U4 := U3.new (o := .lst [.ref p3]) h4
      have U5 := U4.new (o := .tup [.str "a"]) h5
      have U6 := U5.new (o := .tup [.ref p5]) h6
      have S7 := same_new (o := .lst [.ref p1, .ref p2, .ref l4, .ref p6, .str ""]) h7
      have S6 := (same_new (o := .tup [.ref p5]) h6).trans S7
      have S5 := (same_new (o := .tup [.str "a"]) h5).trans S6
      have S4 := (same_new (o := .lst [.ref p3]) h4).trans S5
      have S3 := (same_new (o := .tup [.str "a"]) h3).trans S4
      have S2 := (same_new (o := .tup [.str "a", .non]) h2).trans S3
      have S1 := (same_new (o := .tup [.str "a", .str "A"]) h1).trans S2
      have e1 := mask_at (T2.ne h1).symm (S2 p1 _ upd_same)
      have e2 := mask_at (U1.ne h2).symm (S3 p2 _ upd_same)
      have e3 := mask_at (U2.ne h3).symm (S4 p3 _ upd_same)
      have e4 := mask_at (U3.ne h4).symm (S5 l4 _ upd_same)
      have e5 := mask_at (U4.ne h5).symm (S6 p5 _ upd_same)
      have e6 := mask_at (U5.ne h6).symm (S7 p6 _ upd_same)
      have sa : ∀ {b k : Nat} {m : Bool} {H : Hp}, 12 ≤ b → Itm K b k m H (.str "a") := fun hb => itm_str (by decide +kernel) (Nat.le_trans (by decide +kernel) hb)
      have sA : ∀ {b k : Nat} {m : Bool} {H : Hp}, 12 ≤ b → Itm K b k m H (.str "A") := fun hb => itm_str (by decide +kernel) (Nat.le_trans (by decide +kernel) hb)
      have t3 := (Itms.one (sa (b := 12) (k := 0) (m := true) (by decide))).tup (SqT.of e3) (by decide : 1 * (12 + 2) + 3 ≤ 17)
      have t5 := (Itms.one (sa (b := 12) (k := 0) (m := true) (by decide))).tup (SqT.of e5) (by decide : 1 * (12 + 2) + 3 ≤ 17)
      refine ⟨l, l7, xs, _, rfl, rfl, S1 l _ hl, upd_same, (by rw [lx]; show 17 + 5 ≤ sizeLine; decide), fun p hp => ⟨p, _, rfl, upd_same, ((U6.new h7).ne hp).symm, ?_, ?_, (U6.new h7).new hp, B2.trans (but_of (S1.trans (same_new hp)))⟩⟩
      · rw [List.length_append, lx]
        rfl
      · refine (OddsOk.app (ox.mono (mask_but (but_of S1))) ?_).mono (mask_but (but_of (same_new hp)))
        exact .cons ⟨true, ((Itms.cons (sa (b := 12) (k := 0) (by decide)) (.one (sA (by decide)))).tup (SqT.of e1) (by decide : 2 * (12 + 2) + 3 ≤ 2002)).more (Nat.le_refl _) (by decide)⟩
          (.cons ⟨true, ((Itms.cons (sa (b := 12) (k := 0) (by decide)) (.one (itm_non (by decide)))).tup (SqT.of e2) (by decide : 2 * (12 + 2) + 3 ≤ 2002)).more (Nat.le_refl _) (by decide)⟩
          (.cons ⟨true, ((Itms.one t3).lst (SqL.of e4) (by decide : 1 * (17 + 2) + 3 ≤ 2002)).more (Nat.le_refl _) (by decide)⟩
          (.cons ⟨true, ((Itms.one t5).tup (SqT.of e6) (by decide : 1 * (17 + 2) + 3 ≤ 2002)).more (Nat.le_refl _) (by decide)⟩
          (.cons (odd_str (by decide +kernel) (by decide +kernel)) .nil))))
    clear hl nl lx ox T2 B2
    rintro σ H3 ⟨l, xs, rfl, hl, nl, lx, ox, T3, B3⟩
    -- one of them
    refine ⟨fun σ H4 => ∃ (v : V), σ = [some (.ref t), some (.ref a), some (.int at_), some (.int far), some (.ref l), some v, none, none, none, none] ∧ Cur K t (n + 3) H H4 a rs v, ?_, ?_⟩
    · refine ⟨_, rfl, _, rfl, _, rfl, l, xs, rfl, .inl (SqL.of hl), t, _, n + 2, rfl, ?_, ?_, T3, by omega, fun u H4 u0 u1 T4 B4 => ?_⟩
      · rw [lx]
        decide
      · rw [lx]
        exact log_small (by decide) (by decide)
      · have hu : u.toNat < xs.length := by omega
        have hx : atI xs u = some xs[u.toNat] := by
          have q := atI_nat (j := u.toNat) (List.getElem?_eq_getElem hu)
          rw [Int.toNat_of_nonneg u0] at q
          exact q
        refine ⟨l, xs, u, _, rfl, rfl, SqL.of (B4 l _ nl hl), hx, xs[u.toNat], rfl, T4, B3.trans B4, hR.mono (mask_but (B3.trans B4)), (ox _ (List.getElem_mem hu)).mono (mask_but B4)⟩
    rintro σ H4 ⟨v, rfl, C4⟩
    -- the rows before it and behind it
    refine ⟨fun σ H5 => ∃ (qf qb : Addr), σ = [some (.ref t), some (.ref a), some (.int at_), some (.int far), some (.ref l), some v, some (.ref qf), some (.ref qb), none, none] ∧ SqT K H5 qf (rs.take at_) ∧ SqT K H5 qb (rs.drop (at_ + 1)) ∧ Cur K t (n + 3) H H5 a rs v, ?_, ?_⟩
    · refine ⟨_, rfl, _, rfl, at_, rfl, a, rs, rfl, C4.at_, fun qf H5 S5 f5 => ?_⟩
      rw [cutV_to] at f5
      have C5 := C4.go S5
      refine ⟨_, rfl, _, rfl, _, _, rfl, rfl, _, rfl, a, rs, rfl, C5.at_, fun qb H6 S6 f6 => ?_⟩
      have e1 : (at_ : Int) + 1 = ((at_ + 1 : Nat) : Int) := by omega
      rw [e1, cutV_from] at f6
      exact ⟨_, _, rfl, qf, qb, rfl, same_t S6 f5, f6, C5.go S6⟩
    rintro σ H5 ⟨qf, qb, rfl, hf, hb, C5⟩
    have lf : (rs.take at_).length = at_ := by rw [List.length_take]; omega
    have lb : (rs.drop (at_ + 1)).length = rs.length - (at_ + 1) := List.length_drop
    have lc : (rs.drop at_).length = rs.length - at_ := List.length_drop
    have tot : ∀ k : Nat, k ≤ 41 → k * (242487 + 2) + 3 ≤ 12000000 := fun k hk =>
      Nat.le_trans (Nat.add_le_add_right (Nat.mul_le_mul_right (242487 + 2) hk) 3) (by decide)
    have line : ∀ {k : Nat}, k ≤ 200 → k ≤ sizeLine := fun hk => sl_small (by omega)
    obtain ⟨mo, _⟩ := C5.od
    -- six things
    refine ⟨fun σ H6 => ∃ (l6 : Addr) (zs : List V), σ = [some (.ref t), some (.ref a), some (.int at_), some (.int far), some (.ref l), some v, some (.ref qf), some (.ref qb), some (.ref l6), none] ∧ H6 l6 = some (.lst zs) ∧ l6 ≠ t ∧ H l6 = none ∧ zs.length = 6 ∧ BigsOk K (mask t H6) zs ∧ SqT K H6 qf (rs.take at_) ∧ SqT K H6 qb (rs.drop (at_ + 1)) ∧ Cur K t (n + 3) H H6 a rs v, ?_, ?_⟩
    · refine ⟨_, rfl, _, rfl, (by show 1 ≤ sizeLine; decide), fun p1 h1 => ?_⟩
      have S1 : Same H5 (upd H5 p1 (.tup [v])) := same_new h1
      refine ⟨qf, p1, _, _, rfl, rfl, same_t S1 hf, SqT.of upd_same, line (by show (rs.take at_).length + 1 ≤ 200; omega), fun q1 Ha Sa ha => ?_⟩
      have S2 := S1.trans Sa
      refine ⟨_, rfl, _, rfl, at_, rfl, a, rs, rfl, (C5.go S2).at_, fun q2 Hb Sb hb2 => ?_⟩
      rw [cutV_from] at hb2
      have S3 := S2.trans Sb
      refine ⟨q1, q2, _, _, rfl, rfl, same_t Sb ha, hb2, line (by rw [List.length_append]; show (rs.take at_).length + 1 + (rs.drop at_).length ≤ 200; omega), fun q3 Hc Sc hc3 => ?_⟩
      have S4 := S3.trans Sc
      -- the second
      refine ⟨_, rfl, _, rfl, (by show 1 ≤ sizeLine; decide), fun p4 h4 => ?_⟩
      have S5 := S4.trans (same_new (o := .tup [v]) h4)
      refine ⟨qf, p4, _, _, rfl, rfl, same_t S5 hf, SqT.of upd_same, line (by show (rs.take at_).length + 1 ≤ 200; omega), fun q4 Hd Sd hd4 => ?_⟩
      have S6 := S5.trans Sd
      refine ⟨_, rfl, q4, qb, _, _, rfl, rfl, hd4, same_t S6 hb, line (by rw [List.length_append]; show (rs.take at_).length + 1 + (rs.drop (at_ + 1)).length ≤ 200; omega), fun q5 He Se he5 => ?_⟩
      have S7 := S6.trans Se
      -- the third
      refine ⟨_, rfl, _, rfl, qf, qb, _, _, rfl, rfl, same_t S7 hf, same_t S7 hb, line (by omega), fun q6 Hf Sf hf6 => ?_⟩
      have S8 := S7.trans Sf
      -- list(some), some[0], list(some[0])
      refine ⟨_, rfl, a, rs, rfl, .inr (C5.go S8).at_, fun l7 h7 => ?_⟩
      have S9 := S8.trans (same_new (o := .lst rs) h7)
      refine ⟨_, rfl, a, rs, 0, .ref p0, rfl, rfl, (C5.go S9).at_, at0, ?_⟩
      have R9 := (C5.go S9).rw_
      refine ⟨_, rfl, a, rs, 0, .ref p0, rfl, rfl, (C5.go S9).at_, at0, p0, w0.map V.str, rfl, .inr ?_, fun l8 h8 => ?_⟩
      · exact same_t (mask_same t _) (same_t (mask_but (C5.go S9).bt) hp0)
      have S10 := S9.trans (same_new (o := .lst (w0.map V.str)) h8)
      refine ⟨(by show 6 ≤ sizeLine; decide), fun l9 h9 => ?_⟩
      have S11 := S10.trans (same_new (o := .lst [.ref q3, .ref q5, .ref q6, .ref l7, .ref p0, .ref l8]) h9)
      have C11 := C5.go S11
      obtain ⟨m, om⟩ := C11.od
      have om := om.more (b' := 242487) (k' := 4) (by decide) (by decide)
      have rm := C11.rw_.itms m
      have rt := C11.rw_.itms true
      have s3 : Same Hc _ := (((((((same_new (o := .tup [v]) h4).trans Sd).trans Se).trans Sf).trans (same_new (o := .lst rs) h7)).trans (same_new (o := .lst (w0.map V.str)) h8)).trans (same_new (o := .lst [.ref q3, .ref q5, .ref q6, .ref l7, .ref p0, .ref l8]) h9))
      have s5 : Same He _ := ((Sf.trans (same_new (o := .lst rs) h7)).trans (same_new (o := .lst (w0.map V.str)) h8)).trans (same_new (o := .lst [.ref q3, .ref q5, .ref q6, .ref l7, .ref p0, .ref l8]) h9)
      have s6 : Same Hf _ := ((same_new (o := .lst rs) h7).trans (same_new (o := .lst (w0.map V.str)) h8)).trans (same_new (o := .lst [.ref q3, .ref q5, .ref q6, .ref l7, .ref p0, .ref l8]) h9)
      have s7 := (same_new (o := .lst (w0.map V.str)) h8).trans (same_new (o := .lst [.ref q3, .ref q5, .ref q6, .ref l7, .ref p0, .ref l8]) h9)
      have s8 := same_new (o := .lst [.ref q3, .ref q5, .ref q6, .ref l7, .ref p0, .ref l8]) h9
      have n7 : l7 ≠ t := ((C5.go S8).tr.ne h7).symm
      have n8 : l8 ≠ t := ((C5.go S9).tr.ne h8).symm
      have w0m := same_t (mask_but C11.bt) hp0
      refine ⟨l9, _, rfl, upd_same, ((C5.go S10).tr.ne h9).symm, but_none (C5.go S10).tr (C5.go S10).bt h9, rfl, ?_, same_t S11 hf, same_t S11 hb, C11⟩
      refine .cons ⟨m, (((rm.take at_).app (.one om)).app (rm.drop at_)).tup (mask_t C11.tr (same_t s3 hc3)) (tot _ ?_) |>.more (Nat.le_refl _) (by decide)⟩
        (.cons ⟨m, (((rm.take at_).app (.one om)).app (rm.drop (at_ + 1))).tup (mask_t C11.tr (same_t s5 he5)) (tot _ ?_) |>.more (Nat.le_refl _) (by decide)⟩
        (.cons ⟨m, ((rm.take at_).app (rm.drop (at_ + 1))).tup (mask_t C11.tr (same_t s6 hf6)) (tot _ ?_) |>.more (Nat.le_refl _) (by decide)⟩
        (.cons ⟨true, rt.lst (SqL.of (mask_at n7 (s7 l7 _ upd_same))) (tot _ ?_) |>.more (Nat.le_refl _) (by decide)⟩
        (.cons ⟨true, (itms_words hw3).tup w0m (?_ : _ ≤ 12000000) |>.more (Nat.le_refl _) (by decide)⟩
        (.cons ⟨true, (itms_words hw3).lst (SqL.of (mask_at n8 (s8 l8 _ upd_same))) (?_ : _ ≤ 12000000) |>.more (Nat.le_refl _) (by decide)⟩ .nil)))))
      · rw [List.length_append, List.length_append]
        show (rs.take at_).length + 1 + (rs.drop at_).length ≤ 41
        omega
      · rw [List.length_append, List.length_append]
        show (rs.take at_).length + 1 + (rs.drop (at_ + 1)).length ≤ 41
        omega
      · rw [List.length_append]
        omega
      · omega
      · rw [List.length_map]
        omega
      · rw [List.length_map]
        omega
    rintro σ H6 ⟨l6, zs, rfl, hl6, nl6, fl6, lz, bz, hf, hb, C6⟩
    -- the first row with the odd one in it
    refine ⟨fun σ H7 => ∃ (qw : Addr), σ = [some (.ref t), some (.ref a), some (.int at_), some (.int far), some (.ref l), some v, some (.ref qf), some (.ref qb), some (.ref l6), some (.ref qw)] ∧ (∃ m, Itm K 242487 4 m (mask t H7) v ∧ Itm K 242487 4 m (mask t H7) (.ref qw)) ∧ Same H6 H7 ∧ Cur K t (n + 3) H H7 a rs v, ?_, ?_⟩
    · have hw0 : SqT K H6 p0 (w0.map V.str) := same_t (mask_same t _) (same_t (mask_but C6.bt) hp0)
      refine ⟨_, rfl, a, rs, 0, .ref p0, rfl, rfl, C6.at_, at0, _, rfl, far, rfl, p0, _, rfl, hw0, fun q1 Ha Sa ha => ?_⟩
      rw [cutV_to] at ha
      refine ⟨_, rfl, (by show 1 ≤ sizeLine; decide), fun p2 h2 => ?_⟩
      have S2 := Sa.trans (same_new (o := .tup [v]) h2)
      refine ⟨q1, p2, _, _, rfl, rfl, same_t (same_new h2) ha, SqT.of upd_same, line (by rw [List.length_take, List.length_map]; show min far w0.length + 1 ≤ 200; omega), fun q3 Hb Sb hb3 => ?_⟩
      have S3 := S2.trans Sb
      refine ⟨_, rfl, a, rs, 0, .ref p0, rfl, rfl, (C6.go S3).at_, at0, _, rfl, _, _, rfl, rfl, _, rfl, p0, _, rfl, same_t S3 hw0, fun q4 Hc Sc hc4 => ?_⟩
      have e1 : (far : Int) + 1 = ((far + 1 : Nat) : Int) := by omega
      rw [e1, cutV_from] at hc4
      have S4 := S3.trans Sc
      refine ⟨q3, q4, _, _, rfl, rfl, same_t Sc hb3, hc4, line (by rw [List.length_append, List.length_take, List.length_drop, List.length_map]; show min far w0.length + 1 + (w0.length - (far + 1)) ≤ 200; omega), fun q5 Hd Sd hd5 => ?_⟩
      have S5 := S4.trans Sd
      have C7 := C6.go S5
      obtain ⟨m, om⟩ := C7.od
      have wm := itms_words (K := K) (m := m) (H := mask t Hd) hw3
      have wm := wm.more (b' := 2002) (k' := 3) (Nat.le_refl _) (by decide)
      refine ⟨q5, rfl, ⟨m, om.more (by decide) (by decide), ?_⟩, S5, C7⟩
      refine ((((wm.take far).app (.one om)).app (wm.drop (far + 1))).tup (mask_t C7.tr hd5) (?_ : _ ≤ 242487)).more (Nat.le_refl _) (Nat.le_refl _)
      rw [List.length_append, List.length_append, List.length_take, List.length_drop, List.length_map]
      show (min far w0.length + 1 + (w0.length - (far + 1))) * (2002 + 2) + 3 ≤ 242487
      have : (min far w0.length + 1 + (w0.length - (far + 1))) * (2002 + 2) ≤ 61 * (2002 + 2) := Nat.mul_le_mul_right _ (by omega)
      omega
    rintro σ H7 ⟨qw, rfl, ⟨mw, iv, iw⟩, S67, C7⟩
    have hf := same_t S67 hf
    have hb := same_t S67 hb
    have hl6 := S67 l6 _ hl6
    have bz := bz.mono (mask_but (but_of S67))
    clear C6 S67 C5
    -- nine more
    refine ⟨fun σ H8 => ∃ (l8 : Addr) (zs : List V) (o : Option V), σ = [some (.ref t), some (.ref a), some (.int at_), some (.int far), some (.ref l), some v, some (.ref qf), some (.ref qb), some (.ref l8), o] ∧ H8 l8 = some (.lst zs) ∧ zs.length = 15 ∧ BigsOk K (mask t H8) zs ∧ SqT K H8 qf (rs.take at_) ∧ SqT K H8 qb (rs.drop (at_ + 1)) ∧ Cur K t (n + 3) H H8 a rs v, ?_, ?_⟩
    · refine ⟨_, rfl, _, rfl, _, rfl, _, rfl, (by show 1 ≤ sizeLine; decide), fun p1 h1 => ?_⟩
      have S1 : Same H7 (upd H7 p1 (.tup [.ref qw])) := same_new h1
      refine ⟨qf, p1, _, _, rfl, rfl, same_t S1 hf, SqT.of upd_same, line (by show (rs.take at_).length + 1 ≤ 200; omega), fun q2 Ha Sa ha => ?_⟩
      have S2 := S1.trans Sa
      refine ⟨_, rfl, q2, qb, _, _, rfl, rfl, ha, same_t S2 hb, line (by rw [List.length_append]; show (rs.take at_).length + 1 + (rs.drop (at_ + 1)).length ≤ 200; omega), fun q3 Hb Sb hb3 => ?_⟩
      have S3 := S2.trans Sb
      refine ⟨_, rfl, _, rfl, (by show 1 ≤ sizeLine; decide), fun p4 h4 => ?_⟩
      have S4 := S3.trans (same_new (o := .tup [v]) h4)
      have hw0 : SqT K _ p0 (w0.map V.str) := same_t (mask_same t _) (same_t (mask_but (C7.go S4).bt) hp0)
      obtain ⟨x0, hx0⟩ : ∃ x0, w0[0]? = some x0 := ⟨w0[0]'(by omega), List.getElem?_eq_getElem _⟩
      have wat : atI (w0.map V.str) (0 : Int) = some (.str x0) := atI_nat (j := 0) (by rw [List.getElem?_map, hx0]; rfl)
      refine ⟨_, rfl, a, rs, 0, .ref p0, rfl, rfl, (C7.go S4).at_, at0, p0, _, 0, .str x0, rfl, rfl, hw0, wat, ?_⟩
      refine ⟨(by show 0 ≤ sizeLine; decide), fun p5 h5 => ?_⟩
      refine ⟨(by show 0 ≤ sizeLine; decide), fun p6 h6 => ?_⟩
      refine ⟨(by show 1 ≤ sizeLine; decide), fun p7 h7 => ?_⟩
      refine ⟨(by show 0 ≤ sizeLine; decide), fun p8 h8 => ?_⟩
      refine ⟨(by show 1 ≤ sizeLine; decide), fun l9 h9 => ?_⟩
      refine ⟨(by show 9 ≤ sizeLine; decide), fun l10 h10 => ?_⟩
      have D10 := same_new (o := .lst [.ref qw, .ref q3, v, .ref p4, .str x0, .non, .ref p5, .ref p7, .ref l9]) h10
      have D9 := (same_new (o := .lst [.ref p8]) h9).trans D10
      have D8 := (same_new (o := .tup []) h8).trans D9
      have D7 := (same_new (o := .tup [.ref p6]) h7).trans D8
      have D6 := (same_new (o := .tup []) h6).trans D7
      have D5 := (same_new (o := .tup []) h5).trans D6
      have D4 := (same_new (o := .tup [v]) h4).trans D5
      have S5 := S3.trans D4
      have C8 := C7.go S5
      have T5 := (C7.go S4).tr.new (o := .tup []) h5
      have T6 := T5.new (o := .tup []) h6
      have T7 := T6.new (o := .tup [.ref p6]) h7
      have T8 := T7.new (o := .tup []) h8
      have T9 := T8.new (o := .lst [.ref p8]) h9
      refine ⟨l6, l10, zs, _, rfl, rfl, S5 l6 _ hl6, upd_same, (by rw [lz]; show 6 + 9 ≤ sizeLine; decide), fun p hp => ⟨p, _, _, rfl, upd_same, ?_, ?_, same_t (S5.trans (same_new hp)) hf, same_t (S5.trans (same_new hp)) hb, C8.go (same_new hp)⟩⟩
      · rw [List.length_append, lz]
        rfl
      · have M5 := mask_but (t := t) (but_of S5)
        have iv := iv.mono M5
        have iw := iw.mono M5
        have rm := C8.rw_.itms mw
        have e5 := mask_t C8.tr (SqT.of (D6 p5 _ upd_same) : SqT K _ p5 [])
        have e6 := mask_t C8.tr (SqT.of (D7 p6 _ upd_same) : SqT K _ p6 [])
        have e7 := mask_t C8.tr (SqT.of (D8 p7 _ upd_same) : SqT K _ p7 [.ref p6])
        have e8 := mask_t C8.tr (SqT.of (D9 p8 _ upd_same) : SqT K _ p8 [])
        have e4 := mask_t C8.tr (SqT.of (D5 p4 _ upd_same) : SqT K _ p4 [v])
        have e9 := mask_at (T8.ne h9).symm (D10 l9 _ upd_same)
        have i6 := (Itms.nil (K := K) (b := 0) (k := 0) (m := true)).tup e6 (by decide : 0 * (0 + 2) + 3 ≤ 3)
        have i8 := (Itms.nil (K := K) (b := 0) (k := 0) (m := true)).tup e8 (by decide : 0 * (0 + 2) + 3 ≤ 3)
        refine (BigsOk.app (bz.mono M5) ?_).mono (mask_but (but_of (same_new hp)))
        refine .cons ⟨mw, iw.more (by decide) (by decide)⟩
          (.cons ⟨mw, ((((rm.take at_).app (.one iw)).app (rm.drop (at_ + 1))).tup (mask_t C8.tr (same_t D4 hb3)) (tot _ ?_)).more (Nat.le_refl _) (by decide)⟩
          (.cons ⟨mw, iv.more (by decide) (by decide)⟩
          (.cons ⟨mw, ((Itms.one iv).tup e4 (tot 1 (by decide))).more (Nat.le_refl _) (by decide)⟩
          (.cons ⟨true, itm_lets (hw3 x0 (List.mem_of_getElem? hx0)).1 ?_⟩
          (.cons ⟨true, itm_non (by decide)⟩
          (.cons ⟨true, ((Itms.nil (b := 0) (k := 0)).tup e5 (by decide : 0 * (0 + 2) + 3 ≤ 12000000)).more (Nat.le_refl _) (by decide)⟩
          (.cons ⟨true, ((Itms.one i6).tup e7 (by decide : 1 * (3 + 2) + 3 ≤ 12000000)).more (Nat.le_refl _) (by decide)⟩
          (.cons ⟨true, ((Itms.one i8).lst (SqL.of e9) (by decide : 1 * (3 + 2) + 3 ≤ 12000000)).more (Nat.le_refl _) (by decide)⟩ .nil))))))))
        · rw [List.length_append, List.length_append]
          show (rs.take at_).length + 1 + (rs.drop (at_ + 1)).length ≤ 41
          omega
        · have := (hw3 x0 (List.mem_of_getElem? hx0)).2
          omega
    clear hf hb hl6 bz iv iw C7
    rintro σ H8 ⟨l8, ys, o, rfl, hl8, ly, by8, hf, hb, C8⟩
    -- the last one
    obtain ⟨ra, hra⟩ : ∃ ra, rs[at_]? = some ra := ⟨rs[at_], List.getElem?_eq_getElem ha1⟩
    obtain ⟨pa, wa, rfl, hpa, hwa1, hwa2, hwa3⟩ := hR.row ra (List.mem_of_getElem? hra)
    have hwa : SqT K H8 pa (wa.map V.str) := same_t (mask_same t _) (same_t (mask_but C8.bt) hpa)
    refine ⟨_, rfl, _, rfl, _, rfl, _, rfl, a, rs, at_, .ref pa, rfl, rfl, C8.at_, atI_nat hra, pa, _, rfl, .inr hwa, fun l1 h1 => ?_⟩
    have S1 : Same H8 (upd H8 l1 (.lst (wa.map V.str))) := same_new h1
    refine ⟨(by show 1 ≤ sizeLine; decide), fun p2 h2 => ?_⟩
    have S2 := S1.trans (same_new (o := .tup [.ref l1]) h2)
    refine ⟨qf, p2, _, _, rfl, rfl, same_t S2 hf, SqT.of upd_same, line (by show (rs.take at_).length + 1 ≤ 200; omega), fun q3 Ha Sa ha => ?_⟩
    have S3 := S2.trans Sa
    refine ⟨_, rfl, q3, qb, _, _, rfl, rfl, ha, same_t S3 hb, line (by rw [List.length_append]; show (rs.take at_).length + 1 + (rs.drop (at_ + 1)).length ≤ 200; omega), fun q4 Hb Sb hb4 => ?_⟩
    have S4 := S3.trans Sb
    refine ⟨(by show 1 ≤ sizeLine; decide), fun l5 h5 => ?_⟩
    have D5 := same_new (o := .lst [.ref q4]) h5
    have S5 := S4.trans D5
    have C9 := C8.go S5
    have n1 : l1 ≠ t := (C8.tr.ne h1).symm
    have D1 := (((same_new (o := .tup [.ref l1]) h2).trans Sa).trans Sb).trans D5
    refine ⟨l8, l5, ys, _, rfl, rfl, S5 l8 _ hl8, upd_same, (by rw [ly]; show 15 + 1 ≤ sizeLine; decide), fun p hp => ?_⟩
    have C10 := C9.go (same_new (o := .lst (ys ++ [.ref q4])) hp)
    refine k p _ _ upd_same ?_ ?_ (C9.tr.ne hp).symm (but_none C9.tr C9.bt hp) C10.tr C10.bt
    · rw [List.length_append, ly]
      show 15 + 1 ≤ 100
      decide
    · refine (BigsOk.app (by8.mono (mask_but (but_of S5))) (.cons ⟨true, ?_⟩ .nil)).mono (mask_but (but_of (same_new hp)))
      have rt := C9.rw_.itms true
      have il := (itms_words (K := K) (m := true) (H := mask t (upd Hb l5 (.lst [.ref q4]))) hwa3).lst (b' := 242487) (SqL.of (mask_at n1 (D1 l1 _ upd_same))) (by rw [List.length_map]; omega)
      have il := il.more (b' := 242487) (k' := 4) (Nat.le_refl _) (by decide)
      refine ((((rt.take at_).app (.one il)).app (rt.drop (at_ + 1))).tup (mask_t C9.tr (same_t D5 hb4)) (tot _ ?_)).more (Nat.le_refl _) (by decide)
      rw [List.length_append, List.length_append]
      show (rs.take at_).length + 1 + (rs.drop (at_ + 1)).length ≤ 41
      omega
end
end K1
namespace K1
open PySem PySem.Spec PyProof.Rows L2 TL Bl
/-! ### the data of rows -/
theorem words_dp {K : PySem.W.Frag} {H : Hp} : ∀ ws : List Str, DpAll K H (ws.map V.str) (ws.map PyData.str)
  | [] => .nil
  | x :: r => .cons (.str x) (words_dp r)
theorem words_sz : ∀ ws : List Str, (∀ x ∈ ws, x.length ≤ 200) → szAll (ws.map PyData.str) ≤ ws.length * 2004
  | [], _ => Nat.zero_le _
  | x :: r, h => by
    have ih := words_sz r fun y hy => h y (List.mem_cons_of_mem _ hy)
    have hx := h x List.mem_cons_self
    show 10 * x.length + 2 + 2 + szAll (r.map PyData.str) ≤ (r.length + 1) * 2004
    omega
theorem words_ok : ∀ ws : List Str, (∀ x ∈ ws, Lets x) → okAll (ws.map PyData.str)
  | [], _ => trivial
  | x :: r, h => ⟨fun c hc => by have := h x List.mem_cons_self c hc; omega, words_ok r fun y hy => h y (List.mem_cons_of_mem _ hy)⟩
theorem words_row {ws : List Str} (h : ∀ x ∈ ws, Lets x) (h1 : 1 ≤ ws.length) : rowD (.tuple (ws.map PyData.str)) = true := by
  have e : rowD (.tuple (ws.map PyData.str)) = (!(ws.map PyData.str).isEmpty && (ws.map PyData.str).all wordD) := rfl
  rw [e, Bool.and_eq_true]
  constructor
  · cases ws with
    | nil => simp at h1
    | cons x r => rfl
  · rw [List.all_eq_true]
    intro d hd
    obtain ⟨x, hx, rfl⟩ := List.mem_map.mp hd
    exact word_iff.mpr (h x hx)
theorem words_depth : ∀ ws : List Str, PyData.depthAll (ws.map PyData.str) ≤ 0
  | [] => Nat.le_refl _
  | x :: r => by
    have ih := words_depth r
    show max 0 (PyData.depthAll (r.map PyData.str)) ≤ 0
    omega
def RowsL (K : PySem.W.Frag) (H : Hp) (rs : List V) : Prop := ∀ r ∈ rs, ∃ (p : Addr) (ws : List Str), r = .ref p ∧ SqT K H p (ws.map V.str) ∧ 1 ≤ ws.length ∧ ws.length ≤ 60 ∧ WordsOk ws
theorem rowsL_mono {K : PySem.W.Frag} {H H' : Hp} {rs : List V} (h : RowsL K H rs) (e : Same H H') : RowsL K H' rs := fun r hr => let ⟨p, ws, h1, h2, h3⟩ := h r hr; ⟨p, ws, h1, same_t e h2, h3⟩
theorem rowsL_data {K : PySem.W.Frag} {H : Hp} : ∀ rs : List V, RowsL K H rs → ∃ ds, DpAll K H rs ds ∧ ds.all rowD = true ∧ okAll ds ∧ szAll ds ≤ rs.length * 130000 ∧ PyData.depthAll ds ≤ 1
  | [], _ => ⟨[], .nil, rfl, trivial, Nat.zero_le _, Nat.zero_le _⟩
  | r :: rs, h => by
    obtain ⟨p, ws, rfl, h2, h3, h4, h5⟩ := h r List.mem_cons_self
    obtain ⟨ds, q1, q2, q3, q4, q5⟩ := rowsL_data rs fun u hu => h u (List.mem_cons_of_mem _ hu)
    have z := words_sz ws fun x hx => (h5 x hx).2
    have dp := words_depth ws
    refine ⟨.tuple (ws.map PyData.str) :: ds, .cons (.tup h2 (words_dp ws)) q1, ?_, ⟨words_ok ws fun x hx => (h5 x hx).1, q3⟩, ?_, ?_⟩
    · rw [List.all_cons, q2, words_row (fun x hx => (h5 x hx).1) h3]
      rfl
    · show szAll (ws.map PyData.str) + 3 + 2 + szAll ds ≤ (rs.length + 1) * 130000
      omega
    · show max (PyData.depthAll (ws.map PyData.str) + 1) (PyData.depthAll ds) ≤ 1
      omega
theorem Rows.data {K : PySem.W.Frag} {H : Hp} {a : Addr} {rs : List V} (h : Rows K H a rs) : ∃ d, Gd K H (.ref a) d ∧ prodD d = true ∧ okD d ∧ sz d ≤ 12000000 ∧ d.depth ≤ 8 := by
  obtain ⟨ds, q1, q2, q3, q4, q5⟩ := rowsL_data rs h.row
  have hl := h.len
  have e := dpAll_len q1
  refine ⟨.tuple ds, .inl (.tup h.at_ q1), ?_, q3, ?_, ?_⟩
  · have e2 : prodD (.tuple ds) = (!ds.isEmpty && ds.all rowD) := rfl
    rw [e2, q2, Bool.and_true]
    cases ds with
    | nil =>
      rw [List.length_nil] at e
      omega
    | cons x r => rfl
  · show szAll ds + 3 ≤ 12000000
    omega
  · show PyData.depthAll ds + 1 ≤ 8
    omega
theorem row_data {K : PySem.W.Frag} {H : Hp} {p : Addr} {ws : List Str} (h2 : SqT K H p (ws.map V.str)) (h3 : 1 ≤ ws.length) (h4 : ws.length ≤ 7000) (h5 : WordsOk ws) : ∃ d, Gd K H (.ref p) d ∧ rowD d = true ∧ sz d ≤ 16000000 := by
  have z := words_sz ws fun x hx => (h5 x hx).2
  refine ⟨_, .inl (.tup h2 (words_dp ws)), words_row (fun x hx => (h5 x hx).1) h3, ?_⟩
  show szAll (ws.map PyData.str) + 3 ≤ 16000000
  omega
theorem but_mask {t D : Addr} {H H' : Hp} (e : But D H H') : But D (mask t H) (mask t H') := fun b o n h => by
  unfold mask at h ⊢
  by_cases z : b = t
  · rw [if_pos z] at h
    cases h
  · rw [if_neg z] at h ⊢
    exact e b o n h
theorem rep_map (n : Nat) (v : V) : (List.replicate n [v]).flatten = List.replicate n v := List.flatten_replicate_singleton
theorem dp_rep {K : PySem.W.Frag} {H : Hp} {v : V} {d : PyData} (h : Dp K H v d) : ∀ n, DpAll K H (List.replicate n v) (List.replicate n d)
  | 0 => .nil
  | n + 1 => .cons h (dp_rep h n)
theorem sz_rep (d : PyData) : ∀ n, szAll (List.replicate n d) = n * (sz d + 2)
  | 0 => by rw [Nat.zero_mul]; rfl
  | n + 1 => by
    have e : szAll (List.replicate (n + 1) d) = sz d + 2 + szAll (List.replicate n d) := rfl
    rw [e, sz_rep d n, Nat.succ_mul]
    omega
theorem all_rep (g : PyData → Bool) (d : PyData) (h : g d = true) : ∀ n, (List.replicate n d).all g = true
  | 0 => rfl
  | n + 1 => by rw [List.replicate_succ, List.all_cons, h, all_rep g d h n]; rfl
/-- what is asked of each one given -/
def AskOk (K : PySem.W.Frag) (H : Hp) (v : V) : Prop := ∃ d, Gd K H v d ∧ okD d ∧ sz d ≤ 16000000 ∧ d.depth ≤ 40
theorem AskOk.mono {K : PySem.W.Frag} {H H' : Hp} {v : V} (h : AskOk K H v) (e : Same H H') : AskOk K H' v := let ⟨d, h1, h2⟩ := h; ⟨d, h1.mono e, h2⟩
theorem ask_itm {K : PySem.W.Frag} {b k : Nat} {m : Bool} {H : Hp} {v : V} (h : Itm K b k m H v) (hb : b ≤ 16000000) (hk : k ≤ 40) : AskOk K H v := by
  obtain ⟨d, h1, h2, h3, h4⟩ := h.gd
  exact ⟨d, h1, h2, by omega, by omega⟩
theorem BigOk.ask {K : PySem.W.Frag} {H : Hp} {v : V} (h : BigOk K H v) : AskOk K H v := by
  obtain ⟨m, q⟩ := h
  exact ask_itm q (by decide) (by decide)
section
variable {P : Program} {w : World} {K : PySem.W.Frag} {mg : Str → Option Value} {base : Heap}
def spLaw (K : PySem.W.Frag) : Sp := fun vs H Q _ => ∃ (a : Addr) (ns : List Int), vs = [.ref a] ∧ SqL K H a (ns.map V.int) ∧ ns.length ≤ 63 ∧ ∀ H', Q (.bl true) H'
theorem scLaw : FnScope ["script", "at", "tray", "turn", "wide", "some", "given", "others", "deep", "place"] ["script"] (defScope sLaw) := ⟨rfl, rfl, rfl, by decide +kernel, rfl, by decide +kernel, by decide +kernel⟩
set_option maxHeartbeats 8000000 in
theorem ok_law {f ty ta ro be ri ir ip : Addr} {fd tyd tad rod bed rid ird ipd : FuncData} (F : Fun K "law" "law" sLaw f fd) (T : Names mg)
    (FY : Fun K "_law_tray" "_law_tray" sTray ty tyd) (mY : mg "_law_tray" = some (.ref ty)) (bY : Binds K tyd ["script", "at"] [])
    (FT : Fun K "_law_take" "_law_take" sTake ta tad) (mT : mg "_law_take" = some (.ref ta)) (bT : Binds K tad ["tray", "many"] [])
    (FO : Fun K "_law_row" "_law_row" sRow ro rod) (mO : mg "_law_row" = some (.ref ro)) (bO : Binds K rod ["tray", "most"] []) (OO : FnOk P w K mg base CX0 3 ro rod ["tray", "most"] spRow)
    (FB : Fun K "_law_bent" "_law_bent" sBent be bed) (mB : mg "_law_bent" = some (.ref be)) (bB : Binds K bed ["tray", "some"] []) (OB : FnOk P w K mg base CX0 2 be bed ["tray", "some"] (spBent K))
    (FR : Fun K "_law_right" "_law_right" sRight ri rid) (mR : mg "_law_right" = some (.ref ri)) (bR : Binds K rid ["given"] []) (OR : FnG P w K mg base CX0 4 ri rid ["given"] (spRight K))
    (IR : Fun K "is_row" "is_row" sIsRow ir ird) (mIR : mg "is_row" = some (.ref ir)) (bIR : Binds K ird ["value"] []) (OIR : FnOk P w K mg base CX0 2 ir ird ["value"] (spRowB K rowD))
    (IP : Fun K "is_product" "is_product" sIsProd ip ipd) (mIP : mg "is_product" = some (.ref ip)) (bIP : Binds K ipd ["value"] []) (OIP : FnOk P w K mg base CX0 3 ip ipd ["value"] (spRowB K prodD)) :
    FnG P w K mg base CX0 5 f fd ["script"] (spLaw K) := by
  refine okG F scLaw (fun vs H Q E h => ?_) (fun cdv A outer s H vs Q E hgd hr h => ?_)
  · obtain ⟨a, ns, rfl, _⟩ := h
    rfl
  · obtain ⟨a, ns, rfl, hS, hl, k⟩ := h
    have OY : FnOk P w K mg base CX0 1 ty tyd ["script", "at"] (spTray K) := ok_tray FY T
    have OT : FnOk P w K mg base CX0 1 ta tad ["tray", "many"] spTake := ok_take FT
    have hr1 : Room 1 _ := hr.mono (by decide)
    have hr2 : Room 2 _ := hr.mono (by decide)
    have hr3 : Room 3 _ := hr.mono (by decide)
    have hu := hr.units
    refine ⟨_, Evl.pss_cut (ps_for PassesOwn.never rfl (pi_range1 (by rfl) T.range (pa_cons (pe_callB (call_max2 rfl) (by rfl) T.max boot_max (pa_cons pe_int (pa_cons (pe_callB (call_min2 rfl) (by rfl) T.min boot_min (pa_cons pe_int (pa_cons (pe_callB call_len_seq (by rfl) T.len PySem.boot_len (pa_cons (pv 0) pa_nil)) pa_nil))) pa_nil))) pa_nil)) (pg_name (i := 1) scLaw.nd rfl (Or.inl rfl))
        (pss_cons (ps_set (i := 2) scLaw.nd rfl (Or.inr rfl) (pe_call OY hr1 (by rfl) mY FY.kp bY .nil pass0 (pa_cons (pv 0) (pa_cons (pv 1) pa_nil))))
        (pss_one (ps_for PassesOwn.never rfl (pi_range1 (by rfl) T.range (pa_cons pe_int pa_nil)) (pg_name (i := 3) scLaw.nd rfl (Or.inl rfl))
          (Evl.pss_cut (ps_set (i := 4) scLaw.nd rfl (Or.inr rfl) (pe_ix ix_list (pe_lst (pa_cons (pe_lst (pa_cons pe_int (pa_cons pe_int pa_nil))) (pa_cons (pe_lst (pa_cons pe_int (pa_cons pe_int pa_nil))) pa_nil))) (pe_call OT hr1 (by rfl) mT FT.kp bT .nil pass0 (pa_cons (pv 2) (pa_cons pe_int pa_nil))) (fun _ _ => rfl)))
          (Evl.pss_cut (ps_set (i := 5) scLaw.nd rfl (Or.inl rfl) (pe_callTy call_tuple_of (by rfl) T.tuple (by decide +kernel) (pa_cons (pe_lc (own := [("place", 9)]) (g := gName 9) (tt := tYes) rfl scLaw.nd
              (pi_range1 (by rfl) T.range (pa_cons (pe_op op_add pe_int (pe_call OT hr1 (by rfl) mT FT.kp bT .nil pass0 (pa_cons (pv 2) (pa_cons (pe_ix (r := rIxL K) ix_list (pv 4) pe_int (fun _ _ => rfl)) pa_nil)))) pa_nil))
              (blkOk_by (N := ["script", "at", "tray", "turn", "wide", "some", "given", "others", "deep", "place"]) (sc := defScope sLaw) (by decide +kernel)) (fun _ _ _ _ _ => pg_name (i := 9) scLaw.nd rfl (Or.inl rfl)) (fun _ _ _ _ _ => pts_nil)
              (fun _ _ _ _ _ => pe_call OO hr3 (by rfl) mO FO.kp bO .nil pass0 (pa_cons (pv 2) (pa_cons (pe_ix (r := rIxL K) ix_list (pv 4) pe_int (fun _ _ => rfl)) pa_nil)))) pa_nil)))
          (pss_cons (ps_if (PW.pt (pw_or (pt_not (pt_val (pe_call OIP hr3 (by rfl) mIP IP.kp bIP .nil pass0 (pa_cons (pv 5) pa_nil)))) (pw_or1 (pt_not (pt_val (pe_call OIR hr2 (by rfl) mIR IR.kp bIR .nil pass0 (pa_cons (pe_ix ix_tup (pv 5) pe_int (fun _ _ => rfl)) pa_nil)))))))
              (pss_one (ps_ret pe_bl)) pss_nil)
          (pss_one (ps_for PassesOwn.never rfl (pi_list (pe_op op_cat (pe_lst (pa_cons (pv 5) pa_nil)) (pe_call OB hr2 (by rfl) mB FB.kp bB .nil pass0 (pa_cons (pv 2) (pa_cons (pv 5) pa_nil))))) (pg_name (i := 6) scLaw.nd rfl (Or.inl rfl))
            (pss_one (ps_if (pt_not (pt_val (pe_callG OR hgd hr (by rfl) mR FR.kp bR pass0 (pa_cons (pv 6) pa_nil)))) (pss_one (ps_ret pe_bl)) pss_nil)))))))))))
      (Evl.pss_cut (ps_set (i := 7) scLaw.nd rfl (Or.inl rfl) (pe_lst (pa_cons pe_non (pa_cons pe_bl (pa_cons pe_int (pa_cons pe_int (pa_cons pe_str (pa_cons pe_str (pa_cons (pe_lst pa_nil) (pa_cons (pe_tup pa_nil) (pa_cons pe_dnewK
          (pa_cons (pe_tup (pa_cons pe_str pa_nil)) (pa_cons (pe_tup (pa_cons (pe_tup (pa_cons pe_str pa_nil)) pa_nil)) (pa_cons (pe_tup (pa_cons pe_str (pa_cons pe_str pa_nil))) (pa_cons (pe_tup (pa_cons (pe_tup (pa_cons pe_str pa_nil)) (pa_cons pe_str pa_nil)))
          (pa_cons (pe_tup (pa_cons (pe_tup pa_nil) (pa_cons (pe_tup (pa_cons pe_str pa_nil)) pa_nil))) pa_nil))))))))))))))))
      (pss_cons (ps_set (i := 8) scLaw.nd rfl (Or.inl rfl) pe_str)
      (Evl.pss_cut (ps_for PassesOwn.never rfl (pi_range1 (by rfl) T.range (pa_cons pe_int pa_nil)) (pg_name (i := 3) scLaw.nd rfl (Or.inl rfl)) (pss_one (ps_set (i := 8) scLaw.nd rfl (Or.inl rfl) (pe_tup (pa_cons (pv 8) pa_nil)))))
      (pss_cons (ps_if (pt_cmpR (op_neD hu) (pe_lc (own := [("given", 6)]) (g := gName 6) (tt := tNot (tB (tCall (spRight K) [] E0 (tCons (tVar 6) tNil)))) rfl scLaw.nd (pi_list (pe_op op_cat (pv 7) (pe_lst (pa_cons (pv 8) (pa_cons (pe_tup (pa_cons (pv 8) pa_nil)) pa_nil)))))
          (blkOk_by (N := ["script", "at", "tray", "turn", "wide", "some", "given", "others", "deep", "place"]) (sc := defScope sLaw) (by decide +kernel)) (fun _ _ _ _ _ => pg_name (i := 6) scLaw.nd rfl (Or.inl rfl))
          (fun _ _ _ _ _ => pts_one (pt_not (pt_val (pe_callG OR hgd hr (by rfl) mR FR.kp bR pass0 (pa_cons (pv 6) pa_nil))))) (fun _ _ _ _ _ => pv 6)) (pe_lst pa_nil) (nomark _)) (pss_one (ps_ret pe_bl)) pss_nil)
      (pss_one (ps_ret (pe_and (pe_call OIR hr2 (by rfl) mIR IR.kp bIR .nil pass0 (pa_cons (pe_op op_repB (pe_tup (pa_cons pe_str pa_nil)) pe_int) pa_nil))
        (pe_and (pe_call OIP hr3 (by rfl) mIP IP.kp bIP .nil pass0 (pa_cons (pe_op op_repB (pe_tup (pa_cons (pe_tup (pa_cons pe_str (pa_cons pe_str pa_nil))) pa_nil)) pe_int) pa_nil))
        (pe_one (pe_call OIR hr2 (by rfl) mIR IR.kp bIR .nil pass0 (pa_cons (pe_tup (pa_cons (pe_op op_mulS pe_str pe_int) pa_nil)) pa_nil))))))))))), ?_⟩
    refine ⟨fun σ H1 => ∃ o1 o2 o3 o4 o5 o6 : Option V, σ = [some (.ref a), o1, o2, o3, o4, o5, o6, none, none, none] ∧ Same H H1, ?_, ?_⟩
    · refine ⟨_, rfl, a, _, rfl, .inl hS, _, _, rfl, _, _, rfl, ?_⟩
      rw [List.length_map]
      have hb : 1 ≤ (if (if ((ns.length : Nat) : Int) < 8 then ((ns.length : Nat) : Int) else 8) > 1 then (if ((ns.length : Nat) : Int) < 8 then ((ns.length : Nat) : Int) else 8) else 1) ∧ (if (if ((ns.length : Nat) : Int) < 8 then ((ns.length : Nat) : Int) else 8) > 1 then (if ((ns.length : Nat) : Int) < 8 then ((ns.length : Nat) : Int) else 8) else 1) ≤ 8 := by
        split <;> split <;> omega
      refine ⟨_, rfl, ?_, ?_, for_range (lo := 0) (fun _ σ H1 => ∃ o1 o2 o3 o4 o5 o6 : Option V, σ = [some (.ref a), o1, o2, o3, o4, o5, o6, none, none, none] ∧ Same H H1) ⟨none, none, none, none, none, none, rfl, Same.refl _⟩ ?_ fun σ H1 z => z⟩
      · omega
      · omega
      rintro i σ H1 hi ⟨o1, o2, o3, o4, o5, o6, rfl, S1⟩
      have hi8 : i ≤ 8 := by omega
      have e0 : (0 : Int) + (i : Int) = (i : Int) := Int.zero_add _
      refine ⟨_, rfl, _, rfl, a, ns, i, by rw [e0]; rfl, S1.seq hS, by omega, by omega, fun t H2 ht T2 S2 => ?_⟩
      refine ⟨2, rfl, by decide, by decide, for_range (lo := 0) (n := 2) (fun j σ H3 => ∃ o1 o3 o4 o5 o6 : Option V, σ = [some (.ref a), o1, some (.ref t), o3, o4, o5, o6, none, none, none] ∧ Tray H3 t (100000 * j) ∧ But t H2 H3) ⟨_, _, _, _, _, rfl, T2, But.refl _ _⟩ ?_ ?_⟩
      · clear o1 o3 o4 o5 o6
        rintro j σ H3 hj ⟨o1, o3, o4, o5, o6, rfl, T3, B3⟩
        -- how wide
        refine ⟨fun σ H4 => ∃ (x y : Nat) (lw : Addr) (o3 : Option V), σ = [some (.ref a), o1, some (.ref t), o3, some (.ref lw), o5, o6, none, none, none] ∧ ((x = 3 ∧ y = 60) ∨ (x = 40 ∧ y = 5)) ∧ H4 lw = some (.lst [.int x, .int y]) ∧ lw ≠ t ∧ Tray H4 t (100000 * j + 1) ∧ But t H3 H4, ?_, ?_⟩
        · refine ⟨(by show 2 ≤ sizeLine; decide), fun l1 h1 => ?_⟩
          refine ⟨(by show 2 ≤ sizeLine; decide), fun l2 h2 => ?_⟩
          refine ⟨(by show 2 ≤ sizeLine; decide), fun l0 h0 => ?_⟩
          have U1 := T3.new (o := .lst [.int 3, .int 60]) h1
          have U2 := U1.new (o := .lst [.int 40, .int 5]) h2
          have U0 := U2.new (o := .lst [.ref l1, .ref l2]) h0
          have E1 := same_new (o := .lst [.int 3, .int 60]) h1
          have E2 := same_new (o := .lst [.int 40, .int 5]) h2
          have E0 := same_new (o := .lst [.ref l1, .ref l2]) h0
          have n1 : l1 ≠ t := (T3.ne h1).symm
          have n2 : l2 ≠ t := (U1.ne h2).symm
          have n0 : l0 ≠ t := (U2.ne h0).symm
          refine ⟨_, rfl, t, 2, 100000 * j, rfl, by decide, log_small (by decide) (by decide), U0, by omega, fun v H4 v0 v1 T4 B4 => ?_⟩
          have hv : v = 0 ∨ v = 1 := by omega
          have B34 : But t H3 H4 := ((but_of E1).trans ((but_of E2).trans (but_of E0))).trans B4
          rcases hv with rfl | rfl
          · exact ⟨l0, _, 0, _, rfl, rfl, SqL.of (B4 l0 _ n0 upd_same), rfl, 3, 60, l1, _, rfl, .inl ⟨rfl, rfl⟩, B4 l1 _ n1 (E0 l1 _ (E2 l1 _ upd_same)), n1, T4, B34⟩
          · exact ⟨l0, _, 1, _, rfl, rfl, SqL.of (B4 l0 _ n0 upd_same), rfl, 40, 5, l2, _, rfl, .inr ⟨rfl, rfl⟩, B4 l2 _ n2 (E0 l2 _ upd_same), n2, T4, B34⟩
        rintro σ H4 ⟨x, y, lw, o3, rfl, hxy, hlw, nlw, T4, B4⟩
        -- the product
        refine ⟨fun σ H5 => ∃ (q : Addr) (rs : List V), σ = [some (.ref a), o1, some (.ref t), o3, some (.ref lw), some (.ref q), o6, none, none, none] ∧ Rows K (mask t H5) q rs ∧ Tray H5 t (100000 * j + 90000) ∧ But t H4 H5, ?_, ?_⟩
        · refine ⟨_, rfl, _, rfl, lw, _, 0, _, rfl, rfl, SqL.of hlw, rfl, t, x, 100000 * j + 1, rfl, by omega, log_small (by omega) (by omega), T4, by omega, fun v H5 v0 v1 T5 B5 => ?_⟩
          refine ⟨_, _, rfl, rfl, _, rfl, ?_, ?_, fun D hD => ?_⟩
          · omega
          · omega
          refine lc_range (lo := 0) (fun i H' => Tray H' t (100000 * j + 2 + i * (1000 + 200 * y)) ∧ But t H4 H' ∧ ∃ rs : List V, H' D = some (.lst rs) ∧ rs.length = i ∧ RowsL K (mask D (mask t H')) rs) ?_ ?_ ?_
          · exact ⟨(T5.new hD).mono (by omega), B5.trans (But.new hD), [], upd_same, rfl, fun r hr => by cases hr⟩
          · rintro i H' hi ⟨T6, B6, rs, hrs, hl, hR⟩
            have hi : i < (1 + v).toNat := hi
            have hlw6 : H' lw = some (.lst [.int x, .int y]) := B6 lw _ nlw hlw
            have cnt : i * (1000 + 200 * y) ≤ 80000 := by
              rcases hxy with ⟨rfl, rfl⟩ | ⟨rfl, rfl⟩ <;> omega
            refine ⟨rfl, ?_⟩
            refine ⟨_, rfl, _, rfl, lw, _, 1, _, rfl, rfl, SqL.of hlw6, rfl, t, y, _, rfl, by omega, by omega, T6, by omega, fun p ws H7 hp hpt hpw w1 w2 wok T7 B7 => ?_⟩
            have hD7 := B7 D _ (T5.ne hD).symm hrs
            have hD0 : H4 D = none := but_none T5 B5 hD
            have npD : p ≠ D := (ne_of_none hrs hp).symm
            refine ⟨rs, hD7, Nat.lt_of_lt_of_le (by omega) (sl_small (n := 100000) (Nat.le_refl _)), ?_, fun b o hb hbo => ?_, rs ++ [.ref p], upd_same, ?_, ?_⟩
            · have T8 := T7.of (H' := upd H7 D (.lst (rs ++ [.ref p]))) (upd_ne (T5.ne hD))
              refine T8.mono ?_
              have e : (i + 1) * (1000 + 200 * y) = i * (1000 + 200 * y) + (1000 + 200 * y) := Nat.succ_mul _ _
              omega
            · rw [upd_ne (ne_of_none hbo hD0)]
              exact B7 b o hb (B6 b o hb hbo)
            · rw [List.length_append, hl]
              rfl
            · have M : Same (mask D (mask t H')) (mask D (mask t (upd H7 D (.lst (rs ++ [.ref p]))))) := (mask_but (but_of (mask_but B7))).trans (mask_but (but_mask But.set))
              intro r hr
              rcases List.mem_append.mp hr with h | h
              · exact rowsL_mono hR M r h
              · rw [List.mem_singleton] at h
                exact ⟨p, ws, h, SqT.of (mask_at npD (mask_at hpt (by rw [upd_ne npD]; exact hpw))), w1, by omega, wok⟩
          · rintro H' ⟨T6, B6, rs, hrs, hl, hR⟩
            have hl : rs.length = (1 + v).toNat := hl
            have hR := rowsL_mono hR (mask_same D _)
            have cnt : (1 + v).toNat * (1000 + 200 * y) ≤ 80000 := by
              rcases hxy with ⟨rfl, rfl⟩ | ⟨rfl, rfl⟩ <;> omega
            have T6 := T6.mono (m := 100000 * j + 90000) (by show 100000 * j + 2 + (1 + v).toNat * (1000 + 200 * y) ≤ _; omega)
            refine ⟨D, rs, rfl, .inl ⟨SqL.of hrs, fun q hq => ?_⟩⟩
            have N : Same H' (upd H' q (.tup rs)) := same_new hq
            exact ⟨q, rs, rfl, ⟨mask_t (T6.new hq) (SqT.of upd_same), by omega, rowsL_mono hR (mask_but (but_of N))⟩, T6.new hq, B6.trans (But.new hq)⟩
        rintro σ H5 ⟨q, rs, rfl, hR, T5, B5⟩
        have hlr := hR.len
        obtain ⟨r0, h0⟩ : ∃ r0, rs[0]? = some r0 := ⟨rs[0]'(by omega), List.getElem?_eq_getElem _⟩
        obtain ⟨p0, w0, rfl, hp0, hw1, hw2, hw3⟩ := hR.row r0 (List.mem_of_getElem? h0)
        have at0 : atI rs (0 : Int) = some (.ref p0) := atI_nat (j := 0) h0
        obtain ⟨d, gd, pd, okd, szd, dpd⟩ := hR.data
        obtain ⟨d0, gd0, pd0, szd0⟩ := row_data hp0 hw1 (by omega) hw3
        have ME := mask_same t H5
        refine ⟨_, rfl, .ref q, d, rfl, gd.mono ME, by omega, fun H6 S6 => ?_⟩
        rw [pd]
        refine ⟨true, rfl, iteF ?_⟩
        have S6m := ME.trans S6
        refine ⟨_, rfl, q, rs, 0, _, rfl, rfl, same_t S6m hR.at_, at0, .ref p0, d0, rfl, gd0.mono S6m, szd0, fun H7 S7 => ?_⟩
        rw [pd0]
        refine ⟨true, rfl, iteF ?_⟩
        have S7m := S6m.trans S7
        have S57 := S6.trans S7
        have T7 := tray_same T5 S57
        have R7 := hR.mono (mask_but (t := t) (but_of S57))
        refine ⟨_, rfl, (by show 1 ≤ sizeLine; decide), fun l1 h1 => ?_⟩
        have N1 : Same H7 (upd H7 l1 (.lst [.ref q])) := same_new h1
        refine ⟨_, rfl, _, rfl, t, q, rs, _, rfl, R7.mono (mask_but (but_of N1)), T7.new h1, by omega, fun l xs H8 hl hx bx nl fl T8 B8 => ?_⟩
        have n1 : l1 ≠ t := (T7.ne h1).symm
        have hl1 := B8 l1 _ n1 upd_same
        refine ⟨l1, l, _, _, rfl, rfl, hl1, hl, ?_, fun p hp => ?_⟩
        · show 1 + xs.length ≤ sizeLine
          exact sl_small (by omega)
        have N2 : Same H8 (upd H8 p (.lst ([.ref q] ++ xs))) := same_new hp
        have all : ∀ v ∈ [V.ref q] ++ xs, AskOk K (upd H8 p (.lst ([.ref q] ++ xs))) v := by
          intro v hv
          rcases List.mem_append.mp hv with h | h
          · rw [List.mem_singleton] at h
            rw [h]
            obtain ⟨d, g1, g2, g3, g4, g5⟩ := ((R7.mono (mask_but (but_of N1))).mono (mask_but B8)).data
            exact ⟨d, (g1.mono (mask_same t H8)).mono N2, g3, by omega, by omega⟩
          · exact ((bx v h).ask.mono (mask_same t H8)).mono N2
        refine ⟨p, rfl, ⟨_, SqL.of upd_same⟩, for_list (K := K) (a := p) (xs := [.ref q] ++ xs) (fun _ σ H9 => ∃ o6 : Option V, σ = [some (.ref a), o1, some (.ref t), o3, some (.ref lw), some (.ref q), o6, none, none, none] ∧ Same (upd H8 p (.lst ([.ref q] ++ xs))) H9) ⟨_, rfl, Same.refl _⟩ (fun _ _ _ _ ⟨_, _, e⟩ => SqL.of (e p _ upd_same)) ?_ ?_⟩
        · rintro k v σ H9 hv ⟨o7, rfl, S9⟩
          obtain ⟨d, g1, g2, g3, g4⟩ := all v (List.mem_of_getElem? hv)
          exact ⟨_, rfl, v, d, rfl, g1.mono S9, g2, g3, g4, fun H10 S10 => ⟨true, rfl, _, rfl, S9.trans S10⟩⟩
        · rintro σ H9 ⟨o7, rfl, S9⟩
          exact ⟨_, _, _, _, _, rfl, tray_same (tray_same (T8.mono (by omega)) N2) S9, B3.trans (B4.trans (B5.trans ((but_of S57).trans ((but_of N1).trans (B8.trans ((but_of N2).trans (but_of S9)))))))⟩
      · rintro σ H3 ⟨o1, o3, o4, o5, o6, rfl, T3, B3⟩
        refine ⟨_, _, _, _, _, _, rfl, fun b o hb => ?_⟩
        have hb1 := S1 b o hb
        exact B3 b o (ne_of_none hb1 ht) (S2 b o hb1)
    · rintro σ H1 ⟨o1, o2, o3, o4, o5, o6, rfl, S1⟩
      refine ⟨fun σ H2 => ∃ (l : Addr) (xs : List V) (o1 o2 o3 o4 o5 o6 : Option V), σ = [some (.ref a), o1, o2, o3, o4, o5, o6, some (.ref l), none, none] ∧ H2 l = some (.lst xs) ∧ xs.length = 14 ∧ BigsOk K H2 xs, ?_, ?_⟩
      · refine ⟨(by show 0 ≤ sizeLine; decide), fun l1 h1 => ?_⟩
        refine ⟨(by show 0 ≤ sizeLine; decide), fun p2 h2 => ?_⟩
        refine fun d3 h3 => ?_
        refine ⟨(by show 1 ≤ sizeLine; decide), fun p4 h4 => ?_⟩
        refine ⟨(by show 1 ≤ sizeLine; decide), fun p5 h5 => ?_⟩
        refine ⟨(by show 1 ≤ sizeLine; decide), fun p6 h6 => ?_⟩
        refine ⟨(by show 2 ≤ sizeLine; decide), fun p7 h7 => ?_⟩
        refine ⟨(by show 1 ≤ sizeLine; decide), fun p8 h8 => ?_⟩
        refine ⟨(by show 2 ≤ sizeLine; decide), fun p9 h9 => ?_⟩
        refine ⟨(by show 0 ≤ sizeLine; decide), fun q1 g1 => ?_⟩
        refine ⟨(by show 1 ≤ sizeLine; decide), fun q2 g2 => ?_⟩
        refine ⟨(by show 2 ≤ sizeLine; decide), fun q3 g3 => ?_⟩
        refine ⟨(by show 14 ≤ sizeLine; decide), fun l14 g4 => ?_⟩
        have D14 := same_new (o := .lst [.non, .bl true, .int 0, .int 5, .str "", .str "ab", .ref l1, .ref p2, .ref d3, .ref p4, .ref p6, .ref p7, .ref p9, .ref q3]) g4
        have D13 := (same_new (o := .tup [.ref q1, .ref q2]) g3).trans D14
        have D12 := (same_new (o := .tup [.str "a"]) g2).trans D13
        have D11 := (same_new (o := .tup []) g1).trans D12
        have D10 := (same_new (o := .tup [.ref p8, .str "b"]) h9).trans D11
        have D9 := (same_new (o := .tup [.str "a"]) h8).trans D10
        have D8 := (same_new (o := .tup [.str "ab", .str "ab"]) h7).trans D9
        have D7 := (same_new (o := .tup [.ref p5]) h6).trans D8
        have D6 := (same_new (o := .tup [.str ""]) h5).trans D7
        have D5 := (same_new (o := .tup [.str ""]) h4).trans D6
        have D4 := (same_new (o := .dK []) h3).trans D5
        have D3 := (same_new (o := .tup []) h2).trans D4
        refine ⟨l14, _, _, _, _, _, _, _, rfl, upd_same, rfl, ?_⟩
        have T0 : ∀ {H : Hp} {x : Str}, Lets x → x.length ≤ 2 → ∀ m, Itm K 30 0 m H (.str x) := fun h1 h2 m => itm_lets h1 (by omega)
        have La : Lets ("a" : Str) := by unfold Lets; decide +kernel
        have Lb : Lets ("b" : Str) := by unfold Lets; decide +kernel
        have Ia := fun (H : Hp) => T0 (H := H) La (by decide +kernel) true
        have Ib := fun (H : Hp) => T0 (H := H) Lb (by decide +kernel) true
        have I0 := fun (H : Hp) => T0 (H := H) Lets.nil (by decide +kernel) true
        have Iab := fun (H : Hp) => T0 (H := H) lets_ab (by decide +kernel) true
        have i1 := (Itms.nil (K := K) (b := 0) (k := 0) (m := true)).lst (b' := 40) (SqL.of (D3 l1 _ upd_same)) (by decide)
        have i2 := (Itms.nil (K := K) (b := 0) (k := 0) (m := true)).tup (b' := 40) (SqT.of (D4 p2 _ upd_same)) (by decide)
        have i3 := itm_dict (K := K) (b := 40) (k := 8) (D5 d3 _ upd_same) (by decide) (by decide)
        have i4 := (Itms.one (I0 _)).tup (b' := 40) (SqT.of (D6 p4 _ upd_same)) (by decide)
        have i5 := (Itms.one (I0 _)).tup (b' := 40) (SqT.of (D7 p5 _ upd_same)) (by decide)
        have i6 := (Itms.one i5).tup (b' := 400) (SqT.of (D8 p6 _ upd_same)) (by show 1 * (40 + 2) + 3 ≤ 400; decide)
        have i7 := (Itms.cons (Iab _) (.one (Iab _))).tup (b' := 400) (SqT.of (D9 p7 _ upd_same)) (by decide)
        have i8 := (Itms.one (Ia _)).tup (b' := 40) (SqT.of (D10 p8 _ upd_same)) (by decide)
        have i9 := (Itms.cons i8 (.one ((Ib _).more (by decide) (by decide)))).tup (b' := 400) (SqT.of (D11 p9 _ upd_same)) (by show 2 * (40 + 2) + 3 ≤ 400; decide)
        have j1 := (Itms.nil (K := K) (b := 0) (k := 0) (m := true)).tup (b' := 40) (SqT.of (D12 q1 _ upd_same)) (by decide)
        have j2 := (Itms.one (Ia _)).tup (b' := 40) (SqT.of (D13 q2 _ upd_same)) (by decide)
        have j3 := (Itms.cons j1 (.one j2)).tup (b' := 400) (SqT.of (D14 q3 _ upd_same)) (by show 2 * (40 + 2) + 3 ≤ 400; decide)
        exact .cons ⟨true, itm_non (by decide)⟩ (.cons ⟨true, itm_bl (by decide)⟩ (.cons ⟨true, itm_int (by decide) (by decide) (by decide)⟩ (.cons ⟨true, itm_int (by decide) (by decide) (by decide)⟩
          (.cons ⟨true, (I0 _).more (by decide) (by decide)⟩ (.cons ⟨true, (Iab _).more (by decide) (by decide)⟩ (.cons ⟨true, i1.more (by decide) (by decide)⟩ (.cons ⟨true, i2.more (by decide) (by decide)⟩ (.cons ⟨false, i3.more (by decide) (by decide)⟩
          (.cons ⟨true, i4.more (by decide) (by decide)⟩ (.cons ⟨true, i6.more (by decide) (by decide)⟩ (.cons ⟨true, i7.more (by decide) (by decide)⟩ (.cons ⟨true, i9.more (by decide) (by decide)⟩ (.cons ⟨true, j3.more (by decide) (by decide)⟩ .nil)))))))))))))
      clear o1 o2 o3 o4 o5 o6
      rintro σ H2 ⟨l, xs, o1, o2, o3, o4, o5, o6, rfl, hl, nl, bx⟩
      -- deep
      refine ⟨fun σ H3 => ∃ (o3 : Option V) (v : V), σ = [some (.ref a), o1, o2, o3, o4, o5, o6, some (.ref l), some v, none] ∧ Itm K 1000 39 true H3 v ∧ Same H2 H3, ?_, ?_⟩
      · refine ⟨39, rfl, by decide, by decide, for_range (lo := 0) (n := 39) (fun i σ H3 => ∃ (o3 : Option V) (v : V), σ = [some (.ref a), o1, o2, o3, o4, o5, o6, some (.ref l), some v, none] ∧ Itm K (12 + 5 * i) i true H3 v ∧ Same H2 H3) ⟨_, _, rfl, itm_lets (by unfold Lets; decide +kernel) (by decide +kernel), Same.refl _⟩ ?_ ?_⟩
        · rintro i σ H3 hi ⟨o7, v, rfl, iv, S3⟩
          refine ⟨_, rfl, (by show 1 ≤ sizeLine; decide), fun p hp => ⟨_, _, rfl, ?_, S3.trans (same_new hp)⟩⟩
          exact (Itms.one (iv.mono (same_new hp))).tup (SqT.of upd_same) (by show 1 * (12 + 5 * i + 2) + 3 ≤ 12 + 5 * (i + 1); omega)
        · rintro σ H3 ⟨o7, v, rfl, iv, S3⟩
          exact ⟨_, _, rfl, iv.more (by decide) (by decide), S3⟩
      rintro σ H3 ⟨o7, v, rfl, iv, S3⟩
      have hl3 := S3 l _ hl
      have bx3 : BigsOk K H3 xs := bx.mono S3
      refine ⟨_, rfl, _, rfl, _, rfl, (by show 1 ≤ sizeLine; decide), fun p hp => ?_⟩
      refine ⟨(by show 2 ≤ sizeLine; decide), fun l2 h2 => ?_⟩
      have N1 := same_new (o := .tup [v]) hp
      have N2 := same_new (o := .lst [v, .ref p]) h2
      refine ⟨l, l2, xs, _, rfl, rfl, N2 l _ (N1 l _ hl3), upd_same, ?_, fun c hc => ?_⟩
      · rw [nl]
        show 14 + 2 ≤ sizeLine
        decide
      have N3 := same_new (o := .lst (xs ++ [v, .ref p])) hc
      have N := (N1.trans N2).trans N3
      have all : ∀ u ∈ xs ++ [v, .ref p], AskOk K (upd (upd (upd H3 p (.tup [v])) l2 (.lst [v, .ref p])) c (.lst (xs ++ [v, .ref p]))) u := by
        intro u hu
        rcases List.mem_append.mp hu with h | h
        · exact ((bx3 u h).mono N).ask
        · rcases List.mem_cons.mp h with h | h
          · rw [h]
            exact ask_itm (iv.mono N) (by decide) (by decide)
          · rw [List.mem_singleton] at h
            rw [h]
            exact ask_itm ((Itms.one (iv.mono N)).tup (b' := 2000) (SqT.of (N3 p _ (N2 p _ upd_same))) (by show 1 * (1000 + 2) + 3 ≤ 2000; decide)) (by decide) (by decide)
      refine ⟨c, rfl, ⟨_, SqL.of upd_same⟩, fun D hD => ?_⟩
      refine lc_list (K := K) (a := c) (xs := xs ++ [v, .ref p]) (fun _ H' => Same (upd (upd (upd H3 p (.tup [v])) l2 (.lst [v, .ref p])) c (.lst (xs ++ [v, .ref p]))) H' ∧ H' D = some (.lst [])) ⟨same_new hD, upd_same⟩ (fun _ _ _ q => SqL.of (q.1 c _ upd_same)) ?_ ?_
      · rintro i u H' hu' ⟨S5, hD5⟩
        obtain ⟨d, g1, g2, g3, g4⟩ := all u (List.mem_of_getElem? hu')
        exact ⟨rfl, _, rfl, u, d, rfl, g1.mono S5, g2, g3, g4, fun H10 S10 => ⟨true, rfl, iteF ⟨S5.trans S10, S10 D _ hD5⟩⟩⟩
      · rintro H' ⟨S5, hD5⟩
        refine ⟨(by show 0 ≤ sizeLine; decide), fun e he => ?_⟩
        refine ⟨.list [], .list [], .lst (SqL.of (same_new he D _ hD5)) .nil, .lst (SqL.of upd_same) .nil, by decide +kernel, by decide +kernel, ?_⟩
        refine ⟨false, rfl, iteF ?_⟩
        have La : Lets ("a" : Str) := by unfold Lets; decide +kernel
        have da : wordD (.str "a") = true := word_iff.mpr La
        have dab : rowD (.tuple [.str "ab", .str ""]) = true := words_row (ws := ["ab", ""]) (fun x hx => by
          rcases List.mem_cons.mp hx with h | h
          · rw [h]; exact lets_ab
          · rw [List.mem_singleton] at h
            rw [h]; exact Lets.nil) (by decide)
        refine ⟨(by show 1 ≤ sizeLine; decide), fun p1 h1 => ⟨p1, 3000, _, rfl, rfl, SqT.of upd_same, by simp, by decide, by decide, (by show 1 ≤ 1000; decide), fun p2 h2 => ?_⟩⟩
        refine ⟨.ref p2, .tuple (List.replicate 3000 (.str "a")), rfl, .inl (.tup (SqT.of upd_same) ?_), ?_, fun H6 _ => ?_⟩
        · have e : (3000 : Int).toNat = 3000 := rfl
          rw [e, rep_map]
          exact dp_rep (.str _) _
        · have e : sz (.tuple (List.replicate 3000 (.str "a"))) = szAll (List.replicate 3000 (.str "a")) + 3 := rfl
          rw [e, sz_rep]
          decide +kernel
        have e1 : rowD (.tuple (List.replicate 3000 (.str "a"))) = true := by
          have e : rowD (.tuple (List.replicate 3000 (.str "a"))) = (!(List.replicate 3000 (PyData.str "a")).isEmpty && (List.replicate 3000 (PyData.str "a")).all wordD) := rfl
          rw [e, all_rep _ _ da]
          rfl
        rw [e1]
        refine ⟨true, rfl, iteT ?_⟩
        refine ⟨(by show 2 ≤ sizeLine; decide), fun p3 h3 => ?_⟩
        refine ⟨(by show 1 ≤ sizeLine; decide), fun p4 h4 => ⟨p4, 300, _, rfl, rfl, SqT.of upd_same, by simp, by decide, by decide, (by show 1 ≤ 1000; decide), fun p5 h5 => ?_⟩⟩
        have N6 := (same_new (o := .tup [.ref p3]) h4).trans (same_new (o := .tup (List.replicate (300 : Int).toNat [.ref p3]).flatten) h5)
        refine ⟨.ref p5, .tuple (List.replicate 300 (.tuple [.str "ab", .str ""])), rfl, .inl (.tup (SqT.of upd_same) ?_), ?_, fun H7 _ => ?_⟩
        · have e : (300 : Int).toNat = 300 := rfl
          rw [e, rep_map]
          rw [e, rep_map] at N6
          exact dp_rep (.tup (SqT.of (N6 p3 _ upd_same)) (.cons (.str _) (.cons (.str _) .nil))) _
        · have e : sz (.tuple (List.replicate 300 (.tuple [.str "ab", .str ""]))) = szAll (List.replicate 300 (.tuple [.str "ab", .str ""])) + 3 := rfl
          rw [e, sz_rep]
          decide +kernel
        have e2 : prodD (.tuple (List.replicate 300 (.tuple [.str "ab", .str ""]))) = true := by
          have e : prodD (.tuple (List.replicate 300 (.tuple [.str "ab", .str ""]))) = (!(List.replicate 300 (PyData.tuple [.str "ab", .str ""])).isEmpty && (List.replicate 300 (PyData.tuple [.str "ab", .str ""])).all rowD) := rfl
          rw [e, all_rep _ _ dab]
          rfl
        rw [e2]
        refine ⟨true, rfl, iteT ?_⟩
        refine ⟨"a", 900, rfl, rfl, by decide, by decide, sl_small (by decide +kernel), (by show 1 ≤ sizeLine; decide), fun p6 h6 => ?_⟩
        have Lm : Lets (Txt.mul "a" 900) := lets_mul La 900
        have lm : (Txt.mul "a" 900).length = 900 := len_mul "a" 900
        refine ⟨.ref p6, .tuple [.str (Txt.mul "a" 900)], rfl, .inl (.tup (SqT.of upd_same) (.cons (.str _) .nil)), ?_, fun H8 _ => ?_⟩
        · show 10 * (Txt.mul "a" 900).length + 2 + 2 + 0 + 3 ≤ 16000000
          rw [lm]
          decide
        have e3 : rowD (.tuple [.str (Txt.mul "a" 900)]) = true := words_row (ws := [Txt.mul "a" 900]) (fun x hx => by
          rw [List.mem_singleton] at hx
          rw [hx]; exact Lm) (by decide)
        rw [e3]
        exact k _
end
end K1
namespace K1
open PySem PySem.Spec PyProof.Rows L2 TL Bl
theorem all_mk {l : PySem.W.OpenLaw} {w : World} {K : PySem.W.Frag} {h : Heap} {mg : Str → Option Value} {fa f1 f2 f3 f4 f5 f6 f7 f8 f9 f10 f11 f12 : Addr} (X : K.In h) (G : h.Ns mainGlobals mg) (hfa : mg "law" = some (.ref fa))
    {od1 an1 od2 an2 od3 an3 od4 an4 od5 an5 od6 an6 od7 an7 od8 an8 od9 an9 od10 an10 od11 an11 od12 an12 : Option Addr} {sl1 sl2 sl3 sl4 sl5 sl6 sl7 sl8 sl9 sl10 sl11 sl12 : Array (Option Value)} {oc1 kV1 dc1 pm1 cd1 ct1 oc2 kV2 dc2 pm2 cd2 ct2 oc3 kV3 dc3 pm3 cd3 ct3 oc4 kV4 dc4 pm4 cd4 ct4 oc5 kV5 dc5 pm5 cd5 ct5 oc6 kV6 dc6 pm6 cd6 ct6 oc7 kV7 dc7 pm7 cd7 ct7 oc8 kV8 dc8 pm8 cd8 ct8 oc9 kV9 dc9 pm9 cd9 ct9 oc10 kV10 dc10 pm10 cd10 ct10 oc11 kV11 dc11 pm11 cd11 ct11 oc12 kV12 dc12 pm12 cd12 ct12 : Value}
    (a1 : PySem.W.nsIn K mainGlobals "is_word" = some (some (.ref f1))) (l1 : K.lookup f1 = some ⟨oc1, od1, .func (PySem.W.fnOf "is_word" "is_word" (defArgs sIsWord) (defBody sIsWord) (defScope sIsWord) .none kV1 dc1 pm1 an1 cd1 ct1), sl1⟩) (c1 : PySem.W.codeIn K cd1 "is_word" = true) (k1 : PySem.W.keepIn K (.ref f1) = true)
    (a2 : PySem.W.nsIn K mainGlobals "is_row" = some (some (.ref f2))) (l2 : K.lookup f2 = some ⟨oc2, od2, .func (PySem.W.fnOf "is_row" "is_row" (defArgs sIsRow) (defBody sIsRow) (defScope sIsRow) .none kV2 dc2 pm2 an2 cd2 ct2), sl2⟩) (c2 : PySem.W.codeIn K cd2 "is_row" = true) (k2 : PySem.W.keepIn K (.ref f2) = true)
    (a3 : PySem.W.nsIn K mainGlobals "is_product" = some (some (.ref f3))) (l3 : K.lookup f3 = some ⟨oc3, od3, .func (PySem.W.fnOf "is_product" "is_product" (defArgs sIsProd) (defBody sIsProd) (defScope sIsProd) .none kV3 dc3 pm3 an3 cd3 ct3), sl3⟩) (c3 : PySem.W.codeIn K cd3 "is_product" = true) (k3 : PySem.W.keepIn K (.ref f3) = true)
    (a4 : PySem.W.nsIn K mainGlobals "_law_tray" = some (some (.ref f4))) (l4 : K.lookup f4 = some ⟨oc4, od4, .func (PySem.W.fnOf "_law_tray" "_law_tray" (defArgs sTray) (defBody sTray) (defScope sTray) .none kV4 dc4 pm4 an4 cd4 ct4), sl4⟩) (c4 : PySem.W.codeIn K cd4 "_law_tray" = true) (k4 : PySem.W.keepIn K (.ref f4) = true)
    (a5 : PySem.W.nsIn K mainGlobals "_law_take" = some (some (.ref f5))) (l5 : K.lookup f5 = some ⟨oc5, od5, .func (PySem.W.fnOf "_law_take" "_law_take" (defArgs sTake) (defBody sTake) (defScope sTake) .none kV5 dc5 pm5 an5 cd5 ct5), sl5⟩) (c5 : PySem.W.codeIn K cd5 "_law_take" = true) (k5 : PySem.W.keepIn K (.ref f5) = true)
    (a6 : PySem.W.nsIn K mainGlobals "_law_letters" = some (some (.ref f6))) (l6 : K.lookup f6 = some ⟨oc6, od6, .func (PySem.W.fnOf "_law_letters" "_law_letters" (defArgs sLetters) (defBody sLetters) (defScope sLetters) .none kV6 dc6 pm6 an6 cd6 ct6), sl6⟩) (c6 : PySem.W.codeIn K cd6 "_law_letters" = true) (k6 : PySem.W.keepIn K (.ref f6) = true)
    (a7 : PySem.W.nsIn K mainGlobals "_law_row" = some (some (.ref f7))) (l7 : K.lookup f7 = some ⟨oc7, od7, .func (PySem.W.fnOf "_law_row" "_law_row" (defArgs sRow) (defBody sRow) (defScope sRow) .none kV7 dc7 pm7 an7 cd7 ct7), sl7⟩) (c7 : PySem.W.codeIn K cd7 "_law_row" = true) (k7 : PySem.W.keepIn K (.ref f7) = true)
    (a8 : PySem.W.nsIn K mainGlobals "_law_is_row" = some (some (.ref f8))) (l8 : K.lookup f8 = some ⟨oc8, od8, .func (PySem.W.fnOf "_law_is_row" "_law_is_row" (defArgs sLIsRow) (defBody sLIsRow) (defScope sLIsRow) .none kV8 dc8 pm8 an8 cd8 ct8), sl8⟩) (c8 : PySem.W.codeIn K cd8 "_law_is_row" = true) (k8 : PySem.W.keepIn K (.ref f8) = true)
    (a9 : PySem.W.nsIn K mainGlobals "_law_is_product" = some (some (.ref f9))) (l9 : K.lookup f9 = some ⟨oc9, od9, .func (PySem.W.fnOf "_law_is_product" "_law_is_product" (defArgs sLIsProd) (defBody sLIsProd) (defScope sLIsProd) .none kV9 dc9 pm9 an9 cd9 ct9), sl9⟩) (c9 : PySem.W.codeIn K cd9 "_law_is_product" = true) (k9 : PySem.W.keepIn K (.ref f9) = true)
    (a10 : PySem.W.nsIn K mainGlobals "_law_bent" = some (some (.ref f10))) (l10 : K.lookup f10 = some ⟨oc10, od10, .func (PySem.W.fnOf "_law_bent" "_law_bent" (defArgs sBent) (defBody sBent) (defScope sBent) .none kV10 dc10 pm10 an10 cd10 ct10), sl10⟩) (c10 : PySem.W.codeIn K cd10 "_law_bent" = true) (k10 : PySem.W.keepIn K (.ref f10) = true)
    (a11 : PySem.W.nsIn K mainGlobals "_law_right" = some (some (.ref f11))) (l11 : K.lookup f11 = some ⟨oc11, od11, .func (PySem.W.fnOf "_law_right" "_law_right" (defArgs sRight) (defBody sRight) (defScope sRight) .none kV11 dc11 pm11 an11 cd11 ct11), sl11⟩) (c11 : PySem.W.codeIn K cd11 "_law_right" = true) (k11 : PySem.W.keepIn K (.ref f11) = true)
    (a12 : PySem.W.nsIn K mainGlobals "law" = some (some (.ref f12))) (l12 : K.lookup f12 = some ⟨oc12, od12, .func (PySem.W.fnOf "law" "law" (defArgs sLaw) (defBody sLaw) (defScope sLaw) .none kV12 dc12 pm12 an12 cd12 ct12), sl12⟩) (c12 : PySem.W.codeIn K cd12 "law" = true) (k12 : PySem.W.keepIn K (.ref f12) = true)
    (z1 : PySem.W.nsIn K mainGlobals "isinstance" = some none)
    (z2 : PySem.W.nsIn K mainGlobals "str" = some none)
    (z3 : PySem.W.nsIn K mainGlobals "tuple" = some none)
    (z4 : PySem.W.nsIn K mainGlobals "list" = some none)
    (z5 : PySem.W.nsIn K mainGlobals "len" = some none)
    (z6 : PySem.W.nsIn K mainGlobals "min" = some none)
    (z7 : PySem.W.nsIn K mainGlobals "max" = some none)
    (z8 : PySem.W.nsIn K mainGlobals "abs" = some none)
    (z9 : PySem.W.nsIn K mainGlobals "range" = some none)
    (z10 : PySem.W.nsIn K mainGlobals "repr" = some none)
    (z11 : PySem.W.nsIn K mainGlobals "all" = some none)
    : ∃ fd : FuncData, (∀ (s : Shared) (v : Value), BindsTo s fd ⟨[v], []⟩ [("script", v)]) ∧ ∀ base : Heap, K.In base → base.Ns mainGlobals mg → FnG l.prog w K mg base CX0 5 fa fd ["script"] (spLaw K) := by
  have e := hfa.symm.trans (PySem.W.mg_of X G a12)
  cases e
  have T : Names mg := ⟨PySem.W.mg_none_of X G z1, PySem.W.mg_none_of X G z2, PySem.W.mg_none_of X G z3, PySem.W.mg_none_of X G z4, PySem.W.mg_none_of X G z5, PySem.W.mg_none_of X G z6, PySem.W.mg_none_of X G z7, PySem.W.mg_none_of X G z8, PySem.W.mg_none_of X G z9, PySem.W.mg_none_of X G z10, PySem.W.mg_none_of X G z11⟩
  have F1 := fun_mk (st := sIsWord) l1 c1 k1
  have m1 := PySem.W.mg_of X G a1
  have b1 := F1.binds (ps := ["value"]) fun _ _ _ _ _ _ us hl => match us, hl with | [_], _ => rfl
  have F2 := fun_mk (st := sIsRow) l2 c2 k2
  have m2 := PySem.W.mg_of X G a2
  have b2 := F2.binds (ps := ["value"]) fun _ _ _ _ _ _ us hl => match us, hl with | [_], _ => rfl
  have F3 := fun_mk (st := sIsProd) l3 c3 k3
  have m3 := PySem.W.mg_of X G a3
  have b3 := F3.binds (ps := ["value"]) fun _ _ _ _ _ _ us hl => match us, hl with | [_], _ => rfl
  have F4 := fun_mk (st := sTray) l4 c4 k4
  have m4 := PySem.W.mg_of X G a4
  have b4 := F4.binds (ps := ["script", "at"]) fun _ _ _ _ _ _ us hl => match us, hl with | [_, _], _ => rfl
  have F5 := fun_mk (st := sTake) l5 c5 k5
  have m5 := PySem.W.mg_of X G a5
  have b5 := F5.binds (ps := ["tray", "many"]) fun _ _ _ _ _ _ us hl => match us, hl with | [_, _], _ => rfl
  have F6 := fun_mk (st := sLetters) l6 c6 k6
  have m6 := PySem.W.mg_of X G a6
  have b6 := F6.binds (ps := ["tray", "signs", "most"]) fun _ _ _ _ _ _ us hl => match us, hl with | [_, _, _], _ => rfl
  have F7 := fun_mk (st := sRow) l7 c7 k7
  have m7 := PySem.W.mg_of X G a7
  have b7 := F7.binds (ps := ["tray", "most"]) fun _ _ _ _ _ _ us hl => match us, hl with | [_, _], _ => rfl
  have F8 := fun_mk (st := sLIsRow) l8 c8 k8
  have m8 := PySem.W.mg_of X G a8
  have b8 := F8.binds (ps := ["given"]) fun _ _ _ _ _ _ us hl => match us, hl with | [_], _ => rfl
  have F9 := fun_mk (st := sLIsProd) l9 c9 k9
  have m9 := PySem.W.mg_of X G a9
  have b9 := F9.binds (ps := ["given"]) fun _ _ _ _ _ _ us hl => match us, hl with | [_], _ => rfl
  have F10 := fun_mk (st := sBent) l10 c10 k10
  have m10 := PySem.W.mg_of X G a10
  have b10 := F10.binds (ps := ["tray", "some"]) fun _ _ _ _ _ _ us hl => match us, hl with | [_, _], _ => rfl
  have F11 := fun_mk (st := sRight) l11 c11 k11
  have m11 := PySem.W.mg_of X G a11
  have b11 := F11.binds (ps := ["given"]) fun _ _ _ _ _ _ us hl => match us, hl with | [_], _ => rfl
  have F12 := fun_mk (st := sLaw) l12 c12 k12
  have m12 := PySem.W.mg_of X G a12
  refine ⟨PySem.W.fnOf "law" "law" (defArgs sLaw) (defBody sLaw) (defScope sLaw) .none kV12 dc12 pm12 an12 cd12 ct12, fun s v => .of_eq rfl, fun base _ _ => ?_⟩
  have OIR : FnOk l.prog w K mg base CX0 2 f2 _ ["value"] (spRowB K rowD) := ok_isRow F2 T F1 m1 b1
  have OIP : FnOk l.prog w K mg base CX0 3 f3 _ ["value"] (spRowB K prodD) := ok_isProd F3 T F2 m2 b2 F1 m1 b1
  have OO : FnOk l.prog w K mg base CX0 3 f7 _ ["tray", "most"] spRow := ok_row F7 T F5 m5 b5 F6 m6 b6
  have OB : FnOk l.prog w K mg base CX0 2 f10 _ ["tray", "some"] (spBent K) := ok_bent F10 T F5 m5 b5
  have OR : FnG l.prog w K mg base CX0 4 f11 _ ["given"] (spRight K) := ok_right F11 T F8 m8 b8 F9 m9 b9 F1 m1 b1 F2 m2 b2 F3 m3 b3
  exact ok_law F12 T F4 m4 b4 F5 m5 b5 F7 m7 b7 OO F10 m10 b10 OB F11 m11 b11 OR F2 m2 b2 OIR F3 m3 b3 OIP
theorem walk {l : PySem.W.OpenLaw} {q : Program} {loose : List Str} {XP : (Str → Option Value) → Heap → Prop} {YP : World → Heap → Prop} {d : DefRec} {K : Params → PySem.W.Frag} (hn : l.most = some 63) (hdf : d.params.defaults = [])
    (hY : ∀ (w : World) (h : Heap), YP w h → (K w.params).In h)
    (F : ∀ (w : World) (mg : Str → Option Value) (fa : Addr) (h : Heap), (K w.params).In h → h.Ns mainGlobals mg → mg d.name = some (.ref fa) →
      ∃ fd : FuncData, (∀ (s : Shared) (u : Value), BindsTo s fd ⟨[u], []⟩ [("script", u)]) ∧ ∀ base : Heap, (K w.params).In base → base.Ns mainGlobals mg → FnG l.prog w (K w.params) mg base CX0 5 fa fd ["script"] (spLaw (K w.params))) :
    PySem.W.WalkO q loose XP YP l.row.toRowW d [] (fun f vs => PySem.call f vs) :=
  Bl.walkG (n := 63) (k := 5) (x := "script") (sp := spLaw) hn (by decide) hdf ⟨rfl, by decide, by decide⟩ hY F fun _ _ a ns hl hS => ⟨a, ns, rfl, hS, hl, fun _ => rfl⟩
end K1
open PySem PySem.W PyProof.Rows
set_option maxRecDepth 100000 in
set_option maxHeartbeats 0 in
theorem PySem.Challenge.cw_braceloops_k01_rows_and_products_recogni_holds : PySem.Challenge.rw_braceloops_k01_rows_and_products_recogni.Holds := by
  w_on; o_law; k_head; (case hw => w_witness2)
  k_fill
  refine K1.walk (l := PySem.Challenge.rw_braceloops_k01_rows_and_products_recogni) rfl rfl (fun w h Y => PySem.W.kIn_of Y) ?F
  case F =>
    intro w mg fa h KX G hmg
    refine' K1.all_mk KX G hmg ?a1 ?l1 ?c1 ?k1 ?a2 ?l2 ?c2 ?k2 ?a3 ?l3 ?c3 ?k3 ?a4 ?l4 ?c4 ?k4 ?a5 ?l5 ?c5 ?k5 ?a6 ?l6 ?c6 ?k6 ?a7 ?l7 ?c7 ?k7 ?a8 ?l8 ?c8 ?k8 ?a9 ?l9 ?c9 ?k9 ?a10 ?l10 ?c10 ?k10 ?a11 ?l11 ?c11 ?k11 ?a12 ?l12 ?c12 ?k12 ?z1 ?z2 ?z3 ?z4 ?z5 ?z6 ?z7 ?z8 ?z9 ?z10 ?z11
    (case a1 => k_is)
    (case l1 => k_is)
    (case c1 => k_is)
    (case k1 => k_is)
    (case a2 => k_is)
    (case l2 => k_is)
    (case c2 => k_is)
    (case k2 => k_is)
    (case a3 => k_is)
    (case l3 => k_is)
    (case c3 => k_is)
    (case k3 => k_is)
    (case a4 => k_is)
    (case l4 => k_is)
    (case c4 => k_is)
    (case k4 => k_is)
    (case a5 => k_is)
    (case l5 => k_is)
    (case c5 => k_is)
    (case k5 => k_is)
    (case a6 => k_is)
    (case l6 => k_is)
    (case c6 => k_is)
    (case k6 => k_is)
    (case a7 => k_is)
    (case l7 => k_is)
    (case c7 => k_is)
    (case k7 => k_is)
    (case a8 => k_is)
    (case l8 => k_is)
    (case c8 => k_is)
    (case k8 => k_is)
    (case a9 => k_is)
    (case l9 => k_is)
    (case c9 => k_is)
    (case k9 => k_is)
    (case a10 => k_is)
    (case l10 => k_is)
    (case c10 => k_is)
    (case k10 => k_is)
    (case a11 => k_is)
    (case l11 => k_is)
    (case c11 => k_is)
    (case k11 => k_is)
    (case a12 => k_is)
    (case l12 => k_is)
    (case c12 => k_is)
    (case k12 => k_is)
    (case z1 => k_is)
    (case z2 => k_is)
    (case z3 => k_is)
    (case z4 => k_is)
    (case z5 => k_is)
    (case z6 => k_is)
    (case z7 => k_is)
    (case z8 => k_is)
    (case z9 => k_is)
    (case z10 => k_is)
    (case z11 => k_is)
