import PyProof.Rows.All
import Wide.All
import OpenK.AllK
import Wide.FinOn
import HandS.ForMost
import HandS.StrMore
import HandS.Zip
import HandS.NoneIn
import HandS.Wide
import HandS.Ends
import HandS.IsInst
import HandS.TupMul
import HandS.TupAny
import HandS.Style
import HandS.ExcInit
import HandS.ExcField
import HandS.ForExc
import HandS.Star
import HandS.Evl
import PySem.Challenge.RW_braceloops_k02_rows_multiplied
set_option Elab.async false
set_option linter.all false
set_option maxRecDepth 100000
/-! Rules of my own over the hand layer: ** of wide ints, text * int, repr of data, calls by keywords alone, and defs that need an empty list of guards. -/
namespace Bl
open PySem PySem.Spec PyProof.Rows L2

section
variable {X : Cx}
/-- ** of an int below 2 ^ 1000 by a small one -/
def CPowW (i j : Int) : Prop := (0 ≤ j ∧ j ≤ 1000) ∧ i.natAbs < 2 ^ 1000
theorem bits_pow {i j : Int} (h : CPowW i j) : (Builtin.Int.intBits i : Int) * j ≤ 2 ^ 27 := by
  obtain ⟨⟨h0, h1⟩, h2⟩ := h
  have hb : Builtin.Int.intBits i ≤ 1000 := by
    have e := PySem.Flt.log2_lt_of (n := i.natAbs) (k := 1000) (by decide) h2
    unfold Builtin.Int.intBits
    split <;> omega
  have q : (Builtin.Int.intBits i : Int) * j ≤ 1000 * j := Int.mul_le_mul_of_nonneg_right (by omega) h0
  omega
theorem op_powW : OpR X (binaryOp .Pow) (rI CPowW fun i j => .int (i ^ j.toNat)) :=
  opI fun _ _ _ _ _ _ _ hc q => pow_int hc.1.1 (bits_pow hc) q

/-- text * int -/
def rMulS : R2 := fun x y H Q => ∃ (z : Str) (n : Int), x = .str z ∧ y = .int n ∧ 0 ≤ n ∧ n ≤ 16777216 ∧ z.length * n.toNat ≤ sizeLine ∧ Q (.str (Txt.mul z n)) H
theorem mulOk_of {z : Str} {n : Int} (h0 : 0 ≤ n) (h1 : n ≤ 16777216) (hz : z.length * n.toNat ≤ sizeLine) : MulOk z n := by
  have hs : sizeLine = 16777216 := sizeLine_eq
  refine ⟨?_, fun a b c => ?_, fun a b => ?_⟩
  · rw [decide_eq_false (by omega), decide_eq_false (by omega)]
    rfl
  · have hn : 0 < n := by omega
    have hle : (z.length : Int) * n ≤ 16777216 := by
      have e : ((z.length * n.toNat : Nat) : Int) = (z.length : Int) * n := by
        rw [Int.natCast_mul, Int.toNat_of_nonneg h0]
      omega
    have hq : (z.length : Int) ≤ (2 ^ 63 - 1) / n := (Int.le_ediv_iff_mul_le hn).mpr (by omega)
    omega
  · unfold Builtin.Str.tooLong
    exact decide_eq_false (by omega)
theorem op_mulS : OpR X (binaryOp .Mult) rMulS := by
  intro pins s σ H x y v u Q I rx ry h
  obtain ⟨z, n, rfl, rfl, h0, h1, hz, q⟩ := h
  obtain ⟨t, rfl⟩ := rx
  obtain ⟨t', rfl⟩ := ry
  exact SB.mul (mulOk_of h0 h1 hz) fun t1 k => ⟨.str (Txt.mul z n), H, I.tok k, ⟨_, rfl⟩, q⟩

/-- repr of data -/
def rRepr (K : PySem.W.Frag) : List V → Hp → VK → Prop := fun xs H Q => ∃ (a : Addr) (d : PyData), xs = [.ref a] ∧ Dp K H (.ref a) d ∧ d.showable = true ∧ d.hasDict = false ∧ d.depth ≤ 40 ∧ d.shown.length ≤ sizeLine ∧ Q (.str d.shown) H
theorem call_repr (hg : X.A.guards = some []) (hu : X.A.units + 64 < cLine) : CallR X (.builtin "repr") (rRepr X.K) := by
  intro pins s σ H xs us Q I r h
  obtain ⟨a, d, rfl, hd, hs, hn, hdp, hz, q⟩ := h
  obtain ⟨u, rfl, ru⟩ := vals1 r
  obtain ⟨as, rd⟩ := Dp.reads I d (.ref a) u hd ru
  cases ru
  refine repr_of_reads' rd hs (PyData.noDict_hsm hn) hg (by omega) (fun _ _ z => z) (fun h' w tk k => ?_) hz
  exact ⟨.str d.shown, H, I.kept (t' := tk) k, ⟨_, rfl⟩, q⟩
end

/-! ### f(k = v, ..) without positional arguments -/
section
variable {X : Cx} {CX : CXT} {k : Nat} {f : Addr} {fd : FuncData} {ps ks : List Str} {sp : Sp} {E : XK} {x : Str} {p pos : Pos} {kws : List Keyword} {tk : TA} {g : List Value → List Value → List Value} {gV : List V → List V → List V}
def tCallK0 (sp : Sp) (gV : List V → List V → List V) (E : XK) (tk : TA) : TE := fun σ H Q => tk σ H fun zs H2 => sp (gV [] zs) H2 Q E
theorem pe_callK0 (F : FnOk X.prog X.w X.K X.mg X.base CX k f fd ps sp) (hr : Room k X.A) (hgl : Gl X x) (hm : X.mg x = some (.ref f)) (hk : PySem.W.keepIn X.K (.ref f) = true) (hb : KBinds X.K fd ps ks g gV) (hx : Passes CX X E) (hkw : PK X kws tk)
    (hall : (backToKw pos (keywordEach kws X.env)).all (·.1.isSome) = true := by rfl) (hks : (backToKw pos (keywordEach kws X.env)).filterMap (·.1) = ks := by rfl) (hdb : (x == ("__debug__" : Str)) = false := by decide)
    (hpl : ((backTo pos (starEach [] X.env)).any (·.1) || (backToKw pos (keywordEach kws X.env)).any (·.1.isNone)) = false := by rfl) :
    PE X (.Call (.Name x p) [] kws pos) (tCallK0 sp gV E tk) := by
  constructor
  intro pins s σ H Q I h
  apply wpAny_Call_Name_kw
  apply ld_glob I hgl hm _ hdb
  refine PySem.W.callWith_KW0 (h₀ := X.base) I.ok.mod.kin hk hall ?_ hpl
  refine thn (hkw.run pos pins s σ H _ I h) fun ws s2 z => ?_
  obtain ⟨zs, H2, I2, rz, q2⟩ := z
  refine ⟨I2.kIn, ?_⟩
  rw [hks]
  exact run_fnk (us := []) F hr hb hx I2 .nil rz q2
end

/-! ### defs that ask that no repr is under way -/
structure FnG (P : Program) (w : World) (K : PySem.W.Frag) (mg : Str → Option Value) (base : Heap) (CX : CXT) (k : Nat) (f : Addr) (fd : FuncData) (ps : List Str) (sp : Sp) : Prop where
  lenG : ∀ vs H Q E, sp vs H Q E → vs.length = ps.length
  runG : ∀ (A : Around) (outer : List Env) (s : Shared) (H : Hp) (args : Args) (us : List Value) (vs : List V) (Q : VK) (E : XK), A.guards = some [] → Room k A → Env0 P w K mg base A outer s H →
    BindsTo s fd args (ps.zip us) → Vals vs us → sp vs H Q E → codeAny (model P w) A (.call (.ref f) args) (CR CX outer P w H s Q E) s
section
variable {X : Cx} {CX : CXT} {k : Nat} {f : Addr} {fd : FuncData} {ps : List Str} {sp : Sp} {E : XK} {x : Str} {p pos : Pos} {e : Expr} {es : List Expr} {t : TA}
theorem pe_callG (F : FnG X.prog X.w X.K X.mg X.base CX k f fd ps sp) (hgd : X.A.guards = some []) (hr : Room k X.A) (hgl : Gl X x) (hm : X.mg x = some (.ref f)) (hk : PySem.W.keepIn X.K (.ref f) = true) (hb : Binds X.K fd ps []) (hx : Passes CX X E) (ha : PA X (e :: es) t)
    (hdb : (x == ("__debug__" : Str)) = false := by decide) (he : starEach (e :: es) X.env = (false, eval e X.env) :: starEach es X.env := by rfl) (hpl : (backTo pos (starEach es X.env)).any (·.1) = false := by rfl) :
    PE X (.Call (.Name x p) (e :: es) [] pos) (tCall sp [] E t) := by
  constructor
  intro pins s σ H Q I h
  apply wpAny_Call_Name_kw
  apply ld_glob I hgl hm _ hdb
  refine PySem.W.callWith_K (h₀ := X.base) I.ok.mod.kin hk ?_ he hpl
  refine thn (ha.run pos pins s σ H _ I h) fun us s1 z => ?_
  obtain ⟨vs, H1, I1, r, q⟩ := z
  refine ⟨I1.kIn, ?_⟩
  rw [List.append_nil] at q
  have hl : (us ++ []).length = ps.length := by
    rw [List.append_nil, ← r.length]
    exact F.lenG _ _ _ _ q
  have hbt := hb s1 us I1.kIn hl
  rw [List.append_nil] at hbt
  refine wpAny_call (codeAny_mono (F.runG X.A X.stack s1 H1 ⟨us, []⟩ us vs Q E hgd hr I1.env0 hbt r q) ?_)
  intro res s2 hq
  match res, hq with
  | .error ex, hq => exact hx pins σ H1 s1 ex s2 I1 hq
  | .ok (.ret v), hq => exact I1.after hq
  | .ok .next, hq => exact False.elim hq
  | .ok .brk, hq => exact False.elim hq
  | .ok .cont, hq => exact False.elim hq
end
section
variable {P : Program} {w : World} {K : PySem.W.Frag} {mg : Str → Option Value} {base : Heap}
/-- a def's promise by its body, the guards known to be none -/
theorem okG {x qual : Str} {st : Stmt} {f : Addr} {fd : FuncData} {N ps : List Str} {k : Nat} {sp : Sp} (F : Fun K x qual st f fd) (S : FnScope N ps (defScope st)) (len : ∀ vs H Q E, sp vs H Q E → vs.length = ps.length)
    (hbody : ∀ (cdv : Value) (A : Around) (outer : List Env) (s : Shared) (H : Hp) (vs : List V) (Q : VK) (E : XK), A.guards = some [] → Room k (A.deeper (envOfC qual (defScope st) s.heap.objs.size f cdv)) → sp vs H Q E →
      ∃ t, PSs (cxOf CX0 P w K mg base N qual (defScope st) f cdv A outer s H E).nox (defBody st) t ∧ t { nx := fun _ H' => Q .non H', rt := Q } (start N vs) H) : FnG P w K mg base CX0 (k + 1) f fd ps sp := by
  obtain ⟨oc, od, kV, doc, pm, an, cdv, ct, osl, rfl, lk, hcd⟩ := F.ex
  constructor
  · exact len
  intro A outer s H args us vs Q E hgd hr e0 hb r hsp
  have hlen := len _ _ _ _ hsp
  have KX : K.In s.heap := e0.mod.kin.keeps fun b o z => (e0.bs b o z).1
  have nolim : s.heap.NoLimit := e0.mod.nolimit.keeps fun b o z => (e0.bs b o z).1
  have kinds : ∀ y ∈ ps.zip us, (defScope st).names.lookup y.1 = some .local ∨ ((defScope st).names.lookup y.1 = some .cell ∧ ((cellsFrom (s.heap.objs.size + 1) (defScope st).names []).lookup y.1).isSome = true) := by
    intro y hy
    cases S.par y.1 (List.of_mem_zip hy).1 with
    | inl z => exact Or.inl z
    | inr z => exact Or.inr ⟨z, PySem.W.cellsFrom_some _ _ _ (Or.inl z)⟩
  apply codeAny_call_function hr.depth (KX _ _ lk) rfl S.co S.gen rfl (PySem.W.codeRec_of KX hcd)
  apply hb
  apply wpAny_newFunctionEnv_cells S.kind kinds
  intro env henv s1 inC
  subst henv
  refine ⟨nolim.keeps inC.toInCall.keep, ?_⟩
  apply codeAny_func
  obtain ⟨t, ht, hq⟩ := hbody cdv A outer s H vs Q E hgd (hr.deeper _) hsp
  have I := inv_start (CX := CX0) (E := E) S hr.hd e0 hlen r inC
  refine wpAny_mono (ht.nox.run [] s1 (start N vs) H _ I hq) ?_ (fun _ _ z => z)
  intro fl s2 hs
  match fl, hs with
  | .ret u, ⟨v, σ2, H2, J, rv, q⟩ => exact ⟨v, H2, J.os, J.bare, J.base, J.hok, rv, q⟩
  | .next, ⟨σ2, H2, J, q⟩ => exact ⟨V.non, H2, J.os, J.bare, J.base, J.hok, rfl, q⟩
  | .brk, ⟨_, _, _, q⟩ => exact False.elim q
  | .cont, ⟨_, _, _, q⟩ => exact False.elim q
end
end Bl
/-! Texts of letters, their common beginnings and what is left behind them. -/
namespace Bl
open PySem PySem.Spec PyProof.Rows L2 TL

/-- letters a to z -/
def Lets (x : Str) : Prop := ∀ c ∈ tl x, 97 ≤ c ∧ c ≤ 122
theorem Lets.app {x y : Str} (h : Lets x) (k : Lets y) : Lets (x ++ y) := fun c hc => by
  rw [tl_append] at hc
  rcases List.mem_append.mp hc with z | z
  · exact h c z
  · exact k c z
theorem Lets.nil : Lets ("" : Str) := fun c hc => by
  have e : tl ("" : Str) = [] := rfl
  rw [e] at hc
  cases hc
def lcp : List Nat → List Nat → Nat
  | a :: r, b :: s => if a = b then lcp r s + 1 else 0
  | _, _ => 0
theorem lcp_nil (l : List Nat) : lcp l [] = 0 := by cases l <;> rfl
theorem lcp_nil' (l : List Nat) : lcp [] l = 0 := by cases l <;> rfl
theorem lcp_cons (a b : Nat) (r s : List Nat) : lcp (a :: r) (b :: s) = if a = b then lcp r s + 1 else 0 := rfl
theorem lcp_comm : ∀ l m : List Nat, lcp l m = lcp m l
  | [], m => by rw [lcp_nil, lcp_nil']
  | a :: r, [] => by rw [lcp_nil, lcp_nil']
  | a :: r, b :: s => by
    rw [lcp_cons, lcp_cons, lcp_comm r s]
    by_cases e : a = b
    · rw [if_pos e, if_pos e.symm]
    · rw [if_neg e, if_neg (Ne.symm e)]
theorem lcp_le : ∀ l m : List Nat, lcp l m ≤ l.length ∧ lcp l m ≤ m.length
  | [], m => by rw [lcp_nil']; exact ⟨Nat.zero_le _, Nat.zero_le _⟩
  | a :: r, [] => by rw [lcp_nil]; exact ⟨Nat.zero_le _, Nat.zero_le _⟩
  | a :: r, b :: s => by
    have ih := lcp_le r s
    rw [lcp_cons, List.length_cons, List.length_cons]
    by_cases e : a = b
    · rw [if_pos e]; omega
    · rw [if_neg e]; omega
theorem lcp_app : ∀ p l m : List Nat, lcp (p ++ l) (p ++ m) = p.length + lcp l m
  | [], l, m => by simp
  | a :: p, l, m => by
    show lcp (a :: (p ++ l)) (a :: (p ++ m)) = _
    rw [lcp_cons, if_pos rfl, lcp_app p l m, List.length_cons]
    omega
theorem lcp_drop : ∀ l m : List Nat, lcp (l.drop (lcp l m)) (m.drop (lcp l m)) = 0
  | [], m => by rw [lcp_nil']; simp [lcp_nil']
  | a :: r, [] => by rw [lcp_nil]; simp [lcp_nil]
  | a :: r, b :: s => by
    by_cases e : a = b
    · subst e
      rw [lcp_cons, if_pos rfl, List.drop_succ_cons, List.drop_succ_cons]
      exact lcp_drop r s
    · have h : lcp (a :: r) (b :: s) = 0 := by rw [lcp_cons, if_neg e]
      rw [h, List.drop_zero, List.drop_zero, h]
/-- a common beginning of k letters -/
theorem lcp_take : ∀ (k : Nat) (l m : List Nat), k ≤ l.length → k ≤ m.length → (l.take k = m.take k ↔ k ≤ lcp l m)
  | 0, l, m, _, _ => by simp
  | k + 1, [], m, h, _ => by simp at h
  | k + 1, a :: r, [], _, h => by simp at h
  | k + 1, a :: r, b :: s, h, h' => by
    have ih := lcp_take k r s (by simpa using h) (by simpa using h')
    rw [lcp_cons, List.take_succ_cons, List.take_succ_cons, List.cons.injEq]
    by_cases e : a = b
    · rw [if_pos e, ih]
      omega
    · rw [if_neg e]
      constructor
      · rintro ⟨z, _⟩
        exact absurd z e
      · omega
/-- the letter at the common beginning's end -/
theorem lcp_at : ∀ (l m : List Nat) (k : Nat), k ≤ lcp l m → k < l.length → k < m.length → (l[k]? = m[k]? ↔ k < lcp l m)
  | [], m, k, _, h, _ => by simp at h
  | a :: r, [], k, _, _, h => by simp at h
  | a :: r, b :: s, 0, _, _, _ => by
    rw [lcp_cons]
    by_cases e : a = b
    · simp [e]
    · simp [e]
  | a :: r, b :: s, k + 1, h, h1, h2 => by
    rw [lcp_cons] at h ⊢
    by_cases e : a = b
    · rw [if_pos e] at h ⊢
      have ih := lcp_at r s k (by omega) (by simpa using h1) (by simpa using h2)
      simp only [List.getElem?_cons_succ]
      rw [ih]
      omega
    · rw [if_neg e] at h
      omega

def dropS (x : Str) (n : Nat) : Str := ⟨((tl x).drop n).toArray⟩
def takeS (x : Str) (n : Nat) : Str := ⟨((tl x).take n).toArray⟩
theorem tl_dropS (x : Str) (n : Nat) : tl (dropS x n) = (tl x).drop n := rfl
theorem tl_takeS (x : Str) (n : Nat) : tl (takeS x n) = (tl x).take n := rfl
theorem cut_from (x : Str) (n : Nat) : cutS x (some (n : Int)) none = dropS x n := by
  apply ext_tl
  show (((tl x).drop (HT.sIx x.length 0 (some (n : Int)))).take (x.length - HT.sIx x.length 0 (some (n : Int)))) = (tl x).drop n
  have hl := len_tl x
  rw [HT.sIx_nat]
  by_cases h : n ≤ x.length
  · rw [Nat.min_eq_left h]
    exact List.take_of_length_le (by rw [List.length_drop]; omega)
  · rw [Nat.min_eq_right (by omega), List.drop_of_length_le (l := tl x) (i := n) (by omega), List.drop_of_length_le (by omega)]
    simp
theorem cut_to (x : Str) (n : Nat) : cutS x none (some (n : Int)) = takeS x n := by
  apply ext_tl
  show (((tl x).drop 0).take (HT.sIx x.length x.length (some (n : Int)) - 0)) = (tl x).take n
  have hl := len_tl x
  rw [HT.sIx_nat, List.drop_zero, Nat.sub_zero]
  by_cases h : n ≤ x.length
  · rw [Nat.min_eq_left h]
  · rw [Nat.min_eq_right (by omega), List.take_of_length_le (by omega), List.take_of_length_le (by omega)]
/-- what is left of both behind the common beginning -/
def common (x y : Str) : Nat := lcp (tl x) (tl y)
def restL (x y : Str) : Str := dropS x (common x y)
def restR (x y : Str) : Str := dropS y (common x y)
theorem rest_swap (x y : Str) : restL y x = restR x y ∧ restR y x = restL x y := by
  unfold restL restR common
  rw [lcp_comm (tl y) (tl x)]
  exact ⟨rfl, rfl⟩
theorem rest_app (b x y : Str) : restL (b ++ x) (b ++ y) = restL x y ∧ restR (b ++ x) (b ++ y) = restR x y := by
  have e : common (b ++ x) (b ++ y) = (tl b).length + common x y := by
    unfold common
    rw [tl_append, tl_append, lcp_app]
  refine ⟨ext_tl ?_, ext_tl ?_⟩
  · show (tl (b ++ x)).drop (common (b ++ x) (b ++ y)) = (tl x).drop (common x y)
    rw [e, tl_append, ← List.drop_drop, List.drop_left]
  · show (tl (b ++ y)).drop (common (b ++ x) (b ++ y)) = (tl y).drop (common x y)
    rw [e, tl_append, ← List.drop_drop, List.drop_left]
theorem dropS_zero (x : Str) : dropS x 0 = x := ext_tl rfl
theorem rest_again (x y : Str) : restL (restL x y) (restR x y) = restL x y ∧ restR (restL x y) (restR x y) = restR x y := by
  have e : common (restL x y) (restR x y) = 0 := lcp_drop (tl x) (tl y)
  have e1 : restL (restL x y) (restR x y) = dropS (restL x y) (common (restL x y) (restR x y)) := rfl
  have e2 : restR (restL x y) (restR x y) = dropS (restR x y) (common (restL x y) (restR x y)) := rfl
  rw [e1, e2, e, dropS_zero, dropS_zero]
  exact ⟨rfl, rfl⟩
theorem rest_front (f m : Str) : restL f (f ++ m) = ("" : Str) ∧ restR f (f ++ m) = m := by
  have e : common f (f ++ m) = (tl f).length := by
    unfold common
    have h := lcp_app (tl f) [] (tl m)
    rw [List.append_nil, lcp_nil', Nat.add_zero, ← tl_append] at h
    exact h
  refine ⟨ext_tl ?_, ext_tl ?_⟩
  · show (tl f).drop (common f (f ++ m)) = []
    rw [e]
    exact List.drop_length
  · show (tl (f ++ m)).drop (common f (f ++ m)) = tl m
    rw [e, tl_append, List.drop_left]
theorem lets_drop {x : Str} (h : Lets x) (n : Nat) : Lets (dropS x n) := fun c hc => h c (List.mem_of_mem_drop hc)
theorem len_app (x y : Str) : (x ++ y).length = x.length + y.length := by
  rw [len_tl, tl_append, List.length_append, ← len_tl, ← len_tl]
theorem len_drop (x : Str) (n : Nat) : (dropS x n).length ≤ x.length := by
  rw [len_tl, tl_dropS, List.length_drop, ← len_tl]
  omega
theorem common_le (x y : Str) : common x y ≤ x.length ∧ common x y ≤ y.length := by
  rw [len_tl x, len_tl y]
  exact lcp_le _ _
/-! ### text * int -/
theorem tl_mul (x : Str) (n : Nat) : tl (Txt.mul x (n : Int)) = (List.replicate n (tl x)).flatten := by
  have fold : ∀ (k : Nat) (acc : Array Nat), (List.foldl (fun x1 x2 => x1 ++ x2) acc (List.replicate k x.cps)).toList = acc.toList ++ (List.replicate k (tl x)).flatten := by
    intro k
    induction k with
    | zero => intro acc; simp
    | succ k ih =>
      intro acc
      rw [List.replicate_succ, List.foldl_cons, ih, List.replicate_succ, List.flatten_cons, Array.toList_append, List.append_assoc]
  unfold Txt.mul
  by_cases h : (n : Int) < 1
  · have hn : n = 0 := by omega
    rw [if_pos h, hn]
    rfl
  · rw [if_neg h]
    by_cases c : ((n : Int) == 1 || x.length == 0) = true
    · rw [if_pos c]
      rcases Bool.or_eq_true _ _ ▸ c with z | z
      · have hn : n = 1 := by
          have := beq_iff_eq.mp z
          omega
        rw [hn]
        simp
      · have hx : tl x = [] := List.eq_nil_of_length_eq_zero (by rw [← len_tl]; exact beq_iff_eq.mp z)
        rw [hx]
        clear fold h c
        induction n with
        | zero => rfl
        | succ n ih => rw [List.replicate_succ, List.flatten_cons, ← ih]; rfl
    · rw [if_neg c]
      show (List.foldl (fun x1 x2 => x1 ++ x2) #[] (List.replicate (n : Int).toNat x.cps)).toList = _
      rw [Int.toNat_natCast, fold]
      simp
theorem len_mul (x : Str) (n : Nat) : (Txt.mul x (n : Int)).length = n * x.length := by
  rw [len_tl, tl_mul, List.length_flatten, List.map_replicate, List.sum_replicate_nat, ← len_tl]
theorem lets_mul {x : Str} (h : Lets x) (n : Nat) : Lets (Txt.mul x (n : Int)) := fun c hc => by
  rw [tl_mul, List.mem_flatten] at hc
  obtain ⟨l, hl, hc⟩ := hc
  rw [(List.mem_replicate.mp hl).2] at hc
  exact h c hc
/-! ### what isalpha, islower and isascii say of letters -/
theorem uni_tab : ∀ k < 26, (Unicode.isAlpha (97 + k) && Unicode.isLower (97 + k) && !(Unicode.isUpper (97 + k) || Unicode.isTitle (97 + k))) = true := by decide +kernel
theorem uni_of {c : Nat} (h : 97 ≤ c ∧ c ≤ 122) : Unicode.isAlpha c = true ∧ Unicode.isLower c = true ∧ (Unicode.isUpper c || Unicode.isTitle c) = false := by
  have e := uni_tab (c - 97) (by omega)
  rw [show 97 + (c - 97) = c by omega, Bool.and_eq_true, Bool.and_eq_true] at e
  refine ⟨e.1.1, e.1.2, ?_⟩
  have := e.2
  revert this
  cases (Unicode.isUpper c || Unicode.isTitle c) <;> simp
theorem word_tests {x : Str} (h : Lets x) : Txt.isascii x = true ∧ (x.length ≠ 0 → Txt.isalpha x = true ∧ Txt.islower x = true) := by
  have all : ∀ c ∈ x.cps.toList, 97 ≤ c ∧ c ≤ 122 := h
  refine ⟨?_, fun hx => ⟨?_, ?_⟩⟩
  · unfold Txt.isascii
    rw [← Array.all_toList, List.all_eq_true]
    intro c hc
    have := all c hc
    exact decide_eq_true (by omega)
  · unfold Txt.isalpha
    rw [Bool.and_eq_true]
    refine ⟨decide_eq_true (by omega), ?_⟩
    rw [← Array.all_toList, List.all_eq_true]
    intro c hc
    exact (uni_of (all c hc)).1
  · unfold Txt.islower
    rw [Bool.and_eq_true]
    constructor
    · rw [← Array.any_toList, List.any_eq_true]
      have hl := len_tl x
      cases e : tl x with
      | nil => rw [e] at hl; exact absurd hl hx
      | cons c r =>
        have hc : c ∈ x.cps.toList := by
          show c ∈ tl x
          rw [e]
          exact List.mem_cons_self
        exact ⟨c, hc, (uni_of (all c hc)).2.1⟩
    · rw [Bool.not_eq_true', ← Array.any_toList, List.any_eq_false]
      intro c hc
      rw [(uni_of (all c hc)).2.2]
      decide
/-! ### how long a repr may come -/
theorem lets_small {x : Str} (h : Lets x) : ∀ c ∈ x.cps.toList, c < 16 ^ 8 := fun c hc => by
  have := h c hc
  have e : (16 : Nat) ^ 8 = 4294967296 := by decide
  omega
theorem repr_len {x : Str} (h : Lets x) : (reprText x).length ≤ 10 * x.length + 2 := StrLaws.reprText_len x (lets_small h)
end Bl
namespace Bl
open PySem PySem.Spec PyProof.Rows L2

/-- an abstract heap in which at most the script stands, locked -/
structure Scr (P : Program) (w : World) (K : PySem.W.Frag) (h : Heap) (a : Addr) (H : Hp) : Prop where
  hok : HOk P w H h
  at_a : ∀ b, H b ≠ none → b = a
  free : H a ≠ none → K.lookup a = none
  frz : ∀ b u, H b = some u → ∃ o xs, u = .frz o (.lst xs)

theorem scr_end {P : Program} {w : World} {K : PySem.W.Frag} {mg mb : Str → Option Value} {k : Nat} {fa a : Addr} {fd : FuncData} {x : Str} {sp : Sp} {s1 : Shared} {vs : List Value} {H : Hp}
    (KX : K.In s1.heap) (ns0 : s1.heap.Ns mainGlobals mg) (nb : s1.heap.Ns builtinsNs mb) (nbb : ∀ y : Str, y ≠ "__name__" → mb y = bootBuiltins y) (lim : s1.heap.NoLimit) (g0 : s1.gens = #[])
    (ha : s1.heap.get? a = some { cls := .type "list", data := .seq vs.toArray }) (hr : Room k callerA) (S : Scr P w K s1.heap a H)
    (F : ∀ base : Heap, K.In base → base.Ns mainGlobals mg → FnG P w K mg base CX0 k fa fd [x] sp) (hbind : ∀ (s : Shared) (u : Value), BindsTo s fd ⟨[u], []⟩ [(x, u)])
    (hsp : sp [.ref a] H (fun v _ => v = .bl true) fun _ _ _ => False) :
    codeAny (model P w) callerA (.call (.ref fa) ⟨[.ref a], []⟩) (fun r s' => r = .ok (.ret (.bool true)) ∧ PySem.OldK s1.heap s'.heap ∧ s'.os = s1.os ∧ AllBare s'.gens) s1 := by
  -- no namespace is the script
  have dictFree : ∀ {b : Addr} {o : Obj} {es : Array DictEntry} {ep : Nat}, s1.heap.get? b = some o → o.data = .dict es ep → H b = none := by
    intro b o es ep e d
    apply Classical.byContradiction
    intro z
    have eb := S.at_a b z
    rw [eb, ha] at e
    injection e with e
    rw [← e] at d
    exact absurd d (by simp)
  have nsKept : ∀ {b : Addr} {m : Str → Option Value}, s1.heap.Ns b m → (hidT s1.heap H).Ns b m := by
    intro b m n
    obtain ⟨o, es, ep, e, d, r⟩ := n
    exact ⟨o, es, ep, hidT_get e (dictFree e d), d, r⟩
  have kin : K.In (hidT s1.heap H) := by
    intro b o e
    refine hidT_get (KX b o e) ?_
    apply Classical.byContradiction
    intro z
    have eb := S.at_a b z
    subst eb
    rw [S.free z] at e
    cases e
  obtain ⟨mc, l1, l2⟩ := lim
  have md : Mod K mg (hidT s1.heap H) := ⟨kin, nsKept ns0, ⟨mb, nsKept nb, nbb⟩, ⟨mc, nsKept l1, l2⟩⟩
  have env : Env0 P w K mg (hidT s1.heap H) callerA [] s1 H := by
    refine ⟨rfl, md, fun b o e => of_hidT e, Nat.le_of_eq (hidT_size _ _), trivial, ?_, S.hok, .of_eq g0⟩
    intro b hb
    exact absurd hb (List.not_mem_nil)
  have run := (F _ kin (nsKept ns0)).runG callerA [] s1 H ⟨[.ref a], []⟩ [.ref a] [.ref a] _ _ rfl hr env (hbind s1 (.ref a)) (.cons rfl .nil) hsp
  refine codeAny_mono run ?_
  intro r s2 h
  match r, h with
  | .error e, h => exact False.elim h
  | .ok .next, h => exact False.elim h
  | .ok .brk, h => exact False.elim h
  | .ok .cont, h => exact False.elim h
  | .ok (.ret u), ⟨v, H2, os, bare, un, hok2, rv, q⟩ =>
    have q : v = .bl true := q
    subst q
    have rv : u = Value.bool true := rv
    subst rv
    refine ⟨rfl, PySem.OldK.of_keep ?_, os, bare⟩
    intro b o e
    by_cases z : H b = none
    · exact un.keep b o e z List.not_mem_nil List.not_mem_nil
    · obtain ⟨u, hu⟩ := Option.ne_none_iff_exists'.mp z
      obtain ⟨ob, xs, rfl⟩ := S.frz b u hu
      have k1 := (S.hok b _ hu).1
      have k2 := (hok2 b _ (un.frzs b ob _ hu)).1
      rw [e] at k1
      rw [Option.some.inj k1]
      exact k2

theorem walkG {l : PySem.W.OpenLaw} {n k : Nat} {q : Program} {loose : List Str} {XP : (Str → Option Value) → Heap → Prop} {YP : World → Heap → Prop} {d : DefRec} {K : Params → PySem.W.Frag} {sp : PySem.W.Frag → Sp} {x : Str}
    (hn : l.most = some n) (hn2 : n ≤ sizeLine) (hdf : d.params.defaults = []) (hr : Room k callerA)
    (hY : ∀ (w : World) (h : Heap), YP w h → (K w.params).In h)
    (F : ∀ (w : World) (mg : Str → Option Value) (fa : Addr) (h : Heap), (K w.params).In h → h.Ns mainGlobals mg → mg d.name = some (.ref fa) →
      ∃ fd : FuncData, (∀ (s : Shared) (u : Value), BindsTo s fd ⟨[u], []⟩ [(x, u)]) ∧ ∀ base : Heap, (K w.params).In base → base.Ns mainGlobals mg → FnG l.prog w (K w.params) mg base CX0 k fa fd [x] (sp (K w.params)))
    (hsp : ∀ (K : PySem.W.Frag) (H : Hp) (a : Addr) (ns : List Int), ns.length ≤ n → SqL K H a (ns.map V.int) → sp K [.ref a] H (fun v _ => v = .bl true) fun _ _ _ => False) :
    PySem.W.WalkO q loose XP YP l.row.toRowW d [] (fun f vs => PySem.call f vs) := by
  apply Att.attach_call hn hdf
  intro w s0 s1 mg mb fa o pm cd doc a vs ns G Y ho hd hcd hmg hobj hints hlen hg
  have KX := hY w _ Y
  have rv := vals_ints hints
  have le := hints.length
  have sz : (ns.map V.int).length ≤ sizeLine := by
    rw [List.length_map]
    exact Nat.le_trans hlen hn2
  obtain ⟨fd, hb, hF⟩ := F w mg fa _ KX G.T.g hmg
  cases hk : (K w.params).lookup a with
  | some o1 =>
    have e := KX a o1 hk
    rw [hobj] at e
    injection e with e
    subst e
    refine scr_end (H := fun _ => none) KX G.T.g G.T.b G.T.builtins G.T.nolimit hg hobj hr ⟨?_, fun b z => absurd rfl z, fun z => absurd rfl z, fun b u z => by cases z⟩ hF hb (hsp _ _ a ns hlen ?_)
    · intro b u z
      cases z
    · refine Or.inr ⟨_, vs.toArray, _, hk, rfl, rfl, rfl, ?_, ?_⟩
      · rw [List.size_toArray, le]
        exact Nat.le_trans hlen hn2
      · rw [List.toList_toArray]
        exact rv
  | none =>
    have own : ∀ b u, (fun b => if b = a then some (HO.frz { cls := .type "list", data := .seq vs.toArray } (.lst (ns.map V.int))) else none) b = some u → b = a ∧ u = .frz { cls := .type "list", data := .seq vs.toArray } (.lst (ns.map V.int)) := by
      intro b u z
      by_cases hba : b = a
      · refine ⟨hba, ?_⟩
        have z2 : (if b = a then some (HO.frz { cls := .type "list", data := .seq vs.toArray } (.lst (ns.map V.int))) else none) = some u := z
        rw [if_pos hba] at z2
        exact (Option.some.inj z2).symm
      · have z2 : (if b = a then some (HO.frz { cls := .type "list", data := .seq vs.toArray } (.lst (ns.map V.int))) else none) = some u := z
        rw [if_neg hba] at z2
        cases z2
    refine scr_end (H := fun b => if b = a then some (.frz { cls := .type "list", data := .seq vs.toArray } (.lst (ns.map V.int))) else none) KX G.T.g G.T.b G.T.builtins G.T.nolimit hg hobj hr ⟨?_, ?_, fun _ => hk, ?_⟩ hF hb (hsp _ _ a ns hlen ?_)
    · intro b u z
      obtain ⟨rfl, rfl⟩ := own b u z
      exact ⟨hobj, sz, vs, _, rv, hobj⟩
    · intro b z
      obtain ⟨u, hu⟩ := Option.ne_none_iff_exists'.mp z
      exact (own b u hu).1
    · intro b u z
      exact ⟨_, _, (own b u z).2⟩
    · exact Or.inl (Or.inr ⟨_, if_pos rfl⟩)
end Bl
/-! Data with tuples and an empty dict, what it is for isinstance, its repr; further rules. -/
namespace Bl
open PySem PySem.Spec PyProof.Rows L2 TL

/-! ### data of tuples and the empty dict -/
mutual
inductive Rt (K : PySem.W.Frag) (H : Hp) : V → PyData → Prop
  | non : Rt K H .non .none
  | bl (b : Bool) : Rt K H (.bl b) (.bool b)
  | int (i : Int) : Rt K H (.int i) (.int i)
  | str (x : Str) : Rt K H (.str x) (.str x)
  | tup {a : Addr} {xs : List V} {ds : List PyData} : SqT K H a xs → RtAll K H xs ds → Rt K H (.ref a) (.tuple ds)
  | emp {a : Addr} : H a = some (.dK []) → Rt K H (.ref a) (.dict [])
inductive RtAll (K : PySem.W.Frag) (H : Hp) : List V → List PyData → Prop
  | nil : RtAll K H [] []
  | cons {v : V} {vs : List V} {d : PyData} {ds : List PyData} : Rt K H v d → RtAll K H vs ds → RtAll K H (v :: vs) (d :: ds)
end
section
variable {X : Cx} {pins : List (Addr × Obj)} {σ : L2.St} {H : Hp} {s : Shared}
mutual
theorem Rt.reads (I : Inv X pins σ H s) : ∀ (d : PyData) (v : V) (u : Value), Rt X.K H v d → RelV v u → ∃ as, Reads s.heap u d as ∧ sysModules ∉ as
  | .none, _, _, h, r => by
    cases h; cases r
    exact ⟨_, .none, List.not_mem_nil⟩
  | .bool b, _, _, h, r => by
    cases h; cases r
    exact ⟨_, .bool b, List.not_mem_nil⟩
  | .int i, _, _, h, r => by
    cases h
    obtain ⟨t, rfl⟩ := r
    exact ⟨_, .int i t, List.not_mem_nil⟩
  | .str x, _, _, h, r => by
    cases h
    obtain ⟨t, rfl⟩ := r
    exact ⟨_, .str x t, List.not_mem_nil⟩
  | .list _, _, _, h, _ => by cases h
  | .tuple ds, _, _, h, r => by
    cases h with
    | tup hq ha =>
      cases r
      have z := I.tuple hq
      obtain ⟨its, rv, q, _⟩ := z
      obtain ⟨o, ho, hc, n, hd⟩ := q
      obtain ⟨as, hr, hn⟩ := Rt.readsAll I ds _ its ha rv
      exact ⟨as, .tuple ho hc hd hr, hn⟩
  | .dict kvs, _, _, h, r => by
    cases h with
    | @emp a e =>
      cases r
      have z : ([] : List (Key × V)).length ≤ sizeLine ∧ (a == sysModules) = false ∧ ∃ vs, KV ([] : List (Key × V)) vs ∧ s.heap.DictOf (mixKind X.prog X.w) a vs := I.hok a _ e
      obtain ⟨_, hne, vs, kv, D⟩ := z
      cases kv
      obtain ⟨o, es, ep, e1, e2, e3, _, e4, _⟩ := D
      have hes : es.toList = [] := by
        cases es with
        | mk l =>
          cases l with
          | nil => rfl
          | cons x r => cases e4
      refine ⟨_, .dict (kvs := []) e1 e2.1 e3 (as := []) (bs := []) ?_ ?_, ?_⟩
      · rw [hes]
        exact .nil
      · rw [hes]
        exact .nil
      · intro hm
        have hm : sysModules = a := by simpa using hm
        rw [hm] at hne
        simp at hne
theorem Rt.readsAll (I : Inv X pins σ H s) : ∀ (ds : List PyData) (vs : List V) (us : List Value), RtAll X.K H vs ds → Vals vs us → ∃ as, ReadsAll s.heap us ds as ∧ sysModules ∉ as
  | [], _, _, h, r => by
    cases h; cases r
    exact ⟨_, .nil, List.not_mem_nil⟩
  | d :: ds, _, _, h, r => by
    cases h with
    | cons h1 h2 =>
      cases r with
      | cons r1 r2 =>
        obtain ⟨as, q1, n1⟩ := Rt.reads I d _ _ h1 r1
        obtain ⟨bs, q2, n2⟩ := Rt.readsAll I ds _ _ h2 r2
        exact ⟨as ++ bs, .cons q1 q2, fun hm => (List.mem_append.mp hm).elim n1 n2⟩
end
end

/-- data of either kind -/
def Gd (K : PySem.W.Frag) (H : Hp) (v : V) (d : PyData) : Prop := Dp K H v d ∨ Rt K H v d
def GdAll (K : PySem.W.Frag) (H : Hp) (vs : List V) (ds : List PyData) : Prop := DpAll K H vs ds ∨ RtAll K H vs ds
theorem dpAll_at {K : PySem.W.Frag} {H : Hp} : ∀ {vs : List V} {ds : List PyData}, DpAll K H vs ds → ∀ (i : Nat) (v : V), vs[i]? = some v → ∃ d, ds[i]? = some d ∧ Dp K H v d
  | _, _, .nil, i, v, h => by simp at h
  | _, _, .cons r q, 0, v, h => by
    simp at h
    subst h
    exact ⟨_, rfl, r⟩
  | _, _, .cons r q, i + 1, v, h => by
    obtain ⟨d, h1, h2⟩ := dpAll_at q i v (by simpa using h)
    exact ⟨d, by simpa using h1, h2⟩
theorem rtAll_at {K : PySem.W.Frag} {H : Hp} : ∀ {vs : List V} {ds : List PyData}, RtAll K H vs ds → ∀ (i : Nat) (v : V), vs[i]? = some v → ∃ d, ds[i]? = some d ∧ Rt K H v d
  | _, _, .nil, i, v, h => by simp at h
  | _, _, .cons r q, 0, v, h => by
    simp at h
    subst h
    exact ⟨_, rfl, r⟩
  | _, _, .cons r q, i + 1, v, h => by
    obtain ⟨d, h1, h2⟩ := rtAll_at q i v (by simpa using h)
    exact ⟨d, by simpa using h1, h2⟩
theorem GdAll.at {K : PySem.W.Frag} {H : Hp} {vs : List V} {ds : List PyData} (h : GdAll K H vs ds) {i : Nat} {v : V} (e : vs[i]? = some v) : ∃ d, ds[i]? = some d ∧ Gd K H v d := by
  rcases h with h | h
  · obtain ⟨d, h1, h2⟩ := dpAll_at h i v e
    exact ⟨d, h1, .inl h2⟩
  · obtain ⟨d, h1, h2⟩ := rtAll_at h i v e
    exact ⟨d, h1, .inr h2⟩
theorem dpAll_len {K : PySem.W.Frag} {H : Hp} : ∀ {vs : List V} {ds : List PyData}, DpAll K H vs ds → vs.length = ds.length
  | _, _, .nil => rfl
  | _, _, .cons _ q => by rw [List.length_cons, List.length_cons, dpAll_len q]
theorem rtAll_len {K : PySem.W.Frag} {H : Hp} : ∀ {vs : List V} {ds : List PyData}, RtAll K H vs ds → vs.length = ds.length
  | _, _, .nil => rfl
  | _, _, .cons _ q => by rw [List.length_cons, List.length_cons, rtAll_len q]
theorem GdAll.len {K : PySem.W.Frag} {H : Hp} {vs : List V} {ds : List PyData} (h : GdAll K H vs ds) : vs.length = ds.length := h.elim dpAll_len rtAll_len
theorem Gd.tup {K : PySem.W.Frag} {H : Hp} {a : Addr} {vs : List V} {ds : List PyData} (h : SqT K H a vs) (q : GdAll K H vs ds) : Gd K H (.ref a) (.tuple ds) := by
  rcases q with q | q
  · exact .inl (.tup h q)
  · exact .inr (.tup h q)
/-- it stands while what stands stands -/
theorem same_t {K : PySem.W.Frag} {H H' : Hp} {a : Addr} {xs : List V} (e : Same H H') (h : SqT K H a xs) : SqT K H' a xs := by
  rcases h with h | h
  · rcases h with h | ⟨o, h⟩
    · exact .inl (.inl (e _ _ h))
    · exact .inl (.inr ⟨o, e _ _ h⟩)
  · exact .inr h
mutual
theorem dp_mono {K : PySem.W.Frag} {H H' : Hp} (e : Same H H') : ∀ (d : PyData) (v : V), Dp K H v d → Dp K H' v d
  | .none, _, h => by cases h; exact .non
  | .bool b, _, h => by cases h; exact .bl b
  | .int i, _, h => by cases h; exact .int i
  | .str x, _, h => by cases h; exact .str x
  | .list ds, _, h => by
    cases h with
    | lst q r => exact .lst (e.seq q) (dpAll_mono e ds _ r)
  | .tuple ds, _, h => by
    cases h with
    | tup q r => exact .tup (same_t e q) (dpAll_mono e ds _ r)
  | .dict _, _, h => by cases h
theorem dpAll_mono {K : PySem.W.Frag} {H H' : Hp} (e : Same H H') : ∀ (ds : List PyData) (vs : List V), DpAll K H vs ds → DpAll K H' vs ds
  | [], _, h => by cases h; exact .nil
  | d :: ds, _, h => by
    cases h with
    | cons q r => exact .cons (dp_mono e d _ q) (dpAll_mono e ds _ r)
end
mutual
theorem rt_mono {K : PySem.W.Frag} {H H' : Hp} (e : Same H H') : ∀ (d : PyData) (v : V), Rt K H v d → Rt K H' v d
  | .none, _, h => by cases h; exact .non
  | .bool b, _, h => by cases h; exact .bl b
  | .int i, _, h => by cases h; exact .int i
  | .str x, _, h => by cases h; exact .str x
  | .list ds, _, h => by cases h
  | .tuple ds, _, h => by
    cases h with
    | tup q r => exact .tup (same_t e q) (rtAll_mono e ds _ r)
  | .dict _, _, h => by
    cases h with
    | emp q => exact .emp (e _ _ q)
theorem rtAll_mono {K : PySem.W.Frag} {H H' : Hp} (e : Same H H') : ∀ (ds : List PyData) (vs : List V), RtAll K H vs ds → RtAll K H' vs ds
  | [], _, h => by cases h; exact .nil
  | d :: ds, _, h => by
    cases h with
    | cons q r => exact .cons (rt_mono e d _ q) (rtAll_mono e ds _ r)
end
theorem Gd.mono {K : PySem.W.Frag} {H H' : Hp} {v : V} {d : PyData} (h : Gd K H v d) (e : Same H H') : Gd K H' v d := h.elim (fun z => .inl (dp_mono e d v z)) fun z => .inr (rt_mono e d v z)
theorem GdAll.mono {K : PySem.W.Frag} {H H' : Hp} {vs : List V} {ds : List PyData} (h : GdAll K H vs ds) (e : Same H H') : GdAll K H' vs ds := h.elim (fun z => .inl (dpAll_mono e ds vs z)) fun z => .inr (rtAll_mono e ds vs z)

/-! ### how long a repr of data comes -/
mutual
def sz : PyData → Nat
  | .none => 4
  | .bool _ => 5
  | .int _ => 1
  | .str x => 10 * x.length + 2
  | .list ds => szAll ds + 3
  | .tuple ds => szAll ds + 3
  | .dict _ => 2
def szAll : List PyData → Nat
  | [] => 0
  | d :: ds => sz d + 2 + szAll ds
end
mutual
/-- small ints, plain texts, empty dicts -/
def okD : PyData → Prop
  | .none => True
  | .bool _ => True
  | .int i => 0 ≤ i ∧ i ≤ 9
  | .str x => ∀ c ∈ x.cps.toList, c < 1000
  | .list ds => okAll ds
  | .tuple ds => okAll ds
  | .dict kvs => kvs = []
def okAll : List PyData → Prop
  | [] => True
  | d :: ds => okD d ∧ okAll ds
end
theorem digit_len : ∀ k < 10, (toString ((k : Nat) : Int) : String).length = 1 := by decide
mutual
theorem show_le : ∀ d : PyData, okD d → d.shown.length ≤ sz d ∧ d.showable = true
  | .none, _ => ⟨by show ("None" : Str).length ≤ 4; decide +kernel, rfl⟩
  | .bool b, _ => ⟨by cases b; (show ("False" : Str).length ≤ 5; decide +kernel); (show ("True" : Str).length ≤ 5; decide +kernel), rfl⟩
  | .int i, h => by
    obtain ⟨h0, h1⟩ : 0 ≤ i ∧ i ≤ 9 := h
    have e : i = 0 ∨ i = 1 ∨ i = 2 ∨ i = 3 ∨ i = 4 ∨ i = 5 ∨ i = 6 ∨ i = 7 ∨ i = 8 ∨ i = 9 := by omega
    refine ⟨?_, ?_⟩
    · show (Str.ofString (toString i)).length ≤ 1
      rcases e with rfl | rfl | rfl | rfl | rfl | rfl | rfl | rfl | rfl | rfl <;> decide +kernel
    · rcases e with rfl | rfl | rfl | rfl | rfl | rfl | rfl | rfl | rfl | rfl <;> decide +kernel
  | .str x, h => by
    have h : ∀ c ∈ x.cps.toList, c < 1000 := h
    exact ⟨StrLaws.reprText_len x fun c hc => Nat.lt_of_lt_of_le (h c hc) (by decide), rfl⟩
  | .list ds, h => by
    obtain ⟨h1, h2⟩ := showAll_le ds h
    have q := listText_len_le (PyData.shownAll ds)
    refine ⟨?_, h2⟩
    show (listText (PyData.shownAll ds)).length ≤ szAll ds + 3
    omega
  | .tuple ds, h => by
    obtain ⟨h1, h2⟩ := showAll_le ds h
    have q := tupleText_len_le (PyData.shownAll ds)
    refine ⟨?_, h2⟩
    show (tupleText (PyData.shownAll ds)).length ≤ szAll ds + 3
    omega
  | .dict kvs, h => by
    have h : kvs = [] := h
    subst h
    exact ⟨by show (dictText []).length ≤ 2; decide +kernel, rfl⟩
theorem showAll_le : ∀ ds : List PyData, okAll ds → ((PyData.shownAll ds).map (·.length)).sum + 2 * (PyData.shownAll ds).length ≤ szAll ds ∧ PyData.showableAll ds = true
  | [], _ => ⟨Nat.le_refl _, rfl⟩
  | d :: ds, h => by
    obtain ⟨h1, h2⟩ : okD d ∧ okAll ds := h
    obtain ⟨a1, a2⟩ := show_le d h1
    obtain ⟨b1, b2⟩ := showAll_le ds h2
    refine ⟨?_, ?_⟩
    · show ((d.shown :: PyData.shownAll ds).map (·.length)).sum + 2 * (d.shown :: PyData.shownAll ds).length ≤ sz d + 2 + szAll ds
      rw [List.map_cons, List.sum_cons, List.length_cons]
      omega
    · show (d.showable && PyData.showableAll ds) = true
      rw [a2, b2]
      rfl
end
section
variable {X : Cx}
/-- repr of data of either kind -/
def rReprG (K : PySem.W.Frag) : List V → Hp → VK → Prop := fun xs H Q => ∃ (v : V) (d : PyData), xs = [v] ∧ Gd K H v d ∧ okD d ∧ sz d ≤ 16000000 ∧ d.depth ≤ 40 ∧ Q (.str d.shown) H
theorem dp_noDict {K : PySem.W.Frag} {H : Hp} : ∀ (d : PyData) (v : V), Dp K H v d → d.canLay0 = true ∨ True := fun _ _ _ => .inr trivial
mutual
theorem dp_hasNo {K : PySem.W.Frag} {H : Hp} : ∀ (d : PyData) (v : V), Dp K H v d → d.hasDict = false
  | .none, _, _ => rfl
  | .bool _, _, _ => rfl
  | .int _, _, _ => rfl
  | .str _, _, _ => rfl
  | .list ds, _, h => by
    cases h with
    | lst _ r => exact dpAll_hasNo ds _ r
  | .tuple ds, _, h => by
    cases h with
    | tup _ r => exact dpAll_hasNo ds _ r
  | .dict _, _, h => by cases h
theorem dpAll_hasNo {K : PySem.W.Frag} {H : Hp} : ∀ (ds : List PyData) (vs : List V), DpAll K H vs ds → PyData.hasDictAll ds = false
  | [], _, _ => rfl
  | d :: ds, _, h => by
    cases h with
    | cons q r =>
      show (d.hasDict || PyData.hasDictAll ds) = false
      rw [dp_hasNo d _ q, dpAll_hasNo ds _ r]
      rfl
end
theorem call_reprG (hg : X.A.guards = some []) (hu : X.A.units + 64 < cLine) : CallR X (.builtin "repr") (rReprG X.K) := by
  intro pins s σ H xs us Q I r h
  obtain ⟨v, d, rfl, hd, ok, hz, hdp, q⟩ := h
  obtain ⟨u, rfl, ru⟩ := vals1 r
  obtain ⟨l1, l2⟩ := show_le d ok
  have hl : d.shown.length ≤ sizeLine := by
    rw [sizeLine_eq]
    omega
  obtain ⟨as, rd, hsm⟩ : ∃ as, Reads s.heap u d as ∧ (d.hasDict = true → sysModules ∉ as) := by
    rcases hd with z | z
    · obtain ⟨as, rd⟩ := Dp.reads I d v u z ru
      exact ⟨as, rd, PyData.noDict_hsm (dp_hasNo d v z)⟩
    · obtain ⟨as, rd, n⟩ := Rt.reads I d v u z ru
      exact ⟨as, rd, fun _ => n⟩
  cases v with
  | ref a =>
    cases ru
    refine repr_of_reads' rd l2 hsm hg (by omega) (fun _ _ z => z) (fun h' w tk k => ?_) hl
    exact ⟨.str d.shown, H, I.kept (t' := tk) k, ⟨_, rfl⟩, q⟩
  | non =>
    cases ru
    cases rd
    exact PySem.P.repr_of_none ⟨.str _, H, I.tok _, ⟨_, rfl⟩, q⟩
  | bl b =>
    cases ru
    cases rd
    exact PySem.P.repr_of_bool ⟨.str _, H, I.tok _, ⟨_, rfl⟩, q⟩
  | int i =>
    obtain ⟨t, rfl⟩ := ru
    cases rd
    exact PySem.P.repr_of_int (by simpa [PyData.showable] using l2) ⟨.str _, H, I.tok _, ⟨_, rfl⟩, q⟩
  | str x =>
    obtain ⟨t, rfl⟩ := ru
    cases rd
    exact PySem.P.repr_of_str (hsz := hl) ⟨.str _, H, I.tok _, ⟨_, rfl⟩, q⟩
  | byt b => rcases hd with z | z <;> cases z
  | flt b => rcases hd with z | z <;> cases z
  | ty n => rcases hd with z | z <;> cases z
end

/-! ### isinstance -/
def kindOf : PyData → String
  | .none => "NoneType"
  | .bool _ => "bool"
  | .int _ => "int"
  | .str _ => "str"
  | .list _ => "list"
  | .tuple _ => "tuple"
  | .dict _ => "dict"
theorem ty_list {K : PySem.W.Frag} {H : Hp} {a : Addr} {xs : List V} (h : SqL K H a xs) : TyX K H (.ref a) (.type "list") := by
  rcases h with (h | ⟨o, h⟩) | ⟨o, its, n, h, hc, _⟩
  · exact .base (.lst h)
  · exact .base (.frz h)
  · exact .kList h hc
theorem ty_tuple {K : PySem.W.Frag} {H : Hp} {a : Addr} {xs : List V} (h : SqT K H a xs) : TyX K H (.ref a) (.type "tuple") := by
  rcases h with (h | ⟨o, h⟩) | ⟨o, its, n, h, hc, _⟩
  · exact .base (.tup h)
  · exact .fTuple h
  · exact .kTuple h hc
theorem ty_of {K : PySem.W.Frag} {H : Hp} {v : V} {d : PyData} (h : Gd K H v d) : TyX K H v (.type (kindOf d)) := by
  rcases h with h | h
  · cases h with
    | non => exact .base .non
    | bl b => exact .base (.bl b)
    | int i => exact .base (.int i)
    | str x => exact .base (.str x)
    | lst q _ => exact ty_list q
    | tup q _ => exact ty_tuple q
  · cases h with
    | non => exact .base .non
    | bl b => exact .base (.bl b)
    | int i => exact .base (.int i)
    | str x => exact .base (.str x)
    | tup q _ => exact ty_tuple q
    | emp q => exact .base (.dK q)
def isT : PyData → Bool
  | .tuple _ => true
  | _ => false
def isS : PyData → Bool
  | .str _ => true
  | _ => false
theorem kit_t : ∀ d : PyData, kitB (kindOf d) "tuple" = some (isT d)
  | .none => (by decide +kernel : kitB "NoneType" "tuple" = some false)
  | .bool _ => (by decide +kernel : kitB "bool" "tuple" = some false)
  | .int _ => (by decide +kernel : kitB "int" "tuple" = some false)
  | .str _ => (by decide +kernel : kitB "str" "tuple" = some false)
  | .list _ => (by decide +kernel : kitB "list" "tuple" = some false)
  | .tuple _ => (by decide +kernel : kitB "tuple" "tuple" = some true)
  | .dict _ => (by decide +kernel : kitB "dict" "tuple" = some false)
theorem kit_s : ∀ d : PyData, kitB (kindOf d) "str" = some (isS d)
  | .none => (by decide +kernel : kitB "NoneType" "str" = some false)
  | .bool _ => (by decide +kernel : kitB "bool" "str" = some false)
  | .int _ => (by decide +kernel : kitB "int" "str" = some false)
  | .str _ => (by decide +kernel : kitB "str" "str" = some true)
  | .list _ => (by decide +kernel : kitB "list" "str" = some false)
  | .tuple _ => (by decide +kernel : kitB "tuple" "str" = some false)
  | .dict _ => (by decide +kernel : kitB "dict" "str" = some false)

/-! ### strip of letters leaves nothing -/
theorem strip_all {x y : Str} : (Txt.stripChars x y).length = 0 ↔ ∀ c ∈ tl x, y.cps.contains c = true := by
  have tw : ∀ (p : Nat → Bool) (l : List Nat), (∀ c ∈ l, p c = true) → l.takeWhile p = l := by
    intro p l h
    induction l with
    | nil => rfl
    | cons a r ih =>
      rw [List.takeWhile_cons, h a List.mem_cons_self, if_pos rfl, ih fun c hc => h c (List.mem_cons_of_mem _ hc)]
  have mem_tw : ∀ (p : Nat → Bool) (l : List Nat) (c : Nat), c ∈ l.takeWhile p → p c = true := by
    intro p l
    induction l with
    | nil => intro c hc; cases hc
    | cons a r ih =>
      intro c hc
      rw [List.takeWhile_cons] at hc
      by_cases pa : p a = true
      · rw [if_pos pa] at hc
        rcases List.mem_cons.mp hc with e | e
        · rw [e]; exact pa
        · exact ih c e
      · rw [if_neg pa] at hc
        cases hc
  have hx := len_tl x
  constructor
  · intro h
    unfold Txt.stripChars Txt.stripBy at h
    by_cases c : stripSame y.cps.contains true true x = true
    · rw [if_pos c, len_tl] at h
      intro d hd
      rw [List.eq_nil_of_length_eq_zero h] at hd
      cases hd
    · rw [if_neg c] at h
      have e1 : tl (stripped y.cps.contains true true x) = ((tl x).drop (stripLo y.cps.contains true x)).take (stripHi y.cps.contains true x (stripLo y.cps.contains true x) - stripLo y.cps.contains true x) := PySem.StrLaws.strSub_toList x _ _
      have elo : stripLo y.cps.contains true x = ((tl x).takeWhile y.cps.contains).length := rfl
      rw [len_tl, e1] at h
      rw [elo] at h
      have ehi : stripHi y.cps.contains true x ((tl x).takeWhile y.cps.contains).length = x.length - (((tl x).drop ((tl x).takeWhile y.cps.contains).length).reverse.takeWhile y.cps.contains).length := rfl
      rw [ehi] at h
      have esplit := List.takeWhile_append_dropWhile (p := y.cps.contains) (l := tl x)
      have edrop : (tl x).drop ((tl x).takeWhile y.cps.contains).length = (tl x).dropWhile y.cps.contains := by
        have q := congrArg (List.drop ((tl x).takeWhile y.cps.contains).length) esplit
        rw [List.drop_left] at q
        exact q.symm
      rw [edrop] at h
      cases hd : (tl x).dropWhile y.cps.contains with
      | nil =>
        rw [hd, List.append_nil] at esplit
        intro d hdm
        rw [← esplit] at hdm
        exact mem_tw _ _ _ hdm
      | cons d r =>
        exfalso
        have hnp : ¬ y.cps.contains d = true := by
          have q := List.head?_dropWhile_not (p := y.cps.contains) (tl x)
          rw [hd] at q
          simpa using q
        have hlen : (((d :: r).reverse).takeWhile y.cps.contains).length ≤ r.length := by
          have hle : (((d :: r).reverse).takeWhile y.cps.contains).length ≤ (d :: r).length := by
            have q := (List.takeWhile_sublist (l := (d :: r).reverse) y.cps.contains).length_le
            rw [List.length_reverse] at q
            exact q
          by_cases hz : (((d :: r).reverse).takeWhile y.cps.contains).length = (d :: r).length
          · exfalso
            have q := List.takeWhile_append_dropWhile (p := y.cps.contains) (l := (d :: r).reverse)
            have q2 : ((d :: r).reverse).dropWhile y.cps.contains = [] := by
              have q3 := congrArg List.length q
              rw [List.length_append, hz, List.length_reverse] at q3
              exact List.eq_nil_of_length_eq_zero (by omega)
            rw [q2, List.append_nil] at q
            have hm : d ∈ ((d :: r).reverse).takeWhile y.cps.contains := by
              rw [q]
              simp
            exact hnp (mem_tw _ _ _ hm)
          · rw [List.length_cons] at hle hz
            omega
        rw [hd, List.length_take, List.length_cons] at h
        have hsum := congrArg List.length esplit
        rw [hd, List.length_append, List.length_cons, ← hx] at hsum
        omega
  · intro h
    have e0 : stripLo y.cps.contains true x = x.length := by
      show ((tl x).takeWhile y.cps.contains).length = x.length
      rw [tw _ _ h, hx]
    unfold Txt.stripChars Txt.stripBy
    by_cases c : stripSame y.cps.contains true true x = true
    · rw [if_pos c]
      unfold stripSame at c
      rw [e0, Bool.and_eq_true] at c
      exact beq_iff_eq.mp c.1
    · rw [if_neg c, len_tl]
      have e1 : tl (stripped y.cps.contains true true x) = ((tl x).drop (stripLo y.cps.contains true x)).take (stripHi y.cps.contains true x (stripLo y.cps.contains true x) - stripLo y.cps.contains true x) := PySem.StrLaws.strSub_toList x _ _
      rw [e1, e0, List.drop_of_length_le (by omega)]
      simp
end Bl
/-! Words, rows and products among data. -/
namespace Bl
open PySem PySem.Spec PyProof.Rows L2 TL
theorem ascii_tab : ∀ c < 128, (Unicode.isAlpha c && !(Unicode.isUpper c || Unicode.isTitle c)) = true → 97 ≤ c ∧ c ≤ 122 := by decide +kernel
/-- as the program asks it -/
def wordB (x : Str) : Bool := (x.length == 0) || (Txt.isascii x && (Txt.isalpha x && Txt.islower x))
theorem word_iff {x : Str} : wordB x = true ↔ Lets x := by
  unfold wordB
  constructor
  · intro h
    by_cases h0 : x.length = 0
    · intro c hc
      rw [len_tl] at h0
      rw [List.eq_nil_of_length_eq_zero h0] at hc
      cases hc
    · have h0 : (x.length == 0) = false := beq_eq_false_iff_ne.mpr h0
      rw [h0, Bool.false_or, Bool.and_eq_true, Bool.and_eq_true] at h
      obtain ⟨h1, h2, h3⟩ := h
      unfold Txt.isascii at h1
      unfold Txt.isalpha at h2
      unfold Txt.islower at h3
      rw [Bool.and_eq_true] at h2 h3
      rw [← Array.all_toList, List.all_eq_true] at h1
      have h2 := h2.2
      rw [← Array.all_toList, List.all_eq_true] at h2
      have h3 := h3.2
      rw [Bool.not_eq_true', ← Array.any_toList, List.any_eq_false] at h3
      intro c hc
      have a1 := of_decide_eq_true (h1 c hc)
      have a2 := h2 c hc
      have a3 := h3 c hc
      refine ascii_tab c a1 ?_
      rw [a2, Bool.true_and]
      cases e : (Unicode.isUpper c || Unicode.isTitle c)
      · rfl
      · exact absurd e a3
  · intro h
    obtain ⟨h1, h2⟩ := word_tests h
    by_cases h0 : x.length = 0
    · rw [h0]
      rfl
    · obtain ⟨h3, h4⟩ := h2 h0
      rw [h1, h3, h4]
      simp
def azs : Str := "abcdefghijklmnopqrstuvwxyz"
theorem azs_list : azs.cps = #[97, 98, 99, 100, 101, 102, 103, 104, 105, 106, 107, 108, 109, 110, 111, 112, 113, 114, 115, 116, 117, 118, 119, 120, 121, 122] := by decide +kernel
theorem azs_has {c : Nat} : azs.cps.contains c = true ↔ 97 ≤ c ∧ c ≤ 122 := by
  rw [azs_list, Array.contains_iff]
  simp
  omega
theorem strip_lets {x : Str} : (Txt.stripChars x azs).length = 0 ↔ Lets x := by
  rw [strip_all]
  constructor
  · intro h c hc
    exact azs_has.mp (h c hc)
  · intro h c hc
    exact azs_has.mpr (h c hc)
def wordD : PyData → Bool
  | .str x => wordB x
  | _ => false
def rowD : PyData → Bool
  | .tuple ds => !ds.isEmpty && ds.all wordD
  | _ => false
def prodD : PyData → Bool
  | .tuple ds => !ds.isEmpty && ds.all rowD
  | _ => false
theorem str_of {K : PySem.W.Frag} {H : Hp} {v : V} {d : PyData} (h : Gd K H v d) (e : isS d = true) : ∃ x, v = .str x ∧ d = .str x := by
  rcases h with h | h <;> cases h <;> first | exact ⟨_, rfl, rfl⟩ | exact absurd e (by simp [isS])
theorem tup_of {K : PySem.W.Frag} {H : Hp} {v : V} {d : PyData} (h : Gd K H v d) (e : isT d = true) : ∃ a xs ds, v = .ref a ∧ d = .tuple ds ∧ SqT K H a xs ∧ GdAll K H xs ds := by
  rcases h with h | h
  · cases h with
    | tup q r => exact ⟨_, _, _, rfl, rfl, q, .inl r⟩
    | _ => exact absurd e (by simp [isT])
  · cases h with
    | tup q r => exact ⟨_, _, _, rfl, rfl, q, .inr r⟩
    | _ => exact absurd e (by simp [isT])
theorem sz_mem : ∀ {ds : List PyData} {d : PyData}, d ∈ ds → sz d + 2 ≤ szAll ds
  | [], d, h => by cases h
  | a :: r, d, h => by
    show sz d + 2 ≤ sz a + 2 + szAll r
    rcases List.mem_cons.mp h with e | e
    · rw [e]; omega
    · have := sz_mem e
      omega
theorem sz_len : ∀ ds : List PyData, 2 * ds.length ≤ szAll ds
  | [] => Nat.le_refl _
  | a :: r => by
    have := sz_len r
    show 2 * (r.length + 1) ≤ sz a + 2 + szAll r
    omega
theorem szAll_append : ∀ a b : List PyData, szAll (a ++ b) = szAll a + szAll b
  | [], b => by show szAll b = 0 + szAll b; omega
  | x :: a, b => by
    show sz x + 2 + szAll (a ++ b) = sz x + 2 + szAll a + szAll b
    rw [szAll_append a b]
    omega
theorem take_more {α : Type} {l : List α} {i : Nat} {x : α} (h : l[i]? = some x) : l.take (i + 1) = l.take i ++ [x] := by
  rw [List.take_succ, h]
  rfl
theorem same_d {H H' : Hp} {D : Addr} {o : HO} (hD : H D = none) (h : Same H H') : Same H (upd H' D o) := fun b u e => by
  rw [upd_ne (ne_of_none e hD)]
  exact h b u e
section
variable {X : Cx}
/-- xs == [] -/
def rEqNil (K : PySem.W.Frag) : R2 := fun x y H Q => ∃ (a b : Addr) (xs : List V), x = .ref a ∧ y = .ref b ∧ SqL K H a xs ∧ SqL K H b [] ∧ Q (.bl xs.isEmpty) H
theorem op_eqNil (hu : X.A.units + 64 < cLine) : OpR X (compareOp .Eq) (rEqNil X.K) := by
  intro pins s σ H x y v u Q I rx ry h
  obtain ⟨a, b, xs, rfl, rfl, h1, h2, q⟩ := h
  cases xs with
  | nil => exact op_eqD hu pins s σ H _ _ v u Q I rx ry ⟨.list [], .list [], .lst h1 .nil, .lst h2 .nil, by decide +kernel, by decide +kernel, q⟩
  | cons z xs =>
    cases rx
    cases ry
    obtain ⟨its, r1, p1, _⟩ := I.list h1
    obtain ⟨its2, r2, p2, _⟩ := I.list h2
    have e2 := r2.length
    have e1 := r1.length
    refine SeqAt.eq_list_lengthsAt p1.isList p2.isList ?_ (by omega) ⟨.bl false, H, I, rfl, q⟩
    rw [bne_iff_ne]
    intro e
    rw [List.size_toArray, List.size_toArray, ← e1, ← e2] at e
    simp at e
def rNeNil (K : PySem.W.Frag) : R2 := fun x y H Q => ∃ (a b : Addr) (xs : List V), x = .ref a ∧ y = .ref b ∧ SqL K H a xs ∧ SqL K H b [] ∧ Q (.bl (!xs.isEmpty)) H
end
theorem gd_same {K : PySem.W.Frag} {H H' : Hp} {vs : List V} {ds : List PyData} {i : Nat} {v : V} (h : GdAll K H vs ds) (e : Same H H') (hv : vs[i]? = some v) : ∃ d, ds[i]? = some d ∧ Gd K H' v d := by
  obtain ⟨d, h1, h2⟩ := h.at hv
  exact ⟨d, h1, h2.mono e⟩
end Bl
/-! The tray that draws are taken from, and what may change beside it. -/
namespace Bl
open PySem PySem.Spec PyProof.Rows L2 TL
theorem sl_small {n : Nat} (h : n ≤ 100000) : n ≤ sizeLine := Nat.le_trans h (by decide)
/-! ### the tray: three ints in a list, the last one counts -/
def Tray (H : Hp) (t : Addr) (n : Nat) : Prop := ∃ a b c : Int, H t = some (.lst [.int a, .int b, .int c]) ∧ 0 ≤ a ∧ 0 ≤ b ∧ b < 2 ^ 200 ∧ 0 ≤ c ∧ c ≤ (n : Int)
theorem Tray.mono {H : Hp} {t : Addr} {n m : Nat} (h : Tray H t n) (e : n ≤ m) : Tray H t m := by
  obtain ⟨a, b, c, h1, h2, h3, h4, h5, h6⟩ := h
  exact ⟨a, b, c, h1, h2, h3, h4, h5, by omega⟩
theorem Tray.of {H H' : Hp} {t : Addr} {n : Nat} (h : Tray H t n) (e : H' t = H t) : Tray H' t n := by
  obtain ⟨a, b, c, h1, h2⟩ := h
  exact ⟨a, b, c, e.trans h1, h2⟩
/-- all but the object at t stands as it did -/
def But (t : Addr) (H H' : Hp) : Prop := ∀ b o, b ≠ t → H b = some o → H' b = some o
theorem But.refl (t : Addr) (H : Hp) : But t H H := fun _ _ _ h => h
theorem But.trans {t : Addr} {H H1 H2 : Hp} (a : But t H H1) (b : But t H1 H2) : But t H H2 := fun c o n h => b c o n (a c o n h)
theorem But.set {t : Addr} {H : Hp} {o : HO} : But t H (upd H t o) := fun b u n h => by
  rw [upd_ne n]
  exact h
theorem But.new {t p : Addr} {H : Hp} {o : HO} (hp : H p = none) : But t H (upd H p o) := fun b u _ h => by
  rw [upd_ne (ne_of_none h hp)]
  exact h
/-- what a def with a tray may do: the tray's own change, new objects, nothing else -/
theorem Tray.ne {H : Hp} {t p : Addr} {n : Nat} (h : Tray H t n) (hp : H p = none) : t ≠ p := by
  obtain ⟨a, b, c, h1, _⟩ := h
  exact ne_of_none h1 hp
theorem Tray.new {H : Hp} {t p : Addr} {n : Nat} {o : HO} (h : Tray H t n) (hp : H p = none) : Tray (upd H p o) t n := h.of (upd_ne (h.ne hp))
theorem seed_range (z : Int) (i : Nat) (hi : i ≤ 1000) : 0 ≤ z % ((10 : Int) ^ (38 : Int).toNat + 133) * 89 + 59 * (i : Int) + 23 ∧ z % ((10 : Int) ^ (38 : Int).toNat + 133) * 89 + 59 * (i : Int) + 23 < 2 ^ 200 := by
  have e : (10 : Int) ^ (38 : Int).toNat + 133 = 100000000000000000000000000000000000133 := by decide
  rw [e]
  have h1 := Int.emod_nonneg z (b := 100000000000000000000000000000000000133) (by decide)
  have h2 := Int.emod_lt_of_pos z (b := 100000000000000000000000000000000000133) (by decide)
  have e2 : (2 : Int) ^ 200 = 1606938044258990275541962092341162602522202993782792835301376 := by decide
  rw [e2]
  omega
theorem big1 : (10 : Int) ^ (39 : Int).toNat + 3 = 1000000000000000000000000000000000000003 := by decide
theorem big2 : (10 : Int) ^ (40 : Int).toNat + 121 = 10000000000000000000000000000000000000121 := by decide
theorem p200 : (2 : Int) ^ 200 = 1606938044258990275541962092341162602522202993782792835301376 := by decide
theorem pow_ok {x : Int} (h0 : 0 ≤ x) (h1 : x < 2 ^ 210) : CPowW x 3 := by
  refine ⟨⟨by decide, by decide⟩, ?_⟩
  have e : (2 : Int) ^ 210 = ((2 ^ 210 : Nat) : Int) := by decide
  have h2 : x.natAbs < 2 ^ 210 := by
    rw [e] at h1
    omega
  exact Nat.lt_trans h2 (Nat.pow_lt_pow_right (by decide) (by decide))
theorem p210 : (2 : Int) ^ 210 = 1645504557321206042154969182557350504982735865633579863348609024 := by decide
theorem log_small {m : Int} (h0 : 0 < m) (h : m < 4294967296) : m.natAbs.log2 < 9000 :=
  Nat.lt_trans (PySem.Flt.log2_lt_of (n := m.natAbs) (k := 32) (by decide) (by omega)) (by decide)
theorem sum_ones : ∀ ys : List Str, (∀ y ∈ ys, y.length = 1) → (ys.map (·.length)).sum = ys.length
  | [], _ => rfl
  | y :: r, h => by
    rw [List.map_cons, List.sum_cons, List.length_cons, h y List.mem_cons_self, sum_ones r fun z hz => h z (List.mem_cons_of_mem _ hz)]
    omega
theorem join_lets : ∀ ys : List Str, (∀ y ∈ ys, Lets y ∧ y.length = 1) → Lets (Txt.join "" ys) ∧ (Txt.join "" ys).length = ys.length := by
  intro ys h
  rw [join_eq]
  have key : ∀ ps : List (List Nat), (∀ p ∈ ps, p.length = 1 ∧ ∀ c ∈ p, 97 ≤ c ∧ c ≤ 122) → (joinL [] ps).length = ps.length ∧ ∀ c ∈ joinL [] ps, 97 ≤ c ∧ c ≤ 122 := by
    intro ps
    induction ps with
    | nil => intro _; exact ⟨rfl, fun c hc => absurd hc (by simp [joinL])⟩
    | cons p r ih =>
      intro hp
      obtain ⟨h1, h2⟩ := hp p List.mem_cons_self
      obtain ⟨i1, i2⟩ := ih fun q hq => hp q (List.mem_cons_of_mem _ hq)
      have e : joinL [] (p :: r) = p ++ joinL [] r := by
        cases r with
        | nil => simp [joinL]
        | cons q s => simp [joinL]
      rw [e]
      refine ⟨by rw [List.length_append, List.length_cons, h1, i1]; omega, fun c hc => ?_⟩
      rcases List.mem_append.mp hc with z | z
      · exact h2 c z
      · exact i2 c z
  have ht := tl_join "" ys
  have he : tl ("" : Str) = [] := rfl
  rw [he] at ht
  obtain ⟨k1, k2⟩ := key (ys.map tl) fun p hp => by
    obtain ⟨y, hy, rfl⟩ := List.mem_map.mp hp
    obtain ⟨q1, q2⟩ := h y hy
    exact ⟨by rw [← len_tl]; exact q2, q1⟩
  refine ⟨fun c hc => k2 c (by rw [← ht]; exact hc), ?_⟩
  rw [len_tl, ht, k1, List.length_map]
theorem same_new {H : Hp} {p : Addr} {o : HO} (hp : H p = none) : Same H (upd H p o) := fun b u h => by
  rw [upd_ne (ne_of_none h hp)]
  exact h
theorem pick3 (a b c : V) {v : Int} (h0 : 0 ≤ v) (h1 : v < 3) : ∃ x, atI [a, b, c] v = some x ∧ (x = a ∨ x = b ∨ x = c) := by
  have e : v = 0 ∨ v = 1 ∨ v = 2 := by omega
  rcases e with rfl | rfl | rfl
  · exact ⟨a, rfl, .inl rfl⟩
  · exact ⟨b, rfl, .inr (.inl rfl)⟩
  · exact ⟨c, rfl, .inr (.inr rfl)⟩
theorem pick4 (a b c d : V) {v : Int} (h0 : 0 ≤ v) (h1 : v < 4) : ∃ x, atI [a, b, c, d] v = some x ∧ (x = a ∨ x = b ∨ x = c ∨ x = d) := by
  have e : v = 0 ∨ v = 1 ∨ v = 2 ∨ v = 3 := by omega
  rcases e with rfl | rfl | rfl | rfl
  · exact ⟨a, rfl, .inl rfl⟩
  · exact ⟨b, rfl, .inr (.inl rfl)⟩
  · exact ⟨c, rfl, .inr (.inr (.inl rfl))⟩
  · exact ⟨d, rfl, .inr (.inr (.inr rfl))⟩
theorem lets_x : Lets ("x" : Str) := by unfold Lets; decide +kernel
theorem lets_ab : Lets ("ab" : Str) := by unfold Lets; decide +kernel
theorem lets_az : Lets ("abcdefghijklmnopqrstuvwxyz" : Str) := by unfold Lets; decide +kernel
end Bl
/-! Items with bounds, in one of two kinds of data; tuples put together, where the new address does not matter. -/
namespace Bl
open PySem PySem.Spec PyProof.Rows L2 TL
def Rl (K : PySem.W.Frag) (H : Hp) : Bool → V → PyData → Prop
  | true => Dp K H
  | false => Rt K H
def Itm (K : PySem.W.Frag) (b k : Nat) (m : Bool) (H : Hp) (v : V) : Prop := ∃ d, Rl K H m v d ∧ okD d ∧ sz d ≤ b ∧ d.depth ≤ k
def Itms (K : PySem.W.Frag) (b k : Nat) (m : Bool) (H : Hp) (vs : List V) : Prop := ∀ v ∈ vs, Itm K b k m H v
section
variable {K : PySem.W.Frag} {b k : Nat} {m : Bool} {H H' : Hp} {v : V} {vs ws : List V}
theorem Itm.mono (h : Itm K b k m H v) (e : Same H H') : Itm K b k m H' v := by
  obtain ⟨d, h1, h2⟩ := h
  cases m with
  | true => exact ⟨d, dp_mono e d v h1, h2⟩
  | false => exact ⟨d, rt_mono e d v h1, h2⟩
theorem Itm.more {b' k' : Nat} (h : Itm K b k m H v) (hb : b ≤ b') (hk : k ≤ k') : Itm K b' k' m H v := by
  obtain ⟨d, h1, h2, h3, h4⟩ := h
  exact ⟨d, h1, h2, by omega, by omega⟩
theorem Itm.gd (h : Itm K b k m H v) : ∃ d, Gd K H v d ∧ okD d ∧ sz d ≤ b ∧ d.depth ≤ k := by
  obtain ⟨d, h1, h2⟩ := h
  cases m with
  | true => exact ⟨d, .inl h1, h2⟩
  | false => exact ⟨d, .inr h1, h2⟩
theorem Itms.mono (h : Itms K b k m H vs) (e : Same H H') : Itms K b k m H' vs := fun v hv => (h v hv).mono e
theorem Itms.more {b' k' : Nat} (h : Itms K b k m H vs) (hb : b ≤ b') (hk : k ≤ k') : Itms K b' k' m H vs := fun v hv => (h v hv).more hb hk
theorem Itms.app (h : Itms K b k m H vs) (q : Itms K b k m H ws) : Itms K b k m H (vs ++ ws) := fun v hv => (List.mem_append.mp hv).elim (h v) (q v)
theorem Itms.one (h : Itm K b k m H v) : Itms K b k m H [v] := fun u hu => by
  rw [List.mem_singleton] at hu
  rw [hu]
  exact h
theorem Itms.nil : Itms K b k m H [] := fun u hu => by cases hu
theorem Itms.cons (h : Itm K b k m H v) (q : Itms K b k m H vs) : Itms K b k m H (v :: vs) := fun u hu => by
  rcases List.mem_cons.mp hu with e | e
  · rw [e]; exact h
  · exact q u e
theorem Itms.take (h : Itms K b k m H vs) (n : Nat) : Itms K b k m H (vs.take n) := fun u hu => h u (List.mem_of_mem_take hu)
theorem Itms.drop (h : Itms K b k m H vs) (n : Nat) : Itms K b k m H (vs.drop n) := fun u hu => h u (List.mem_of_mem_drop hu)
/-- the data of items as a list -/
theorem Itms.all : ∀ {vs : List V}, Itms K b k m H vs → ∃ ds, (match m with | true => DpAll K H vs ds | false => RtAll K H vs ds) ∧ okAll ds ∧ szAll ds ≤ vs.length * (b + 2) ∧ PyData.depthAll ds ≤ k
  | [], _ => ⟨[], by cases m; exact .nil; exact .nil, trivial, by show 0 ≤ _; omega, Nat.zero_le _⟩
  | v :: vs, h => by
    obtain ⟨d, h1, h2, h3, h4⟩ := h v List.mem_cons_self
    obtain ⟨ds, q1, q2, q3, q4⟩ := Itms.all fun u hu => h u (List.mem_cons_of_mem _ hu)
    refine ⟨d :: ds, ?_, ⟨h2, q2⟩, ?_, ?_⟩
    · cases m with
      | true => exact .cons h1 q1
      | false => exact .cons h1 q1
    · show sz d + 2 + szAll ds ≤ (vs.length + 1) * (b + 2)
      rw [Nat.succ_mul]
      omega
    · show max d.depth (PyData.depthAll ds) ≤ k
      omega
theorem Itms.tup {a : Addr} {b' : Nat} (h : Itms K b k m H vs) (ht : SqT K H a vs) (hb : vs.length * (b + 2) + 3 ≤ b') : Itm K b' (k + 1) m H (.ref a) := by
  obtain ⟨ds, q1, q2, q3, q4⟩ := h.all
  refine ⟨.tuple ds, ?_, q2, ?_, ?_⟩
  · cases m with
    | true => exact .tup ht q1
    | false => exact .tup ht q1
  · show szAll ds + 3 ≤ b'
    omega
  · show PyData.depthAll ds + 1 ≤ k + 1
    omega
theorem Itms.lst {a : Addr} {b' : Nat} (h : Itms K b k true H vs) (ht : SqL K H a vs) (hb : vs.length * (b + 2) + 3 ≤ b') : Itm K b' (k + 1) true H (.ref a) := by
  obtain ⟨ds, q1, q2, q3, q4⟩ := h.all
  refine ⟨.list ds, .lst ht q1, q2, ?_, ?_⟩
  · show szAll ds + 3 ≤ b'
    omega
  · show PyData.depthAll ds + 1 ≤ k + 1
    omega
theorem itm_str {x : Str} (h : ∀ c ∈ x.cps.toList, c < 1000) (hb : 10 * x.length + 2 ≤ b) : Itm K b k m H (.str x) := ⟨.str x, by cases m; exact .str x; exact .str x, h, hb, Nat.zero_le _⟩
theorem itm_lets {x : Str} (h : Lets x) (hb : 10 * x.length + 2 ≤ b) : Itm K b k m H (.str x) := itm_str (fun c hc => by have := h c hc; omega) hb
theorem itm_non (hb : 4 ≤ b) : Itm K b k m H .non := ⟨.none, by cases m; exact .non; exact .non, trivial, hb, Nat.zero_le _⟩
theorem itm_bl {x : Bool} (hb : 5 ≤ b) : Itm K b k m H (.bl x) := ⟨.bool x, by cases m; exact .bl x; exact .bl x, trivial, hb, Nat.zero_le _⟩
theorem itm_int {i : Int} (h0 : 0 ≤ i) (h1 : i ≤ 9) (hb : 1 ≤ b) : Itm K b k m H (.int i) := ⟨.int i, by cases m; exact .int i; exact .int i, ⟨h0, h1⟩, hb, Nat.zero_le _⟩
theorem itm_dict {a : Addr} (h : H a = some (.dK [])) (hb : 2 ≤ b) (hk : (PyData.dict []).depth ≤ k) : Itm K b k false H (.ref a) := ⟨.dict [], .emp h, rfl, hb, hk⟩
/-- words -/
theorem itms_words {xs : List Str} (h : ∀ x ∈ xs, Lets x ∧ x.length ≤ 200) : Itms K 2002 0 m H (xs.map V.str) := fun v hv => by
  obtain ⟨x, hx, rfl⟩ := List.mem_map.mp hv
  obtain ⟨h1, h2⟩ := h x hx
  exact itm_lets h1 (by omega)
end
/-! ### tuples, wherever they come to lie -/
section
variable {X : Cx}
def rCatN (K : PySem.W.Frag) : R2 := fun x y H Q => ∃ (a b : Addr) (xs ys : List V), x = .ref a ∧ y = .ref b ∧ SqT K H a xs ∧ SqT K H b ys ∧ xs.length + ys.length ≤ sizeLine ∧ ∀ q H', Same H H' → SqT K H' q (xs ++ ys) → Q (.ref q) H'
theorem op_catN : OpR X (binaryOp .Add) (rCatN X.K) := by
  intro pins s σ H x y v u Q I rx ry h
  obtain ⟨a, b, xs, ys, ex, ey, ha, hb, hz, q⟩ := h
  refine op_catA pins s σ H x y v u Q I rx ry ⟨a, b, xs, ys, ex, ey, ha, hb, hz, fun e => ?_, fun _ e => ?_, fun _ _ p hp => ?_⟩
  · subst e
    exact q b H (Same.refl H) hb
  · subst e
    exact q a H (Same.refl H) (by rw [List.append_nil]; exact ha)
  · exact q p _ (same_new hp) (SqT.of upd_same)
def rSlN (K : PySem.W.Frag) : V → Option Int → Option Int → Hp → VK → Prop := fun x lo hi H Q => ∃ (a : Addr) (xs : List V), x = .ref a ∧ SqT K H a xs ∧ ∀ q H', Same H H' → SqT K H' q (cutV xs lo hi) → Q (.ref q) H'
theorem sl_tupN : SlR X (rSlN X.K) := by
  intro pins s σ H x v vl vu lo hi sl Q I rx hs pl pu h
  obtain ⟨a, xs, ex, ha, q⟩ := h
  refine sl_tupA pins s σ H x v vl vu lo hi sl Q I rx hs pl pu ⟨a, xs, ex, ha, fun e => ?_, fun _ p hp => ?_⟩
  · refine q a H (Same.refl H) ?_
    have e2 : cutV xs lo hi = xs := by
      unfold cutV
      rw [e.1, e.2, List.drop_zero, Nat.sub_zero, List.take_length]
    rw [e2]
    exact ha
  · exact q p _ (same_new hp) (SqT.of upd_same)
theorem cutV_to (xs : List V) (n : Nat) : cutV xs none (some (n : Int)) = xs.take n := by
  unfold cutV
  rw [HT.sIx_nat]
  show (xs.drop 0).take (min n xs.length - 0) = xs.take n
  rw [List.drop_zero, Nat.sub_zero]
  by_cases h : n ≤ xs.length
  · rw [Nat.min_eq_left h]
  · rw [Nat.min_eq_right (by omega), List.take_of_length_le (Nat.le_refl _), List.take_of_length_le (by omega)]
theorem cutV_from (xs : List V) (n : Nat) : cutV xs (some (n : Int)) none = xs.drop n := by
  unfold cutV
  rw [HT.sIx_nat]
  show (xs.drop (min n xs.length)).take (xs.length - min n xs.length) = xs.drop n
  by_cases h : n ≤ xs.length
  · rw [Nat.min_eq_left h]
    exact List.take_of_length_le (by rw [List.length_drop]; omega)
  · rw [Nat.min_eq_right (by omega), List.drop_of_length_le (Nat.le_refl _), List.drop_of_length_le (by omega)]
    simp
/-- tuple * int, the tuple not empty -/
def rRepB (K : PySem.W.Frag) : R2 := fun x y H Q => ∃ (l : Addr) (k : Int) (xs : List V), x = .ref l ∧ y = .int k ∧ SqT K H l xs ∧ xs ≠ [] ∧ 2 ≤ k ∧ k ≤ 4000 ∧ xs.length ≤ 1000 ∧ ∀ p, H p = none → Q (.ref p) (upd H p (.tup (List.replicate k.toNat xs).flatten))
theorem op_repB : OpR X (binaryOp .Mult) (rRepB X.K) := by
  intro pins s σ H x y v u Q I rx ry h
  obtain ⟨l, k, xs, rfl, rfl, hT, hne, h1, h2, hz, q⟩ := h
  cases rx
  obtain ⟨t, rfl⟩ := ry
  have z := I.tuple hT
  obtain ⟨its, r, ⟨⟨cls, dd, data, sl⟩, ho, hc, n, hd⟩, hs⟩ := z
  simp only at hc hd
  subst hc hd
  have len := r.length
  have many : k.toNat * xs.length ≤ 4000 * 1000 := Nat.mul_le_mul (by omega) hz
  have arr : its.toArray.size = xs.length := by rw [List.size_toArray, len]
  have pos : 0 < xs.length := List.length_pos_iff.mpr hne
  have noEmpty : its.toArray.isEmpty = false := by
    cases its with
    | nil =>
      rw [List.length_nil] at len
      omega
    | cons a b => rfl
  have prod : ((its.toArray.size : Nat) : Int) * k ≤ 4000000 := by
    rw [arr]
    have e : ((k.toNat * xs.length : Nat) : Int) = k * ((xs.length : Nat) : Int) := by
      rw [Int.natCast_mul, Int.toNat_of_nonneg (by omega)]
    rw [Int.mul_comm]
    omega
  have flat : (List.replicate k.toNat its).flatten.length ≤ sizeLine := by
    rw [lm_len_rep_flat, ← len, sizeLine_eq]
    omega
  have w0 : (decide (k < -(2 ^ 63)) || decide (k ≥ 2 ^ 63)) = false := by
    rw [Bool.or_eq_false_iff]
    exact ⟨decide_eq_false (by omega), decide_eq_false (by omega)⟩
  have w1 : (its.toArray.isEmpty || k == 1) = false := by
    rw [noEmpty]
    exact beq_eq_false_iff_ne.mpr (by omega)
  have w2 : (decide (k ≤ 0) || its.toArray.isEmpty) = false := by
    rw [noEmpty, decide_eq_false (by omega)]
    rfl
  have w4 : Builtin.Tuple.tupleTooMany (((its.toArray.size : Nat) : Int) * k) = false := by
    unfold Builtin.Tuple.tupleTooMany
    exact decide_eq_false (by rw [sizeLine_eq]; omega)
  have mul := tuple_mulW l its.toArray n dd sl k t w0 w1 w2 (by omega) w4 (by rw [size_rep, List.size_toArray]; exact flat)
  refine wpAny_binaryOp_repeat_ref (T := "tuple") (U := "int") (by decide) ⟨_, ho, rfl⟩
    (fun s2 => typeIs_int s2 k t) noFill_tuple_mul F.fills_int_mul
    F.slot_int_rmul repeat_tuple F.slot_int_index.lookup ?_
  refine call_meets F.slot_int_rmul (typeIs_int s k t) F.entry_int_rmul
    (F.args_int_rmul_2 _ _) (int_rmul_tuple k t l its.toArray n dd sl) ?_
  refine ⟨ho, rfl, ⟨_, ho, rfl⟩, ?_⟩
  refine call_meets F.slot_tuple_mul ⟨_, ho, rfl⟩ F.entry_tuple_mul
    (F.args_tuple_mul_2 _ _) mul ?_
  refine ⟨ho, ?_⟩
  rw [size_rep]
  have fresh := I.hok.fresh (Nat.le_refl s.heap.objs.size)
  refine ⟨.ref s.heap.objs.size, _, I.laid (t' := s.toks) (o := .tup (List.replicate k.toNat xs).flatten) (fun _ _ z => Heap.get?_push_of_some _ z) (Nat.le_refl _) ?_, rfl, q _ fresh⟩
  refine ⟨?_, _, r.rep k.toNat, IsTup.new _ _⟩
  rw [lm_len_rep_flat, sizeLine_eq]
  omega
end
end Bl
/-! Products of rows: their words, their number, how they lie in the heap. -/
namespace Bl
open PySem PySem.Spec PyProof.Rows L2 TL
theorem passX {P : Program} {w : World} {X : Cx} : Passes (L2.CX P w) X E0 := fun _ _ _ _ _ _ _ ⟨_, _, _, _, _, _, _, _, _, _, _, _, z⟩ => z.elim
/-! ### a comprehension with two walks -/
theorem lc_tup1 {K : PySem.W.Frag} {a : Addr} {xs : List V} {g : TG} {tt : TT} {te : TE} {vs : List Nat} {σ : L2.St} {H1 : Hp} {D : Addr} {Nx : Hp → Prop} (Pv : Nat → Hp → Prop) (h0 : Pv 0 H1) (hl : ∀ i H, i ≤ xs.length → Pv i H → SqT K H a xs)
    (hs : ∀ i x H, xs[i]? = some x → Pv i H → g x (wipe σ vs) H fun σ2 H2 => wipe σ2 vs = wipe σ vs ∧ tt σ2 H2 fun b H3 =>
      if b = true then te σ2 H3 fun y H4 => ∃ acc, H4 D = some (.lst acc) ∧ acc.length < sizeLine ∧ Pv (i + 1) (upd H4 D (.lst (acc ++ [y]))) else Pv (i + 1) H3) (hd : ∀ H, Pv xs.length H → Nx H) :
    ∃ W : Nat → Nat → Hp → Prop, (∃ m, W 0 m H1) ∧ ∀ i m H, W i m H →
      ((Itt K a).stop i H ∧ Nx H) ∨ ((Itt K a).go i H ∧ ∃ Nx1 : Hp → Prop, (∀ H', Nx1 H' → ∃ m', m' < m ∧ W (i + 1) m' H') ∧ ∀ x H', (Itt K a).yld i H x H' → g x (wipe σ vs) H' fun σ2 H2 => wipe σ2 vs = wipe σ vs ∧ tt σ2 H2 fun b H3 =>
        if b = true then te σ2 H3 fun y H4 => ∃ acc, H4 D = some (.lst acc) ∧ acc.length < sizeLine ∧ Nx1 (upd H4 D (.lst (acc ++ [y]))) else Nx1 H3) := by
  refine ⟨fun i m H => m = xs.length - i ∧ i ≤ xs.length ∧ Pv i H, ⟨xs.length, by simp, Nat.zero_le _, h0⟩, ?_⟩
  rintro i m H ⟨rfl, hi, p⟩
  have q := hl i H hi p
  by_cases hlt : i < xs.length
  · refine .inr ⟨⟨xs, xs[i], q, by simp [hlt]⟩, Pv (i + 1), fun H' p' => ⟨xs.length - (i + 1), by omega, rfl, hlt, p'⟩, fun x H' y => ?_⟩
    obtain ⟨e, y⟩ := y
    subst e
    exact hs i x _ (y xs q) p
  · have e : i = xs.length := by omega
    subst e
    exact .inl ⟨⟨xs, q, Nat.le_refl _⟩, hd H p⟩
/-- one row more behind -/
def addRow (ws r : List Str) : List Str := ws.flatMap fun w => r.map fun x => w ++ x
def prodW (rs : List (List Str)) : List Str := rs.foldl addRow [""]
def cnt (rs : List (List Str)) : Nat := rs.foldl (fun n r => n * r.length) 1
theorem addRow_len (ws r : List Str) : (addRow ws r).length = ws.length * r.length := by
  unfold addRow
  induction ws with
  | nil => simp
  | cons w ws ih =>
    rw [List.flatMap_cons, List.length_append, List.length_map, ih, List.length_cons, Nat.succ_mul]
    omega
theorem fold_len (rs : List (List Str)) : ∀ ws : List Str, (rs.foldl addRow ws).length = rs.foldl (fun n r => n * r.length) ws.length := by
  induction rs with
  | nil => intro ws; rfl
  | cons r rs ih =>
    intro ws
    rw [List.foldl_cons, List.foldl_cons, ih, addRow_len]
theorem prodW_len (rs : List (List Str)) : (prodW rs).length = cnt rs := fold_len rs [""]
theorem fold_mul (rs : List (List Str)) : ∀ n : Nat, rs.foldl (fun n r => n * r.length) n = n * cnt rs := by
  induction rs with
  | nil => intro n; exact (Nat.mul_one n).symm
  | cons r rs ih =>
    intro n
    unfold cnt
    rw [List.foldl_cons, List.foldl_cons, ih, ih (1 * r.length), Nat.one_mul, Nat.mul_assoc]
theorem cnt_app (a b : List (List Str)) : cnt (a ++ b) = cnt a * cnt b := by
  unfold cnt
  rw [List.foldl_append, fold_mul]
  rfl
theorem cnt_pos : ∀ {rs : List (List Str)}, (∀ r ∈ rs, 1 ≤ r.length) → 1 ≤ cnt rs
  | [], _ => Nat.le_refl _
  | r :: rs, h => by
    have e : cnt (r :: rs) = r.length * cnt rs := by
      have := cnt_app [r] rs
      rw [List.singleton_append] at this
      rw [this]
      show (1 * r.length) * cnt rs = _
      rw [Nat.one_mul]
    rw [e]
    exact Nat.mul_le_mul (h r List.mem_cons_self) (cnt_pos fun x hx => h x (List.mem_cons_of_mem _ hx))
theorem cnt_take {rs : List (List Str)} (h : ∀ r ∈ rs, 1 ≤ r.length) (i : Nat) : cnt (rs.take i) ≤ cnt rs := by
  have e := cnt_app (rs.take i) (rs.drop i)
  rw [List.take_append_drop] at e
  have p := cnt_pos (rs := rs.drop i) fun r hr => h r (List.mem_of_mem_drop hr)
  rw [e]
  exact Nat.le_mul_of_pos_right _ p
theorem cnt_more {rs : List (List Str)} {i : Nat} {r : List Str} (h : rs[i]? = some r) : cnt (rs.take (i + 1)) = cnt (rs.take i) * r.length := by
  rw [take_more h, cnt_app]
  show _ * (1 * r.length) = _
  rw [Nat.one_mul]
theorem prodW_more {rs : List (List Str)} {i : Nat} {r : List Str} (h : rs[i]? = some r) : prodW (rs.take (i + 1)) = addRow (prodW (rs.take i)) r := by
  unfold prodW
  rw [take_more h, List.foldl_append]
  rfl
/-- words of at most so many letters -/
def WdsOk (b : Nat) (ws : List Str) : Prop := ∀ x ∈ ws, Lets x ∧ x.length ≤ b
theorem addRow_ok {a b : Nat} {ws r : List Str} (h : WdsOk a ws) (k : WdsOk b r) : WdsOk (a + b) (addRow ws r) := fun x hx => by
  obtain ⟨w, hw, hx⟩ := List.mem_flatMap.mp hx
  obtain ⟨y, hy, rfl⟩ := List.mem_map.mp hx
  exact ⟨(h w hw).1.app (k y hy).1, by rw [len_app]; have := (h w hw).2; have := (k y hy).2; omega⟩
theorem fold_ok {b : Nat} : ∀ {rs : List (List Str)} {a : Nat} {ws : List Str}, WdsOk a ws → (∀ r ∈ rs, WdsOk b r) → WdsOk (a + rs.length * b) (rs.foldl addRow ws)
  | [], a, ws, h, _ => by simpa using h
  | r :: rs, a, ws, h, k => by
    have z := fold_ok (rs := rs) (a := a + b) (addRow_ok h (k r List.mem_cons_self)) fun x hx => k x (List.mem_cons_of_mem _ hx)
    rw [List.foldl_cons]
    have e : a + (r :: rs).length * b = a + b + rs.length * b := by
      rw [List.length_cons, Nat.succ_mul]
      omega
    rw [e]
    exact z
theorem one_ok : WdsOk 0 [""] := fun x hx => by
  rw [List.mem_singleton] at hx
  rw [hx]
  exact ⟨Lets.nil, by decide +kernel⟩
theorem prodW_ok {b : Nat} {rs : List (List Str)} (h : ∀ r ∈ rs, WdsOk b r) : WdsOk (rs.length * b) (prodW rs) := by
  have z := fold_ok one_ok h
  rwa [Nat.zero_add] at z
/-! ### in the heap -/
def RowAt (K : PySem.W.Frag) (H : Hp) (v : V) (ws : List Str) : Prop := ∃ p : Addr, v = .ref p ∧ SqT K H p (ws.map V.str)
inductive RowsAt (K : PySem.W.Frag) (H : Hp) : List V → List (List Str) → Prop
  | nil : RowsAt K H [] []
  | cons {v : V} {ws : List Str} {vs : List V} {rs : List (List Str)} : RowAt K H v ws → RowsAt K H vs rs → RowsAt K H (v :: vs) (ws :: rs)
section
variable {K : PySem.W.Frag} {H H' : Hp} {v : V} {vs us : List V} {ws : List Str} {rs ss : List (List Str)}
theorem RowAt.mono (h : RowAt K H v ws) (e : Same H H') : RowAt K H' v ws := let ⟨p, h1, h2⟩ := h; ⟨p, h1, same_t e h2⟩
theorem RowsAt.mono (h : RowsAt K H vs rs) (e : Same H H') : RowsAt K H' vs rs := by
  induction h with
  | nil => exact .nil
  | cons a _ ih => exact .cons (a.mono e) ih
theorem RowsAt.len (h : RowsAt K H vs rs) : vs.length = rs.length := by
  induction h with
  | nil => rfl
  | cons a _ ih => rw [List.length_cons, List.length_cons, ih]
theorem RowsAt.app (h : RowsAt K H vs rs) (k : RowsAt K H us ss) : RowsAt K H (vs ++ us) (rs ++ ss) := by
  induction h with
  | nil => exact k
  | cons a _ ih => exact .cons a ih
theorem RowsAt.at (h : RowsAt K H vs rs) : ∀ {i : Nat} {v : V}, vs[i]? = some v → ∃ ws, rs[i]? = some ws ∧ RowAt K H v ws := by
  induction h with
  | nil => intro i v e; cases i <;> cases e
  | cons a _ ih =>
    intro i v e
    cases i with
    | zero => cases e; exact ⟨_, rfl, a⟩
    | succ i => exact ih e
theorem RowsAt.get (h : RowsAt K H vs rs) : ∀ {i : Nat} {ws : List Str}, rs[i]? = some ws → ∃ v, vs[i]? = some v ∧ RowAt K H v ws := by
  induction h with
  | nil => intro i v e; cases i <;> cases e
  | cons a _ ih =>
    intro i v e
    cases i with
    | zero => cases e; exact ⟨_, rfl, a⟩
    | succ i => exact ih e
theorem RowsAt.take (h : RowsAt K H vs rs) : ∀ n, RowsAt K H (vs.take n) (rs.take n) := by
  induction h with
  | nil => intro n; cases n <;> exact .nil
  | cons a _ ih =>
    intro n
    cases n with
    | zero => exact .nil
    | succ n => exact .cons a (ih n)
theorem RowsAt.drop (h : RowsAt K H vs rs) : ∀ n, RowsAt K H (vs.drop n) (rs.drop n) := by
  induction h with
  | nil => intro n; cases n <;> exact .nil
  | cons a b ih =>
    intro n
    cases n with
    | zero => exact .cons a b
    | succ n => exact ih n
end
theorem mem_sum : ∀ {rs : List (List Str)} {r : List Str}, r ∈ rs → r.length ≤ (rs.map List.length).sum
  | [], _, h => by cases h
  | q :: rs, r, h => by
    rw [List.map_cons, List.sum_cons]
    rcases List.mem_cons.mp h with e | e
    · rw [e]; omega
    · have := mem_sum e
      omega
/-- what bounds a product: rows with words, letters, not too many in all -/
def wt (r : List Str) : Nat := szAll (r.map PyData.str)
def weight (rs : List (List Str)) : Nat := (rs.map wt).sum
structure Fit (rs : List (List Str)) : Prop where
  len : 1 ≤ rs.length ∧ rs.length ≤ 100
  row : ∀ r ∈ rs, 1 ≤ r.length ∧ WdsOk 4000 r
  sum : (rs.map List.length).sum ≤ 3000
  wt : weight rs ≤ 15000000
theorem sl_big {n : Nat} (h : n ≤ 10000000) : n ≤ sizeLine := Nat.le_trans h (by rw [sizeLine_eq]; decide)
theorem wt_mem : ∀ {rs : List (List Str)} {r : List Str}, r ∈ rs → wt r ≤ weight rs
  | [], _, h => by cases h
  | q :: rs, r, h => by
    have e : weight (q :: rs) = Bl.wt q + weight rs := by
      unfold weight
      rw [List.map_cons, List.sum_cons]
    rw [e]
    rcases List.mem_cons.mp h with e | e
    · rw [e]; omega
    · have := wt_mem e
      omega
theorem wds_dp {K : PySem.W.Frag} {H : Hp} : ∀ ws : List Str, DpAll K H (ws.map V.str) (ws.map PyData.str)
  | [] => .nil
  | x :: r => .cons (.str x) (wds_dp r)
theorem wds_sz {b : Nat} : ∀ ws : List Str, WdsOk b ws → szAll (ws.map PyData.str) ≤ ws.length * (10 * b + 4)
  | [], _ => Nat.zero_le _
  | x :: r, h => by
    have ih := wds_sz r fun y hy => h y (List.mem_cons_of_mem _ hy)
    have hx := (h x List.mem_cons_self).2
    show 10 * x.length + 2 + 2 + szAll (r.map PyData.str) ≤ (r.length + 1) * (10 * b + 4)
    have e : (r.length + 1) * (10 * b + 4) = r.length * (10 * b + 4) + (10 * b + 4) := Nat.succ_mul _ _
    omega
theorem wds_row {b : Nat} {ws : List Str} (h : WdsOk b ws) (h1 : 1 ≤ ws.length) : rowD (.tuple (ws.map PyData.str)) = true := by
  have e : rowD (.tuple (ws.map PyData.str)) = (!(ws.map PyData.str).isEmpty && (ws.map PyData.str).all wordD) := rfl
  rw [e, Bool.and_eq_true]
  constructor
  · cases ws with
    | nil => simp at h1
    | cons x r => rfl
  · rw [List.all_eq_true]
    intro d hd
    obtain ⟨x, hx, rfl⟩ := List.mem_map.mp hd
    exact word_iff.mpr (h x hx).1
theorem weight_le {b : Nat} : ∀ {rs : List (List Str)}, (∀ r ∈ rs, WdsOk b r) → weight rs ≤ (rs.map List.length).sum * (10 * b + 4)
  | [], _ => Nat.zero_le _
  | r :: rs, h => by
    have ih := weight_le (rs := rs) fun q hq => h q (List.mem_cons_of_mem _ hq)
    have z := wds_sz r (h r List.mem_cons_self)
    unfold weight
    rw [List.map_cons, List.sum_cons, List.map_cons, List.sum_cons, Nat.add_mul]
    exact Nat.add_le_add z ih
theorem row_gd {K : PySem.W.Frag} {H : Hp} {v : V} {ws : List Str} (h : RowAt K H v ws) (h1 : 1 ≤ ws.length) (h2 : WdsOk 4000 ws) (h3 : wt ws ≤ 15000000) : ∃ d, Gd K H v d ∧ sz d ≤ 16000000 ∧ rowD d = true := by
  obtain ⟨p, rfl, hp⟩ := h
  refine ⟨_, .inl (.tup hp (wds_dp ws)), ?_, wds_row h2 h1⟩
  show wt ws + 3 ≤ 16000000
  omega
theorem rows_gd {K : PySem.W.Frag} {H : Hp} {vs : List V} {rs : List (List Str)} (h : RowsAt K H vs rs) (hr : ∀ r ∈ rs, 1 ≤ r.length ∧ WdsOk 4000 r) : ∃ ds, DpAll K H vs ds ∧ ds.all rowD = true ∧ ds.length = rs.length ∧ szAll ds ≤ weight rs + rs.length * 5 := by
  induction h with
  | nil => exact ⟨[], .nil, rfl, rfl, Nat.zero_le _⟩
  | @cons v ws vs rs a _ ih =>
    obtain ⟨ds, q1, q2, q3, q4⟩ := ih fun r hr' => hr r (List.mem_cons_of_mem _ hr')
    obtain ⟨p, rfl, hp⟩ := a
    obtain ⟨h1, h2⟩ := hr ws List.mem_cons_self
    refine ⟨.tuple (ws.map PyData.str) :: ds, .cons (.tup hp (wds_dp ws)) q1, ?_, ?_, ?_⟩
    · rw [List.all_cons, q2, wds_row h2 h1]
      rfl
    · rw [List.length_cons, List.length_cons, q3]
    · show wt ws + 3 + 2 + szAll ds ≤ (wt ws + weight rs) + (rs.length + 1) * 5
      omega
theorem prod_gd {K : PySem.W.Frag} {H : Hp} {a : Addr} {vs : List V} {rs : List (List Str)} (ha : SqT K H a vs) (h : RowsAt K H vs rs) (f : Fit rs) : ∃ d, Gd K H (.ref a) d ∧ sz d ≤ 16000000 ∧ prodD d = true := by
  obtain ⟨ds, q1, q2, q3, q4⟩ := rows_gd h f.row
  have l := f.len
  have s := f.wt
  refine ⟨.tuple ds, .inl (.tup ha q1), ?_, ?_⟩
  · show szAll ds + 3 ≤ 16000000
    omega
  · have e2 : prodD (.tuple ds) = (!ds.isEmpty && ds.all rowD) := rfl
    rw [e2, q2, Bool.and_true]
    cases ds with
    | nil =>
      rw [List.length_nil] at q3
      omega
    | cons x r => rfl
end Bl
/-! The heap but for one object. -/
namespace Bl
open PySem PySem.Spec PyProof.Rows L2 TL
def mask (t : Addr) (H : Hp) : Hp := fun b => if b = t then none else H b
theorem mask_same (t : Addr) (H : Hp) : Same (mask t H) H := fun b o e => by
  unfold mask at e
  by_cases h : b = t
  · rw [if_pos h] at e
    cases e
  · rw [if_neg h] at e
    exact e
theorem mask_but {t : Addr} {H H' : Hp} (e : But t H H') : Same (mask t H) (mask t H') := fun b o q => by
  unfold mask at q ⊢
  by_cases h : b = t
  · rw [if_pos h] at q
    cases q
  · rw [if_neg h] at q ⊢
    exact e b o h q
theorem mask_at {t p : Addr} {H : Hp} {o : HO} (h : p ≠ t) (e : H p = some o) : mask t H p = some o := by
  unfold mask
  rw [if_neg h]
  exact e
theorem mask_t {K : PySem.W.Frag} {t q : Addr} {H : Hp} {n : Nat} {zs : List V} (hT : Tray H t n) (h : SqT K H q zs) : SqT K (mask t H) q zs := by
  obtain ⟨_, _, _, z, _⟩ := hT
  rcases h with h | h
  · rcases h with h | ⟨o, h⟩
    · refine .inl (.inl (mask_at ?_ h))
      rintro rfl
      rw [z] at h
      cases h
    · refine .inl (.inr ⟨o, mask_at ?_ h⟩)
      rintro rfl
      rw [z] at h
      cases h
  · exact .inr h
theorem tray_same {t : Addr} {n : Nat} {H H' : Hp} (h : Tray H t n) (e : Same H H') : Tray H' t n := by
  obtain ⟨a, b, c, h1, h2⟩ := h
  exact ⟨a, b, c, e t _ h1, h2⟩
theorem but_of {t : Addr} {H H' : Hp} (e : Same H H') : But t H H' := fun b o _ h => e b o h
theorem but_mask {t D : Addr} {H H' : Hp} (e : But D H H') : But D (mask t H) (mask t H') := fun b o n h => by
  unfold mask at h ⊢
  by_cases z : b = t
  · rw [if_pos z] at h
    cases h
  · rw [if_neg z] at h ⊢
    exact e b o n h
theorem mask_l {K : PySem.W.Frag} {D q : Addr} {H : Hp} {xs zs : List V} (hD : H D = some (.lst xs)) (h : SqT K H q zs) : SqT K (mask D H) q zs := by
  rcases h with h | h
  · rcases h with h | ⟨o, h⟩
    · refine .inl (.inl (mask_at ?_ h))
      rintro rfl
      rw [hD] at h
      cases h
    · refine .inl (.inr ⟨o, mask_at ?_ h⟩)
      rintro rfl
      rw [hD] at h
      cases h
  · exact .inr h
theorem sqt_upd {K : PySem.W.Frag} {D q : Addr} {H : Hp} {xs ys zs : List V} (hD : H D = some (.lst xs)) (h : SqT K H q zs) : SqT K (upd H D (.lst ys)) q zs := by
  rcases h with h | h
  · rcases h with h | ⟨o, h⟩
    · refine .inl (.inl ?_)
      rw [upd_ne]
      · exact h
      rintro rfl
      rw [hD] at h
      cases h
    · refine .inl (.inr ⟨o, ?_⟩)
      rw [upd_ne]
      · exact h
      rintro rfl
      rw [hD] at h
      cases h
  · exact .inr h
/-- one more row behind the rows of a list at D -/
theorem rows_snoc {K : PySem.W.Frag} {t D q : Addr} {H H' : Hp} {n : Nat} {rows : List V} {rs : List (List Str)} {ws : List Str} (hR : RowsAt K (mask D (mask t H)) rows rs) (B : But t H H') (nD : D ≠ t) (hD : H' D = some (.lst rows)) (hT : Tray H' t n) (hq : SqT K H' q (ws.map V.str)) :
    RowsAt K (mask D (mask t (upd H' D (.lst (rows ++ [.ref q]))))) (rows ++ [.ref q]) (rs ++ [ws]) := by
  have M : Same (mask D (mask t H)) (mask D (mask t (upd H' D (.lst (rows ++ [.ref q]))))) := (mask_but (but_of (mask_but B))).trans (mask_but (but_mask But.set))
  refine (hR.mono M).app (.cons ⟨q, rfl, ?_⟩ .nil)
  exact mask_l (mask_at nD upd_same) (mask_t (hT.of (upd_ne nD.symm)) (sqt_upd hD hq))
theorem at_last {xs : List V} {v : V} : atI (xs ++ [v]) (-1) = some v := by
  have e : ixN (xs ++ [v]).length (-1) = some xs.length := by
    unfold ixN
    rw [if_neg (by decide), if_pos (by rw [List.length_append]; show -((xs.length + 1 : Nat) : Int) ≤ -1; omega)]
    congr 1
    rw [List.length_append]
    show (-1 + ((xs.length + 1 : Nat) : Int)).toNat = xs.length
    omega
  unfold atI
  rw [e]
  show (xs ++ [v])[xs.length]? = some v
  rw [List.getElem?_append_right (Nat.le_refl _), Nat.sub_self]
  rfl
end Bl
/-! Lists and tuples of words: how long their text is, that they are equal to themselves. -/
namespace Bl
open PySem PySem.Spec PyProof.Rows L2 TL
theorem chr34 : ∀ k < 26, (Builtin.Str.reprChar 34 (97 + k)).length = 1 := by decide +kernel
theorem chr39 : ∀ k < 26, (Builtin.Str.reprChar 39 (97 + k)).length = 1 := by decide +kernel
theorem chr_len {q c : Nat} (hq : q = 34 ∨ q = 39) (h : 97 ≤ c ∧ c ≤ 122) : (Builtin.Str.reprChar q c).length = 1 := by
  have e : c = 97 + (c - 97) := by omega
  rw [e]
  rcases hq with rfl | rfl
  · exact chr34 _ (by omega)
  · exact chr39 _ (by omega)
theorem fold_chr {q : Nat} (hq : q = 34 ∨ q = 39) : ∀ (l : List Nat) (n : Nat), (∀ c ∈ l, 97 ≤ c ∧ c ≤ 122) → l.foldl (fun n c => n + (Builtin.Str.reprChar q c).length) n = n + l.length
  | [], n, _ => rfl
  | c :: r, n, h => by
    rw [List.foldl_cons, chr_len hq (h c List.mem_cons_self), fold_chr hq r (n + 1) fun d hd => h d (List.mem_cons_of_mem _ hd), List.length_cons]
    omega
theorem lets_repr {x : Str} (h : Lets x) : (reprText x).length = x.length + 2 := by
  have hq : reprQuote x = 34 ∨ reprQuote x = 39 := by
    unfold reprQuote
    split
    · exact .inl rfl
    · exact .inr rfl
  rw [← reprLen_eq, ← Array.foldl_toList, fold_chr hq _ _ h]
  show 2 + x.cps.toList.length = x.cps.size + 2
  rw [Array.length_toList]
  omega
theorem strOk_lets {x : Str} (h : Lets x) : PyData.strOk x = true := by
  unfold PyData.strOk
  rw [← Array.all_toList, List.all_eq_true]
  intro c hc
  have := h c hc
  exact decide_eq_true (by omega)
mutual
def szP : PyData → Nat
  | .str x => x.length + 2
  | .list ds => szPs ds + 3
  | .tuple ds => szPs ds + 3
  | _ => 0
def szPs : List PyData → Nat
  | [] => 0
  | d :: ds => szP d + 2 + szPs ds
end
mutual
def okP : PyData → Prop
  | .str x => Lets x
  | .list ds => okPs ds
  | .tuple ds => okPs ds
  | _ => False
def okPs : List PyData → Prop
  | [] => True
  | d :: ds => okP d ∧ okPs ds
end
mutual
theorem showP : ∀ d : PyData, okP d → d.shown.length ≤ szP d ∧ d.showable = true ∧ d.canLay0 = true
  | .str x, h => ⟨Nat.le_of_eq (lets_repr h), rfl, strOk_lets h⟩
  | .list ds, h => by
    obtain ⟨h1, h2, h3⟩ := showPs ds h
    have q := listText_len_le (PyData.shownAll ds)
    refine ⟨?_, h2, h3⟩
    show (listText (PyData.shownAll ds)).length ≤ szPs ds + 3
    omega
  | .tuple ds, h => by
    obtain ⟨h1, h2, h3⟩ := showPs ds h
    have q := tupleText_len_le (PyData.shownAll ds)
    refine ⟨?_, h2, h3⟩
    show (tupleText (PyData.shownAll ds)).length ≤ szPs ds + 3
    omega
  | .none, h => h.elim
  | .bool _, h => h.elim
  | .int _, h => h.elim
  | .dict _, h => h.elim
theorem showPs : ∀ ds : List PyData, okPs ds → ((PyData.shownAll ds).map (·.length)).sum + 2 * (PyData.shownAll ds).length ≤ szPs ds ∧ PyData.showableAll ds = true ∧ PyData.canLayAll0 ds = true
  | [], _ => ⟨Nat.le_refl _, rfl, rfl⟩
  | d :: ds, h => by
    obtain ⟨h1, h2⟩ : okP d ∧ okPs ds := h
    obtain ⟨a1, a2, a3⟩ := showP d h1
    obtain ⟨b1, b2, b3⟩ := showPs ds h2
    refine ⟨?_, ?_, ?_⟩
    · show ((d.shown :: PyData.shownAll ds).map (·.length)).sum + 2 * (d.shown :: PyData.shownAll ds).length ≤ szP d + 2 + szPs ds
      rw [List.map_cons, List.sum_cons, List.length_cons]
      omega
    · show (d.showable && PyData.showableAll ds) = true
      rw [a2, b2]
      rfl
    · show (d.canLay0 && PyData.canLayAll0 ds) = true
      rw [a3, b3]
      rfl
end
theorem selfP {d : PyData} (h : okP d) (h2 : d.depth ≤ 64) : SeqAt.shaped d = true ∧ PyData.eqv d d = true := by
  obtain ⟨_, _, a3⟩ := showP d h
  refine ⟨?_, SeqAt.eqv_refl d a3⟩
  unfold SeqAt.shaped
  rw [a3, decide_eq_true h2]
  rfl
/-- a row of words as data -/
def rowT (ws : List Str) : PyData := .tuple (ws.map PyData.str)
theorem wds_okP {b : Nat} : ∀ {ws : List Str}, WdsOk b ws → okPs (ws.map PyData.str)
  | [], _ => trivial
  | x :: r, h => ⟨(h x List.mem_cons_self).1, wds_okP fun y hy => h y (List.mem_cons_of_mem _ hy)⟩
theorem wds_szP {b : Nat} : ∀ {ws : List Str}, WdsOk b ws → szPs (ws.map PyData.str) ≤ ws.length * (b + 4)
  | [], _ => Nat.zero_le _
  | x :: r, h => by
    have ih := wds_szP (ws := r) fun y hy => h y (List.mem_cons_of_mem _ hy)
    have hx := (h x List.mem_cons_self).2
    show x.length + 2 + 2 + szPs (r.map PyData.str) ≤ (r.length + 1) * (b + 4)
    have e : (r.length + 1) * (b + 4) = r.length * (b + 4) + (b + 4) := Nat.succ_mul _ _
    omega
theorem wds_depth : ∀ ws : List Str, PyData.depthAll (ws.map PyData.str) ≤ 0
  | [] => Nat.le_refl _
  | x :: r => by
    have ih := wds_depth r
    show max 0 (PyData.depthAll (r.map PyData.str)) ≤ 0
    omega
theorem rowT_okP {b : Nat} {ws : List Str} (h : WdsOk b ws) : okP (rowT ws) ∧ szP (rowT ws) ≤ ws.length * (b + 4) + 3 ∧ (rowT ws).depth ≤ 1 := by
  have z := wds_szP h
  have dp := wds_depth ws
  refine ⟨wds_okP h, ?_, ?_⟩
  · show szPs (ws.map PyData.str) + 3 ≤ _
    omega
  · show PyData.depthAll (ws.map PyData.str) + 1 ≤ 1
    omega
theorem rowT_dp {K : PySem.W.Frag} {H : Hp} {p : Addr} {ws : List Str} (h : SqT K H p (ws.map V.str)) : Dp K H (.ref p) (rowT ws) := .tup h (wds_dp ws)
/-- products as data -/
theorem rows_P {K : PySem.W.Frag} {H : Hp} {b : Nat} {vs : List V} {rs : List (List Str)} (h : RowsAt K H vs rs) (hr : ∀ r ∈ rs, WdsOk b r) : DpAll K H vs (rs.map rowT) ∧ okPs (rs.map rowT) ∧ szPs (rs.map rowT) ≤ (rs.map List.length).sum * (b + 4) + rs.length * 5 ∧ PyData.depthAll (rs.map rowT) ≤ 1 := by
  induction h with
  | nil => exact ⟨.nil, trivial, Nat.zero_le _, Nat.zero_le _⟩
  | @cons v ws vs rs a _ ih =>
    obtain ⟨q1, q2, q3, q4⟩ := ih fun r hr' => hr r (List.mem_cons_of_mem _ hr')
    obtain ⟨p, rfl, hp⟩ := a
    obtain ⟨o1, o2, o3⟩ := rowT_okP (hr ws List.mem_cons_self)
    refine ⟨.cons (rowT_dp hp) q1, ⟨o1, q2⟩, ?_, ?_⟩
    · show szP (rowT ws) + 2 + szPs (rs.map rowT) ≤ (ws.length + (rs.map List.length).sum) * (b + 4) + (rs.length + 1) * 5
      rw [Nat.add_mul]
      omega
    · show max (rowT ws).depth (PyData.depthAll (rs.map rowT)) ≤ 1
      omega
section
variable {X : Cx}
/-- repr of lists and tuples of words -/
def rReprP (K : PySem.W.Frag) : List V → Hp → VK → Prop := fun xs H Q => ∃ (a : Addr) (d : PyData), xs = [.ref a] ∧ Dp K H (.ref a) d ∧ okP d ∧ szP d ≤ 16000000 ∧ d.depth ≤ 40 ∧ Q (.str d.shown) H
theorem call_reprP (hg : X.A.guards = some []) (hu : X.A.units + 64 < cLine) : CallR X (.builtin "repr") (rReprP X.K) := by
  intro pins s σ H xs us Q I r h
  obtain ⟨a, d, rfl, hd, ok, hz, hdp, q⟩ := h
  obtain ⟨u, rfl, ru⟩ := vals1 r
  obtain ⟨l1, l2, _⟩ := showP d ok
  have hl : d.shown.length ≤ sizeLine := by
    rw [sizeLine_eq]
    omega
  obtain ⟨as, rd⟩ := Dp.reads I d (.ref a) u hd ru
  cases ru
  refine repr_of_reads' rd l2 (PyData.noDict_hsm (dp_hasNo d _ hd)) hg (by omega) (fun _ _ z => z) (fun h' w tk k => ?_) hl
  exact ⟨.str d.shown, H, I.kept (t' := tk) k, ⟨_, rfl⟩, q⟩
end
end Bl
set_option maxHeartbeats 4000000
/-! A tuple times one is the tuple itself. -/
namespace Bl
open PySem PySem.Spec PyProof.Rows L2 TL
theorem tuple_mul1 (l : Addr) (items : Array Value) (n : Nat) (dd : Option Addr) (sl : Array (Option Value)) (x : Int) (u : Tok) (c0 : (decide (x < -(2 ^ 63)) || decide (x ≥ 2 ^ 63)) = false) (c1 : (items.isEmpty || x == 1) = true) :
    Meets (Builtin.«tuple.__mul__» ⟨[.ref l, .int x u], []⟩) (fun _ R s => s.heap.get? l = some { cls := .type "tuple", dict := dd, data := .seq items n, slots := sl } ∧ R (.ok (.ret (Value.ref l))) s) :=
  .of_wp fun prog w A R s h => by
    obtain ⟨hp, g, d, tk, os⟩ := s
    obtain ⟨hl, h⟩ := h
    have f1 := AutoSeq1.idx_int
    wp_walk using wpAny_loadPart' hl
    repeat (first
      | (refine wpAny_ite_false (decide_eq_false (by rw [c0]; exact Bool.false_ne_true)) ?_; wp_walk using wpAny_loadPart' hl)
      | (refine wpAny_ite_true (decide_eq_true (by rw [c1])) ?_; wp_walk using wpAny_loadPart' hl))
    exact ⟨_, rfl, h⟩
section
variable {X : Cx}
/-- tuple * int, wherever the new tuple comes to lie -/
def rRepN (K : PySem.W.Frag) : R2 := fun x y H Q => ∃ (l : Addr) (k : Int) (xs : List V), x = .ref l ∧ y = .int k ∧ SqT K H l xs ∧ xs ≠ [] ∧ 1 ≤ k ∧ k ≤ 4000 ∧ xs.length ≤ 1000 ∧ ∀ q H', Same H H' → SqT K H' q (List.replicate k.toNat xs).flatten → Q (.ref q) H'
theorem op_repN : OpR X (binaryOp .Mult) (rRepN X.K) := by
  intro pins s σ H x y v u Q I rx ry h
  obtain ⟨l, k, xs, rfl, rfl, hT, hne, h1, h2, hz, q⟩ := h
  by_cases hk : k = 1
  · subst hk
    cases rx
    obtain ⟨t, rfl⟩ := ry
    have z := I.tuple hT
    obtain ⟨its, r, ⟨⟨cls, dd, data, sl⟩, ho, hc, n, hd⟩, hs⟩ := z
    simp only at hc hd
    subst hc hd
    have w0 : (decide ((1 : Int) < -(2 ^ 63)) || decide ((1 : Int) ≥ 2 ^ 63)) = false := by decide
    have w1 : (its.toArray.isEmpty || (1 : Int) == 1) = true := by simp
    refine wpAny_binaryOp_repeat_ref (T := "tuple") (U := "int") (by decide) ⟨_, ho, rfl⟩
      (fun s2 => typeIs_int s2 1 t) noFill_tuple_mul F.fills_int_mul
      F.slot_int_rmul repeat_tuple F.slot_int_index.lookup ?_
    refine call_meets F.slot_int_rmul (typeIs_int s 1 t) F.entry_int_rmul
      (F.args_int_rmul_2 _ _) (int_rmul_tuple 1 t l its.toArray n dd sl) ?_
    refine ⟨ho, rfl, ⟨_, ho, rfl⟩, ?_⟩
    refine call_meets F.slot_tuple_mul ⟨_, ho, rfl⟩ F.entry_tuple_mul
      (F.args_tuple_mul_2 _ _) (tuple_mul1 l its.toArray n dd sl 1 t w0 w1) ?_
    refine ⟨ho, ?_⟩
    refine ⟨.ref l, H, I, rfl, q l H (Same.refl H) ?_⟩
    have e : (List.replicate (1 : Int).toNat xs).flatten = xs := by
      show (List.replicate 1 xs).flatten = xs
      simp
    rw [e]
    exact hT
  · exact op_repB pins s σ H _ _ v u Q I rx ry ⟨l, k, xs, rfl, rfl, hT, hne, by omega, h2, hz, fun p hp => q p _ (same_new hp) (SqT.of upd_same)⟩
end
end Bl
namespace K2
open PySem PySem.Spec PyProof.Rows L2 TL Bl
def top (i : Nat) : Stmt := PySem.Challenge.pw_braceloops_k02_rows_multiplied.main.body.getD i (.Pass ⟨0, 0, 0, 0⟩)
abbrev sIsWord : Stmt := top 6
abbrev sIsRow : Stmt := top 9
abbrev sIsProd : Stmt := top 10
abbrev sCkRow : Stmt := top 11
abbrev sCkProd : Stmt := top 12
abbrev sSize : Stmt := top 13
abbrev sAll : Stmt := top 14
abbrev sMul : Stmt := top 15
abbrev sWrit : Stmt := top 16
abbrev sTray : Stmt := top 18
abbrev sTake : Stmt := top 19
abbrev sLetters : Stmt := top 20
abbrev sRow : Stmt := top 21
abbrev sWords : Stmt := top 22
abbrev sMuld : Stmt := top 23
abbrev sLimit : Stmt := top 24
abbrev sRows : Stmt := top 25
abbrev sOne : Stmt := top 26
abbrev sLong : Stmt := top 27
abbrev sRight : Stmt := top 28
abbrev sLaw : Stmt := top 29
abbrev sTooMany : Stmt := top 4
structure Names (mg : Str → Option Value) : Prop where
  isi : mg "isinstance" = none
  str : mg "str" = none
  tuple : mg "tuple" = none
  len : mg "len" = none
  min : mg "min" = none
  max : mg "max" = none
  abs : mg "abs" = none
  range : mg "range" = none
  repr : mg "repr" = none
  all : mg "all" = none
  int : mg "int" = none
section
variable {P : Program} {w : World} {K : PySem.W.Frag} {mg : Str → Option Value} {base : Heap}
def spWord (K : PySem.W.Frag) : Sp := fun vs H Q _ => ∃ (v : V) (d : PyData), vs = [v] ∧ Gd K H v d ∧ Q (.bl (wordD d)) H
theorem scIsWord : FnScope ["value"] ["value"] (defScope sIsWord) := ⟨rfl, rfl, rfl, by decide +kernel, rfl, by decide +kernel, by decide +kernel⟩
theorem empty_iff {x : Str} : x = ("" : Str) ↔ x.length = 0 := by
  constructor
  · rintro rfl
    rfl
  · intro h
    apply ext_tl
    rw [len_tl] at h
    exact List.eq_nil_of_length_eq_zero h
theorem ok_isWord {f : Addr} {fd : FuncData} (F : Fun K "is_word" "is_word" sIsWord f fd) (T : Names mg) : FnOk P w K mg base CX0 1 f fd ["value"] (spWord K) := by
  refine F.ok scIsWord (fun vs H Q E h => ?_) (fun cdv A outer s H vs Q E hr h => ?_)
  · obtain ⟨v, d, rfl, _⟩ := h
    rfl
  · obtain ⟨v, d, rfl, hd, k⟩ := h
    refine ⟨_, pss_cons (ps_if (pt_not (pt_val (pe_callB call_isi (by rfl) T.isi boot_isinstance (pa_cons (pv 0) (pa_cons (pe_bltn (v := .ty "str") (by rfl) T.str PyProof.Rows.boot_str rfl) pa_nil))))) (pss_one (ps_ret pe_bl)) pss_nil)
      (pss_one (ps_ret (pe_or (pe_cmpR op_eq (pv 0) pe_str (nomark _)) (pe_one (pe_and (pe_m0 PySem.F.slot_str_isascii PySem.F.type_str_isascii mt_isascii (pv 0))
        (pe_and (pe_m0 PySem.F.slot_str_isalpha PySem.F.type_str_isalpha mt_isalpha (pv 0)) (pe_one (pe_m0 PySem.F.slot_str_islower PySem.F.type_str_islower mt_islower (pv 0))))))))), ?_⟩
    refine ⟨_, rfl, _, .ty "str", _, _, isS d, rfl, .ty "str", ty_of hd, kit_ty (kit_s d), isS d, rfl, ?_⟩
    cases e : isS d with
    | false =>
      refine iteT ?_
      have ew : wordD d = false := by
        cases d <;> first | rfl | exact absurd e (by simp [isS])
      rw [ew] at k
      exact k
    | true =>
      refine iteF ?_
      obtain ⟨x, rfl, rfl⟩ := str_of hd e
      have k : Q (.bl (wordB x)) H := k
      unfold wordB at k
      refine ⟨_, rfl, rfl, _, rfl, ?_⟩
      by_cases e0 : x = ("" : Str)
      · have h0 : (x.length == 0) = true := by rw [empty_iff.mp e0]; rfl
        rw [h0] at k
        rw [decide_eq_true (congrArg V.str e0)]
        exact iteT k
      · have e' : ¬ V.str x = V.str "" := fun z => e0 (V.str.inj z)
        have h0 : (x.length == 0) = false := beq_eq_false_iff_ne.mpr fun z => e0 (empty_iff.mpr z)
        rw [h0, Bool.false_or] at k
        rw [decide_eq_false e']
        refine iteF ⟨_, rfl, ⟨x, rfl⟩, x, rfl, rfl, trivial, _, rfl, ?_⟩
        cases e1 : Txt.isascii x with
        | false =>
          rw [e1] at k
          exact iteF k
        | true =>
          rw [e1, Bool.true_and] at k
          refine iteT ⟨_, rfl, ⟨x, rfl⟩, x, rfl, rfl, trivial, _, rfl, ?_⟩
          cases e2 : Txt.isalpha x with
          | false =>
            rw [e2] at k
            exact iteF k
          | true =>
            rw [e2, Bool.true_and] at k
            exact iteT ⟨_, rfl, ⟨x, rfl⟩, x, rfl, rfl, trivial, k⟩

/-! ### is_row, is_product -/
def spRowB (K : PySem.W.Frag) (g : PyData → Bool) : Sp := fun vs H Q _ => ∃ (v : V) (d : PyData), vs = [v] ∧ Gd K H v d ∧ sz d ≤ 16000000 ∧ ∀ H', Same H H' → Q (.bl (g d)) H'
theorem scIsRow : FnScope ["value", "word"] ["value"] (defScope sIsRow) := ⟨rfl, rfl, rfl, by decide +kernel, rfl, by decide +kernel, by decide +kernel⟩
theorem all_id (g : PyData → Bool) (ds : List PyData) : (ds.map g).all id = ds.all g := by
  rw [List.all_map]
  rfl
theorem ok_isRow {f i : Addr} {fd id : FuncData} (F : Fun K "is_row" "is_row" sIsRow f fd) (T : Names mg) (I : Fun K "is_word" "is_word" sIsWord i id) (mI : mg "is_word" = some (.ref i)) (bI : Binds K id ["value"] []) :
    FnOk P w K mg base CX0 2 f fd ["value"] (spRowB K rowD) := by
  refine F.ok scIsRow (fun vs H Q E h => ?_) (fun cdv A outer s H vs Q E hr h => ?_)
  · obtain ⟨v, d, rfl, _⟩ := h
    rfl
  · obtain ⟨v, d, rfl, hd, hz, k⟩ := h
    refine ⟨_, pss_cons (ps_if (PW.pt (pw_or (pt_not (pt_val (pe_callB call_isi (by rfl) T.isi boot_isinstance (pa_cons (pv 0) (pa_cons (pe_bltn (v := .ty "tuple") (by rfl) T.tuple (by decide +kernel) rfl) pa_nil)))))
        (pw_or1 (pt_cmpR op_eq (pe_callB call_len_seq (by rfl) T.len PySem.boot_len (pa_cons (pv 0) pa_nil)) pe_int (nomark _))))) (pss_one (ps_ret pe_bl)) pss_nil)
      (pss_one (ps_ret (pe_callB (cr_all rfl) (by rfl) T.all (by decide +kernel) (pa_cons (pe_lc (own := [("word", 1)]) (g := gName 1) (tt := tYes) rfl scIsRow.nd (pi_tup (pv 0))
        (blkOk_by (N := ["value", "word"]) (sc := defScope sIsRow) (by decide +kernel)) (fun _ _ _ _ _ => pg_name (i := 1) scIsRow.nd rfl (Or.inl rfl)) (fun _ _ _ _ _ => pts_nil)
        (fun _ _ _ _ _ => pe_call (ok_isWord I T) hr (by rfl) mI I.kp bI .nil pass0 (pa_cons (pv 1) pa_nil))) pa_nil)))), ?_⟩
    refine ⟨_, rfl, _, .ty "tuple", _, _, isT d, rfl, .ty "tuple", ty_of hd, kit_ty (kit_t d), isT d, rfl, ?_⟩
    cases e : isT d with
    | false =>
      refine iteT (iteT ?_)
      have ew : rowD d = false := by
        cases d <;> first | rfl | exact absurd e (by simp [isT])
      rw [ew] at k
      exact k H (Same.refl H)
    | true =>
      refine iteF ?_
      obtain ⟨a, xs, ds, rfl, rfl, hT, hA⟩ := tup_of hd e
      have hlen := hA.len
      refine ⟨_, rfl, a, xs, rfl, .inr hT, rfl, _, rfl, ?_⟩
      have k : ∀ H', Same H H' → Q (.bl (!ds.isEmpty && ds.all wordD)) H' := k
      refine ite2 (fun c => ?_) (fun c => ?_)
      · have hx : xs.length = 0 := by
          have := V.int.inj (of_decide_eq_true c)
          omega
        have hd0 : ds = [] := List.eq_nil_of_length_eq_zero (by omega)
        subst hd0
        exact k H (Same.refl H)
      · have hd0 : ds.isEmpty = false := by
          cases ds with
          | nil => exact absurd (decide_eq_true (by rw [hlen]; rfl)) c
          | cons x r => rfl
        rw [hd0] at k
        have hsz : 2 * ds.length ≤ 16000000 := by
          have h1 := sz_len ds
          have h2 : szAll ds + 3 ≤ 16000000 := hz
          omega
        refine ⟨_, rfl, a, rfl, ⟨xs, hT⟩, fun D hD => lc_tup (xs := xs) (fun j H' => Same H H' ∧ H' D = some (.lst (((ds.take j).map wordD).map V.bl))) ⟨same_new hD, by simp [upd_same]⟩ (fun j H' _ p => same_t p.1 hT) ?_ ?_⟩
        · rintro j x H' hx ⟨S1, h1⟩
          obtain ⟨d, e1, e2⟩ := gd_same hA S1 hx
          have hj : j < ds.length := (List.getElem?_eq_some_iff.mp e1).1
          refine ⟨rfl, ?_⟩
          refine ⟨_, rfl, x, d, rfl, e2, _, h1, ?_, same_d hD S1, ?_⟩
          · rw [List.length_map, List.length_map, List.length_take, sizeLine_eq]
            omega
          · rw [take_more e1, List.map_append, List.map_append]
            exact upd_same
        · rintro H' ⟨S1, h1⟩
          rw [hlen, List.take_length] at h1
          refine ⟨D, ds.map wordD, rfl, SqL.of h1, ?_⟩
          rw [all_id]
          exact k H' S1
theorem scIsProd : FnScope ["value", "row"] ["value"] (defScope sIsProd) := ⟨rfl, rfl, rfl, by decide +kernel, rfl, by decide +kernel, by decide +kernel⟩
theorem ok_isProd {f r i : Addr} {fd rd id : FuncData} (F : Fun K "is_product" "is_product" sIsProd f fd) (T : Names mg) (R : Fun K "is_row" "is_row" sIsRow r rd) (mR : mg "is_row" = some (.ref r)) (bR : Binds K rd ["value"] [])
    (I : Fun K "is_word" "is_word" sIsWord i id) (mI : mg "is_word" = some (.ref i)) (bI : Binds K id ["value"] []) : FnOk P w K mg base CX0 3 f fd ["value"] (spRowB K prodD) := by
  refine F.ok scIsProd (fun vs H Q E h => ?_) (fun cdv A outer s H vs Q E hr h => ?_)
  · obtain ⟨v, d, rfl, _⟩ := h
    rfl
  · obtain ⟨v, d, rfl, hd, hz, k⟩ := h
    refine ⟨_, pss_cons (ps_if (PW.pt (pw_or (pt_not (pt_val (pe_callB call_isi (by rfl) T.isi boot_isinstance (pa_cons (pv 0) (pa_cons (pe_bltn (v := .ty "tuple") (by rfl) T.tuple (by decide +kernel) rfl) pa_nil)))))
        (pw_or1 (pt_cmpR op_eq (pe_callB call_len_seq (by rfl) T.len PySem.boot_len (pa_cons (pv 0) pa_nil)) pe_int (nomark _))))) (pss_one (ps_ret pe_bl)) pss_nil)
      (pss_one (ps_ret (pe_callB (cr_all rfl) (by rfl) T.all (by decide +kernel) (pa_cons (pe_lc (own := [("row", 1)]) (g := gName 1) (tt := tYes) rfl scIsProd.nd (pi_tup (pv 0))
        (blkOk_by (N := ["value", "row"]) (sc := defScope sIsProd) (by decide +kernel)) (fun _ _ _ _ _ => pg_name (i := 1) scIsProd.nd rfl (Or.inl rfl)) (fun _ _ _ _ _ => pts_nil)
        (fun _ _ _ _ _ => pe_call (ok_isRow R T I mI bI) hr (by rfl) mR R.kp bR .nil pass0 (pa_cons (pv 1) pa_nil))) pa_nil)))), ?_⟩
    refine ⟨_, rfl, _, .ty "tuple", _, _, isT d, rfl, .ty "tuple", ty_of hd, kit_ty (kit_t d), isT d, rfl, ?_⟩
    cases e : isT d with
    | false =>
      refine iteT (iteT ?_)
      have ew : prodD d = false := by
        cases d <;> first | rfl | exact absurd e (by simp [isT])
      rw [ew] at k
      exact k H (Same.refl H)
    | true =>
      refine iteF ?_
      obtain ⟨a, xs, ds, rfl, rfl, hT, hA⟩ := tup_of hd e
      have hlen := hA.len
      refine ⟨_, rfl, a, xs, rfl, .inr hT, rfl, _, rfl, ?_⟩
      have k : ∀ H', Same H H' → Q (.bl (!ds.isEmpty && ds.all rowD)) H' := k
      refine ite2 (fun c => ?_) (fun c => ?_)
      · have hx : xs.length = 0 := by
          have := V.int.inj (of_decide_eq_true c)
          omega
        have hd0 : ds = [] := List.eq_nil_of_length_eq_zero (by omega)
        subst hd0
        exact k H (Same.refl H)
      · have hd0 : ds.isEmpty = false := by
          cases ds with
          | nil => exact absurd (decide_eq_true (by rw [hlen]; rfl)) c
          | cons x r => rfl
        rw [hd0] at k
        have h2 : szAll ds + 3 ≤ 16000000 := hz
        have hsz : 2 * ds.length ≤ 16000000 := by
          have h1 := sz_len ds
          omega
        refine ⟨_, rfl, a, rfl, ⟨xs, hT⟩, fun D hD => lc_tup (xs := xs) (fun j H' => Same H H' ∧ H' D = some (.lst (((ds.take j).map rowD).map V.bl))) ⟨same_new hD, by simp [upd_same]⟩ (fun j H' _ p => same_t p.1 hT) ?_ ?_⟩
        · rintro j x H' hx ⟨S1, h1⟩
          obtain ⟨d, e1, e2⟩ := gd_same hA S1 hx
          have hj : j < ds.length := (List.getElem?_eq_some_iff.mp e1).1
          have hm := sz_mem (List.mem_of_getElem? e1)
          refine ⟨rfl, ?_⟩
          refine ⟨_, rfl, x, d, rfl, e2, by omega, fun H2 S2 => ⟨_, S2 D _ h1, ?_, same_d hD (S1.trans S2), ?_⟩⟩
          · rw [List.length_map, List.length_map, List.length_take, sizeLine_eq]
            omega
          · rw [take_more e1, List.map_append, List.map_append]
            exact upd_same
        · rintro H' ⟨S1, h1⟩
          rw [hlen, List.take_length] at h1
          refine ⟨D, ds.map rowD, rfl, SqL.of h1, ?_⟩
          rw [all_id]
          exact k H' S1
end
end K2
namespace K2
open PySem PySem.Spec PyProof.Rows L2 TL Bl
section
variable {P : Program} {w : World} {K : PySem.W.Frag} {mg : Str → Option Value} {base : Heap}
/-! ### _law_tray -/
def spTray (K : PySem.W.Frag) : Sp := fun vs H Q _ => ∃ (a : Addr) (ns : List Int) (i : Nat), vs = [.ref a, .int i] ∧ SqL K H a (ns.map V.int) ∧ ns.length ≤ 100000 ∧ i ≤ 1000 ∧ ∀ p H', H p = none → Tray H' p 0 → (∀ b o, H b = some o → H' b = some o) → Q (.ref p) H'
theorem scTray : FnScope ["script", "at", "cell"] ["script", "at"] (defScope sTray) := ⟨rfl, rfl, rfl, by decide +kernel, rfl, by decide +kernel, by decide +kernel⟩
theorem ok_tray {f : Addr} {fd : FuncData} (F : Fun K "_law_tray" "_law_tray" sTray f fd) (T : Names mg) : FnOk P w K mg base CX0 1 f fd ["script", "at"] (spTray K) := by
  refine F.ok scTray (fun vs H Q E h => ?_) (fun cdv A outer s H vs Q E hr h => ?_)
  · obtain ⟨a, ns, i, rfl, _⟩ := h
    rfl
  · obtain ⟨a, ns, i, rfl, hS, hl, hi, k⟩ := h
    refine ⟨_, Evl.pss_cut (ps_set (i := 2) scTray.nd rfl (Or.inl rfl) (pe_ifExp (pt_cmpR op_lt (pv 1) (pe_callB call_len_seq (by rfl) T.len PySem.boot_len (pa_cons (pv 0) pa_nil)) (nomark _)) (pe_ix ix_list (pv 0) (pv 1) (fun _ _ => rfl)) pe_int))
      (pss_one (ps_ret (pe_lst (pa_cons (pe_callB (call_max2 rfl) (by rfl) T.max boot_max (pa_cons pe_int (pa_cons (pe_op op_sub (pe_callB call_abs (by rfl) T.abs boot_abs (pa_cons (pv 2) pa_nil)) (pe_op op_pow pe_int pe_int)) pa_nil)))
        (pa_cons (pe_op op_add (pe_op op_add (pe_op op_mul (pe_op op_mod (pv 2) (pe_op op_add (pe_op op_pow pe_int pe_int) pe_int)) pe_int) (pe_op op_mul pe_int (pv 1))) pe_int) (pa_cons pe_int pa_nil)))))), ?_⟩
    refine ⟨fun σ H' => H' = H ∧ ∃ z : Int, σ = [some (.ref a), some (.int i), some (.int z)], ?_, ?_⟩
    · refine ⟨_, rfl, _, rfl, a, _, rfl, .inl hS, _, _, rfl, rfl, _, rfl, ?_⟩
      rw [List.length_map]
      refine ite2 (fun hc => ?_) (fun hc => ?_)
      · have hlt : i < ns.length := by
          have := of_decide_eq_true hc
          omega
        refine ⟨_, rfl, _, rfl, a, _, _, V.int ns[i], rfl, rfl, hS, atI_nat (by rw [List.getElem?_map, List.getElem?_eq_getElem hlt]; rfl), rfl, ns[i], rfl⟩
      · exact ⟨rfl, 0, rfl⟩
    · rintro σ H' ⟨rfl, z, rfl⟩
      refine ⟨_, rfl, _, rfl, _, _, rfl, rfl, ⟨by decide, by decide, by decide⟩, _, _, rfl, rfl, _, _, rfl, _, rfl, _, _, rfl, rfl, ⟨by decide, by decide, by decide⟩, _, _, rfl, rfl, _, _, rfl, rfl, (by show (0 : Int) < (10 : Int) ^ (38 : Int).toNat + 133; decide), _, _, rfl, rfl, .inr ⟨by decide, by decide⟩,
        _, rfl, _, _, rfl, rfl, .inl ⟨by decide, by decide⟩, _, _, rfl, rfl, _, _, rfl, rfl, (by show 3 ≤ sizeLine; decide), fun p hp => ?_⟩
      obtain ⟨q1, q2⟩ := seed_range z i hi
      refine k p _ hp ⟨_, _, 0, upd_same, ?_, q1, q2, Int.le_refl 0, Int.le_refl 0⟩ fun b o e => by
        rw [upd_ne (ne_of_none e hp)]
        exact e
      show (0 : Int) ≤ if (if z < 0 then -z else z) - (10 : Int) ^ (18 : Int).toNat > 0 then (if z < 0 then -z else z) - (10 : Int) ^ (18 : Int).toNat else 0
      split <;> omega

/-! ### _law_take -/
def spTake : Sp := fun vs H Q _ => ∃ (t : Addr) (m : Int) (n : Nat), vs = [.ref t, .int m] ∧ 0 < m ∧ m.natAbs.log2 < 9000 ∧ Tray H t n ∧ n ≤ 1000000 ∧ ∀ v H', 0 ≤ v → v < m → Tray H' t (n + 1) → But t H H' → Q (.int v) H'
theorem scTake : FnScope ["tray", "many", "taken", "mixed"] ["tray", "many"] (defScope sTake) := ⟨rfl, rfl, rfl, by decide +kernel, rfl, by decide +kernel, by decide +kernel⟩
theorem ok_take {f : Addr} {fd : FuncData} (F : Fun K "_law_take" "_law_take" sTake f fd) : FnOk P w K mg base CX0 1 f fd ["tray", "many"] spTake := by
  refine F.ok scTake (fun vs H Q E h => ?_) (fun cdv A outer s H vs Q E hr h => ?_)
  · obtain ⟨t, m, n, rfl, _⟩ := h
    rfl
  · obtain ⟨t, m, n, rfl, hm, hlog, ⟨a, b, c, ht, ha, hb, hb2, hc, hcn⟩, hn, k⟩ := h
    refine ⟨_, pss_cons (ps_if (pt_cmpR op_gt (pe_ix ix_list (pv 0) pe_int (fun _ _ => rfl)) pe_int (nomark _))
        (pss_cons (ps_set (i := 2) scTake.nd rfl (Or.inl rfl) (pe_op op_mod (pe_ix ix_list (pv 0) pe_int (fun _ _ => rfl)) (pv 1)))
        (pss_cons (ps_asg (pe_op op_fdivW (pe_ix ix_list (pv 0) pe_int (fun _ _ => rfl)) (pv 1)) (pg_sub (pv 0) pe_int set_list))
        (pss_one (ps_ret (pv 2))))) pss_nil)
      (pss_cons (ps_asg (pe_op op_add (pe_ix ix_list (pv 0) pe_int (fun _ _ => rfl)) pe_int) (pg_sub (pv 0) pe_int set_list))
      (pss_cons (ps_set (i := 3) scTake.nd rfl (Or.inl rfl) (pe_op op_mod (pe_op op_powW (pe_op op_add (pe_ix ix_list (pv 0) pe_int (fun _ _ => rfl)) (pe_op op_mul pe_int (pe_ix ix_list (pv 0) pe_int (fun _ _ => rfl)))) pe_int) (pe_op op_add (pe_op op_pow pe_int pe_int) pe_int)))
      (pss_cons (ps_set (i := 3) scTake.nd rfl (Or.inl rfl) (pe_op op_mod (pe_op op_powW (pe_op op_add (pv 3) (pe_op op_mul pe_int (pe_ix ix_list (pv 0) pe_int (fun _ _ => rfl)))) pe_int) (pe_op op_add (pe_op op_pow pe_int pe_int) pe_int)))
      (pss_one (ps_ret (pe_op op_mod (pe_op op_fdiv (pv 3) pe_int) (pv 1))))))), ?_⟩
    refine ⟨_, rfl, t, _, _, .int a, rfl, rfl, SqL.of ht, rfl, _, _, rfl, rfl, _, rfl, ?_⟩
    refine ite2 (fun hp => ?_) (fun hp => ?_)
    · -- the big number gives
      have hp : 0 < a := by simpa using hp
      refine ⟨_, rfl, t, _, _, .int a, rfl, rfl, SqL.of ht, rfl, _, rfl, _, _, rfl, rfl, hm, ?_⟩
      refine ⟨_, rfl, t, _, _, .int a, rfl, rfl, SqL.of ht, rfl, _, rfl, _, _, rfl, rfl, ⟨hm, hlog⟩, _, rfl, t, _, 0, 0, rfl, rfl, ht, rfl, _, rfl, ?_⟩
      refine k _ _ (Int.emod_nonneg _ (by omega)) (Int.emod_lt_of_pos _ hm) ⟨a / m, b, c, upd_same, Int.ediv_nonneg ha (by omega), hb, hb2, hc, by omega⟩ But.set
    · refine ⟨_, rfl, t, _, _, .int c, rfl, rfl, SqL.of ht, rfl, _, _, rfl, rfl, _, rfl, t, _, 2, 2, rfl, rfl, ht, rfl, ?_⟩
      have ht2 : ∀ o, (upd H t (.lst ([V.int a, V.int b, V.int c].set 2 o))) t = some (.lst [.int a, .int b, o]) := fun o => upd_same
      have e39 := big1
      have e40 := big2
      have z200 := p200
      have z210 := p210
      rw [z200] at hb2
      refine ⟨_, rfl, t, _, _, .int b, rfl, rfl, SqL.of (ht2 _), rfl, _, rfl, t, _, _, .int (c + 1), rfl, rfl, SqL.of (ht2 _), rfl, _, _, rfl, rfl, .inl ⟨by decide, by decide⟩, _, _, rfl, rfl, _, _, rfl, rfl, pow_ok (by omega) (by rw [z210]; omega), _, _, rfl, rfl, ⟨by decide, by decide, by decide⟩, _, _, rfl, rfl, _, _, rfl, rfl, (by show (0 : Int) < (10 : Int) ^ (39 : Int).toNat + 3; decide), ?_⟩
      generalize hx : (b + 715827883 * (c + 1)) ^ (3 : Int).toNat = x
      have x0 : 0 ≤ x % ((10 : Int) ^ (39 : Int).toNat + 3) := Int.emod_nonneg _ (by rw [e39]; decide)
      have x1 : x % ((10 : Int) ^ (39 : Int).toNat + 3) < 1000000000000000000000000000000000000003 := by
        rw [e39]
        exact Int.emod_lt_of_pos _ (by decide)
      refine ⟨_, rfl, _, rfl, t, _, _, .int (c + 1), rfl, rfl, SqL.of (ht2 _), rfl, _, _, rfl, rfl, .inl ⟨by decide, by decide⟩, _, _, rfl, rfl, _, _, rfl, rfl, ?_, _, _, rfl, rfl, ⟨by decide, by decide, by decide⟩, _, _, rfl, rfl, _, _, rfl, rfl, (by show (0 : Int) < (10 : Int) ^ (40 : Int).toNat + 121; decide), ?_⟩
      · exact pow_ok (by omega) (by rw [z210]; omega)
      refine ⟨_, rfl, _, _, rfl, rfl, ⟨by decide, by decide⟩, _, rfl, _, _, rfl, rfl, hm, ?_⟩
      exact k _ _ (Int.emod_nonneg _ (by omega)) (Int.emod_lt_of_pos _ hm) ⟨a, b, c + 1, ht2 _, ha, hb, by rw [z200]; exact hb2, by omega, by omega⟩ But.set

/-! ### _law_letters -/
def spLetters : Sp := fun vs H Q _ => ∃ (t : Addr) (sg : Str) (mo : Int) (n : Nat), vs = [.ref t, .str sg, .int mo] ∧ Lets sg ∧ 1 ≤ sg.length ∧ sg.length ≤ 100 ∧ 0 ≤ mo ∧ mo ≤ 100 ∧ Tray H t n ∧ n ≤ 900000 ∧
  ∀ x H', Lets x → (x.length : Int) ≤ mo → Tray H' t (n + 200) → But t H H' → Q (.str x) H'
theorem scLetters : FnScope ["tray", "signs", "most", "turn"] ["tray", "signs", "most"] (defScope sLetters) := ⟨rfl, rfl, rfl, by decide +kernel, rfl, by decide +kernel, by decide +kernel⟩
theorem ok_letters {f g : Addr} {fd gd : FuncData} (F : Fun K "_law_letters" "_law_letters" sLetters f fd) (T : Names mg) (G : Fun K "_law_take" "_law_take" sTake g gd) (mG : mg "_law_take" = some (.ref g)) (bG : Binds K gd ["tray", "many"] []) :
    FnOk P w K mg base CX0 2 f fd ["tray", "signs", "most"] spLetters := by
  refine F.ok scLetters (fun vs H Q E h => ?_) (fun cdv A outer s H vs Q E hr h => ?_)
  · obtain ⟨t, sg, mo, n, rfl, _⟩ := h
    rfl
  · obtain ⟨t, sg, mo, n, rfl, hsg, h1, h2, h3, h4, ht, hn, k⟩ := h
    refine ⟨_, pss_one (ps_ret (pe_join pe_str (pe_lc (own := [("turn", 3)]) (g := gName 3) (tt := tYes) rfl scLetters.nd
      (pi_range1 (by rfl) T.range (pa_cons (pe_call (ok_take G) hr (by rfl) mG G.kp bG .nil pass0 (pa_cons (pv 0) (pa_cons (pe_op op_add (pv 2) pe_int) pa_nil))) pa_nil))
      (blkOk_by (N := ["tray", "signs", "most", "turn"]) (sc := defScope sLetters) (by decide +kernel)) (fun _ _ _ _ _ => pg_name (i := 3) scLetters.nd rfl (Or.inl rfl)) (fun _ _ _ _ _ => pts_nil)
      (fun _ _ _ _ _ => pe_ix ix_str (pv 1) (pe_call (ok_take G) hr (by rfl) mG G.kp bG .nil pass0 (pa_cons (pv 0) (pa_cons (pe_callB call_len_str (by rfl) T.len PySem.boot_len (pa_cons (pv 1) pa_nil)) pa_nil))) (fun _ _ => rfl))))), ?_⟩
    refine ⟨⟨_, rfl⟩, _, rfl, _, rfl, _, _, rfl, rfl, t, _, n, rfl, by omega, log_small (by omega) (by omega), ht, by omega, fun v H1 v0 v1 T1 B1 => ?_⟩
    refine ⟨v, rfl, by omega, by omega, fun D hD => ?_⟩
    refine lc_range (lo := 0) (n := v.toNat) (fun i H' => Tray H' t (n + 1 + i) ∧ But t H H' ∧ H D = none ∧ ∃ ys : List Str, H' D = some (.lst (ys.map V.str)) ∧ ys.length = i ∧ ∀ y ∈ ys, Lets y ∧ y.length = 1) ?_ ?_ ?_
    · have hD0 : H D = none := by
        cases q : H D with
        | none => rfl
        | some o =>
          by_cases e : D = t
          · obtain ⟨_, _, _, z, _⟩ := T1
            rw [e] at hD
            rw [hD] at z
            cases z
          · have := B1 D o e q
            rw [hD] at this
            cases this
      exact ⟨T1.new hD, B1.trans (But.new hD), hD0, [], upd_same, rfl, fun y hy => by cases hy⟩
    · rintro i H' hi ⟨T2, B2, hD0, ys, hy, hl, hys⟩
      refine ⟨rfl, ?_⟩
      refine ⟨_, rfl, _, rfl, _, rfl, sg, rfl, sl_small (by omega), t, _, n + 1 + i, rfl, by omega, log_small (by omega) (by omega), T2, by omega, fun u H2 u0 u1 T3 B3 => ?_⟩
      have hu : u.toNat < (tl sg).length := by
        rw [← len_tl]
        omega
      have hat : atI sg.cps.toList u = some ((tl sg)[u.toNat]) := by
        have q := atI_nat (j := u.toNat) (List.getElem?_eq_getElem hu)
        rw [Int.toNat_of_nonneg u0] at q
        exact q
      refine ⟨sg, u, _, rfl, rfl, sl_small (by omega), hat, ?_⟩
      have hDt : D ≠ t := fun e => by
        obtain ⟨_, _, _, z, _⟩ := ht
        rw [e] at hD0
        rw [hD0] at z
        cases z
      have hy2 := B3 D _ hDt hy
      refine ⟨ys.map V.str, hy2, by rw [List.length_map]; exact Nat.lt_of_lt_of_le (by omega) (sl_small (n := 100000) (Nat.le_refl _)), ?_, ?_, hD0, ys ++ [⟨#[(tl sg)[u.toNat]]⟩], ?_, ?_, ?_⟩
      · exact (T3.mono (by omega)).of (upd_ne hDt.symm)
      · intro b o hb hbo
        have := B3 b o hb (B2 b o hb hbo)
        rw [upd_ne (ne_of_none hbo hD0)]
        exact this
      · rw [List.map_append]
        exact upd_same
      · rw [List.length_append, hl]
        rfl
      · intro y hyy
        rcases List.mem_append.mp hyy with z | z
        · exact hys y z
        · rw [List.mem_singleton] at z
          rw [z]
          refine ⟨fun c hc => ?_, rfl⟩
          have hc : c ∈ [(tl sg)[u.toNat]] := hc
          rw [List.mem_singleton] at hc
          rw [hc]
          exact hsg _ (List.getElem_mem _)
    · rintro H' ⟨T2, B2, hD0, ys, hy, hl, hys⟩
      obtain ⟨j1, j2⟩ := join_lets ys hys
      refine ⟨_, D, ys, rfl, rfl, .inl (SqL.of hy), ?_, k _ _ j1 (by rw [j2]; omega) (T2.mono (by omega)) B2⟩
      rw [sum_ones ys fun y hy => (hys y hy).2]
      have e0 : ("" : Str).length = 0 := rfl
      rw [e0]
      omega

end
end K2
namespace K2
open PySem PySem.Spec PyProof.Rows L2 TL Bl
section
variable {P : Program} {w : World} {K : PySem.W.Frag} {mg : Str → Option Value} {base : Heap}
/-! ### _law_row -/
def WordsOk (ws : List Str) : Prop := ∀ x ∈ ws, Lets x ∧ x.length ≤ 200
def spRow : Sp := fun vs H Q _ => ∃ (t : Addr) (m n : Nat), vs = [.ref t, .int m] ∧ 1 ≤ m ∧ m ≤ 60 ∧ Tray H t n ∧ n ≤ 800000 ∧
  ∀ p ws H', H p = none → p ≠ t → H' p = some (.tup ((ws : List Str).map V.str)) → 1 ≤ ws.length → ws.length ≤ m → WordsOk ws → Tray H' t (n + 1000 + 200 * m) → But t H H' → Q (.ref p) H'
theorem scRow : FnScope ["tray", "most", "many", "style", "signs", "base", "tail", "found", "wide", "at"] ["tray", "most"] (defScope sRow) := ⟨rfl, rfl, rfl, by decide +kernel, rfl, by decide +kernel, by decide +kernel⟩
theorem but_none {t b : Addr} {H H' : Hp} {n : Nat} (hT : Tray H' t n) (h : But t H H') (e : H' b = none) : H b = none := by
  cases q : H b with
  | none => rfl
  | some o =>
    by_cases hb : b = t
    · obtain ⟨_, _, _, z, _⟩ := hT
      rw [hb] at e
      rw [e] at z
      cases z
    · rw [h b o hb q] at e
      cases e
theorem rep_flat (x : V) : ∀ n : Nat, (List.replicate n [x]).flatten = List.replicate n x
  | 0 => rfl
  | n + 1 => by rw [List.replicate_succ, List.flatten_cons, rep_flat x n, List.replicate_succ]; rfl
theorem min_many {mn m : Nat} {q : Int} (hq : 0 ≤ q) (h1 : 1 ≤ mn) (h2 : mn ≤ m) : ∃ k : Nat, (if 1 + q < (mn : Int) then 1 + q else (mn : Int)) = (k : Int) ∧ 1 ≤ k ∧ k ≤ m := by
  by_cases c : 1 + q < (mn : Int)
  · rw [if_pos c]
    exact ⟨(1 + q).toNat, by omega, by omega, by omega⟩
  · rw [if_neg c]
    exact ⟨mn, rfl, h1, h2⟩
theorem words_app {a b : List Str} (h : WordsOk a) (k : WordsOk b) : WordsOk (a ++ b) := fun x hx => (List.mem_append.mp hx).elim (h x) (k x)
theorem words_one {x : Str} (h : Lets x) (k : x.length ≤ 200) : WordsOk [x] := fun y hy => by
  rw [List.mem_singleton] at hy
  rw [hy]
  exact ⟨h, k⟩
set_option maxHeartbeats 4000000 in
theorem ok_row {f g le : Addr} {fd gd led : FuncData} (F : Fun K "_law_row" "_law_row" sRow f fd) (T : Names mg) (G : Fun K "_law_take" "_law_take" sTake g gd) (mG : mg "_law_take" = some (.ref g)) (bG : Binds K gd ["tray", "many"] [])
    (FL : Fun K "_law_letters" "_law_letters" sLetters le led) (mL : mg "_law_letters" = some (.ref le)) (bL : Binds K led ["tray", "signs", "most"] []) : FnOk P w K mg base CX0 3 f fd ["tray", "most"] spRow := by
  refine F.ok scRow (fun vs H Q E h => ?_) (fun cdv A outer s H vs Q E hr h => ?_)
  · obtain ⟨t, m, n, rfl, _⟩ := h
    rfl
  · obtain ⟨t, m, n, rfl, hm1, hm2, hT, hn, k⟩ := h
    have OT : FnOk P w K mg base CX0 1 g gd ["tray", "many"] spTake := ok_take G
    have OL : FnOk P w K mg base CX0 2 le led ["tray", "signs", "most"] spLetters := ok_letters FL T G mG bG
    have hr1 : Room 1 _ := hr.mono (by decide)
    refine ⟨_, Evl.pss_cut (ps_par (i := 2) (j := 3) rfl scRow.nd rfl rfl (by decide) rfl rfl (pa_cons (pe_op op_add pe_int (pe_call OT hr1 (by rfl) mG G.kp bG .nil pass0 (pa_cons (pv 0) (pa_cons (pv 1) pa_nil))))
          (pa_cons (pe_call OT hr1 (by rfl) mG G.kp bG .nil pass0 (pa_cons (pv 0) (pa_cons pe_int pa_nil))) pa_nil)) (by rfl))
      (Evl.pss_cut (ps_set (i := 4) scRow.nd rfl (Or.inr rfl) (pe_ix ix_list (pe_lst (pa_cons pe_str (pa_cons pe_str (pa_cons pe_str pa_nil)))) (pe_call OT hr1 (by rfl) mG G.kp bG .nil pass0 (pa_cons (pv 0) (pa_cons pe_int pa_nil))) (fun _ _ => rfl)))
      (Evl.pss_cut (ps_asg (pe_tup (pa_cons (pe_call OL hr (by rfl) mL FL.kp bL .nil pass0 (pa_cons (pv 0) (pa_cons (pv 4) (pa_cons pe_int pa_nil)))) (pa_cons (pe_call OL hr (by rfl) mL FL.kp bL .nil pass0 (pa_cons (pv 0) (pa_cons (pv 4) (pa_cons pe_int pa_nil)))) pa_nil)))
          (pg_tup rfl (pgs_cons (pg_name (i := 5) scRow.nd rfl (Or.inr rfl)) (pgs_cons (pg_name (i := 6) scRow.nd rfl (Or.inr rfl)) pgs_nil))))
      (Evl.pss_cut (ps_if (pt_cmpR op_in_seq (pv 3) (pe_tup (pa_cons pe_int (pa_cons pe_int pa_nil))) (by rfl))
          (pss_one (ps_set (i := 2) scRow.nd rfl (Or.inl rfl) (pe_callB (call_min2 rfl) (by rfl) T.min boot_min (pa_cons (pv 2) (pa_cons (pe_op op_add pe_int (pe_op op_fdiv pe_int
            (pe_callB (call_max2 rfl) (by rfl) T.max boot_max (pa_cons pe_int (pa_cons (pe_callB call_len_str (by rfl) T.len PySem.boot_len (pa_cons (pv 5) pa_nil)) pa_nil))))) pa_nil))))) pss_nil)
      (Evl.pss_cut (ps_setLc (i := 7) (own := [("at", 9)]) (g := gName 9) (tt := tYes) rfl scRow.nd rfl rfl (sw_true rfl rfl rfl (by decide +kernel)) (pi_range1 (by rfl) T.range (pa_cons (pv 2) pa_nil))
          (blkOk_by (N := ["tray", "most", "many", "style", "signs", "base", "tail", "found", "wide", "at"]) (sc := defScope sRow) (by decide +kernel)) (fun _ _ _ _ _ => pg_name (i := 9) scRow.nd rfl (Or.inl rfl)) (fun _ _ _ _ _ => pts_nil)
          (fun _ _ _ _ _ => pe_op op_add_str (pe_op op_mulS (pv 5) (pv 9)) (pv 6)))
      (Evl.pss_cut (ps_if (pt_cmpR op_eq (pv 3) pe_int (nomark _)) (pss_one (ps_set (i := 7) scRow.nd rfl (Or.inl rfl) (pe_revL (pv 7)))) pss_nil)
      (Evl.pss_cut (ps_if (pt_cmpR op_eq (pv 3) pe_int (nomark _)) (pss_one (ps_set (i := 7) scRow.nd rfl (Or.inl rfl) (pe_op op_rep (pe_lst (pa_cons (pe_op op_add_str (pv 5) (pv 6)) pa_nil)) (pv 2)))) pss_nil)
      (Evl.pss_cut (ps_if (pt_cmpR op_in_seq (pv 3) (pe_tup (pa_cons pe_int (pa_cons pe_int pa_nil))) (by rfl))
          (pss_cons (ps_set (i := 8) scRow.nd rfl (Or.inr rfl) (pe_ix ix_list (pe_lst (pa_cons pe_int (pa_cons pe_int (pa_cons pe_int pa_nil)))) (pe_call OT hr1 (by rfl) mG G.kp bG .nil pass0 (pa_cons (pv 0) (pa_cons pe_int pa_nil))) (fun _ _ => rfl)))
          (pss_one (ps_setLc (i := 7) (own := [("at", 9)]) (g := gName 9) (tt := tYes) rfl scRow.nd rfl rfl (sw_true rfl rfl rfl (by decide +kernel)) (pi_range1 (by rfl) T.range (pa_cons (pv 2) pa_nil))
            (blkOk_by (N := ["tray", "most", "many", "style", "signs", "base", "tail", "found", "wide", "at"]) (sc := defScope sRow) (by decide +kernel)) (fun _ _ _ _ _ => pg_name (i := 9) scRow.nd rfl (Or.inl rfl)) (fun _ _ _ _ _ => pts_nil)
            (fun _ _ _ _ _ => pe_call OL hr (by rfl) mL FL.kp bL .nil pass0 (pa_cons (pv 0) (pa_cons (pv 4) (pa_cons (pv 8) pa_nil))))))) pss_nil)
      (pss_one (ps_ret (pe_callTy call_tuple_of (by rfl) T.tuple (by decide +kernel) (pa_cons (pv 7) pa_nil))))))))))), ?_⟩
    -- many, style
    refine ⟨fun σ H1 => ∃ (mn : Nat) (st : Int), σ = [some (.ref t), some (.int m), some (.int mn), some (.int st), none, none, none, none, none, none] ∧ 1 ≤ mn ∧ mn ≤ m ∧ Tray H1 t (n + 2) ∧ But t H H1, ?_, ?_⟩
    · refine ⟨_, rfl, _, rfl, t, m, n, rfl, by omega, log_small (by omega) (by omega), hT, by omega, fun v H1 v0 v1 T1 B1 => ?_⟩
      refine ⟨_, _, rfl, rfl, _, rfl, t, 5, n + 1, rfl, by decide, log_small (by decide) (by decide), T1, by omega, fun u H2 u0 u1 T2 B2 => ?_⟩
      refine ⟨_, _, rfl, (1 + v).toNat, u, ?_, by omega, by omega, T2, B1.trans B2⟩
      have e : ((1 + v).toNat : Int) = 1 + v := by omega
      rw [e]
      rfl
    rintro σ H1 ⟨mn, st, rfl, mn1, mn2, T1, B1⟩
    -- the text of signs
    refine ⟨fun σ H2 => ∃ (sg : Str), σ = [some (.ref t), some (.int m), some (.int mn), some (.int st), some (.str sg), none, none, none, none, none] ∧ Lets sg ∧ 1 ≤ sg.length ∧ sg.length ≤ 100 ∧ Tray H2 t (n + 3) ∧ But t H H2, ?_, ?_⟩
    · refine ⟨(by show 3 ≤ sizeLine; decide), fun l1 hl1 => ?_⟩
      refine ⟨_, rfl, t, 3, n + 2, rfl, by decide, log_small (by decide) (by decide), T1.new hl1, by omega, fun v H2 v0 v1 T2 B2 => ?_⟩
      obtain ⟨x, hx, hx3⟩ := pick3 (V.str "x") (V.str "ab") (V.str "abcdefghijklmnopqrstuvwxyz") v0 v1
      have hx3 : ∃ sg : Str, x = .str sg ∧ Lets sg ∧ 1 ≤ sg.length ∧ sg.length ≤ 100 := by
        rcases hx3 with e | e | e
        · exact ⟨_, e, lets_x, by decide +kernel, by decide +kernel⟩
        · exact ⟨_, e, lets_ab, by decide +kernel, by decide +kernel⟩
        · exact ⟨_, e, lets_az, by decide +kernel, by decide +kernel⟩
      obtain ⟨sg, rfl, s1, s2, s3⟩ := hx3
      have n1 : l1 ≠ t := (T1.ne hl1).symm
      exact ⟨l1, _, v, _, rfl, rfl, SqL.of (B2 l1 _ n1 upd_same), hx, sg, rfl, s1, s2, s3, T2, B1.trans ((But.new hl1).trans B2)⟩
    rintro σ H2 ⟨sg, rfl, s1, s2, s3, T2, B2⟩
    -- base, tail
    refine ⟨fun σ H3 => ∃ (ba ta : Str), σ = [some (.ref t), some (.int m), some (.int mn), some (.int st), some (.str sg), some (.str ba), some (.str ta), none, none, none] ∧ Lets ba ∧ Lets ta ∧ ba.length ≤ 2 ∧ ta.length ≤ 2 ∧ Tray H3 t (n + 403) ∧ But t H H3, ?_, ?_⟩
    · refine ⟨_, rfl, _, rfl, t, sg, 2, n + 3, rfl, s1, s2, s3, by decide, by decide, T2, by omega, fun x H3 lx hx T3 B3 => ?_⟩
      refine ⟨_, rfl, _, rfl, t, sg, 2, n + 203, rfl, s1, s2, s3, by decide, by decide, T3, by omega, fun y H4 ly hy T4 B4 => ?_⟩
      exact ⟨(by show 2 ≤ sizeLine; decide), fun p hp => ⟨p, _, rfl, SqT.of upd_same, rfl, _, _, rfl, _, _, rfl, rfl, x, y, rfl, lx, ly, by omega, by omega, T4.new hp, ((B2.trans B3).trans B4).trans (But.new hp)⟩⟩
    rintro σ H3 ⟨ba, ta, rfl, g1, g2, g3, g4, T3, B3⟩
    -- fewer, where the base would grow too long
    refine ⟨fun σ H4 => ∃ (mn : Nat), σ = [some (.ref t), some (.int m), some (.int mn), some (.int st), some (.str sg), some (.str ba), some (.str ta), none, none, none] ∧ 1 ≤ mn ∧ mn ≤ m ∧ Tray H4 t (n + 403) ∧ But t H H4, ?_, ?_⟩
    · refine ⟨_, rfl, (by show 2 ≤ sizeLine; decide), fun p hp => ⟨p, _, rfl, .inr (SqT.of upd_same), rfl, rfl, _, rfl, ?_⟩⟩
      refine ite2 (fun _ => ?_) (fun _ => ?_)
      · refine ⟨_, rfl, _, rfl, ba, rfl, sl_small (by omega), _, _, rfl, _, _, rfl, rfl, ?_, _, _, rfl, rfl, _, _, rfl, ?_⟩
        · constructor
          · show (0 : Int) < if ((ba.length : Nat) : Int) > 1 then ((ba.length : Nat) : Int) else 1
            split <;> omega
          · show (if ((ba.length : Nat) : Int) > 1 then ((ba.length : Nat) : Int) else 1) < (1073741824 : Int)
            split <;> omega
        · have hq : (0 : Int) ≤ 18 / (if ((ba.length : Nat) : Int) > 1 then ((ba.length : Nat) : Int) else 1) := Int.ediv_nonneg (by decide) (by split <;> omega)
          obtain ⟨k1, ek, hk1, hk2⟩ := min_many (m := m) hq mn1 mn2
          refine ⟨k1, ?_, hk1, hk2, T3.new hp, B3.trans (But.new hp)⟩
          rw [← ek]
          rfl
      · exact ⟨mn, rfl, mn1, mn2, T3.new hp, B3.trans (But.new hp)⟩
    clear mn1 mn2
    rintro σ H4 ⟨mn, rfl, mn1, mn2, T4, B4⟩
    -- the words, a first time
    refine ⟨fun σ H5 => ∃ (l : Addr) (ws : List Str), σ = [some (.ref t), some (.int m), some (.int mn), some (.int st), some (.str sg), some (.str ba), some (.str ta), some (.ref l), none, none] ∧ H5 l = some (.lst (ws.map V.str)) ∧ ws.length = mn ∧ WordsOk ws ∧ Tray H5 t (n + 403) ∧ But t H H5, ?_, ?_⟩
    · refine ⟨_, rfl, _, rfl, by omega, by omega, fun D hD => ?_⟩
      have hD0 : H D = none := but_none T4 B4 hD
      refine lc_range (lo := 0) (fun i H' => Tray H' t (n + 403) ∧ But t H H' ∧ ∃ ws : List Str, H' D = some (.lst (ws.map V.str)) ∧ ws.length = i ∧ WordsOk ws) ⟨T4.new hD, B4.trans (But.new hD), [], upd_same, rfl, fun x hx => by cases hx⟩ ?_ ?_
      · rintro i H' hi ⟨T5, B5, ws, hw, hl, hok⟩
        have hi : i < (mn : Int).toNat := hi
        have e0 : (0 : Int) + (i : Int) = (i : Int) := Int.zero_add _
        have hlen : (Txt.mul ba (i : Int)).length ≤ 120 := by
          rw [Bl.len_mul]
          calc i * ba.length ≤ 60 * 2 := Nat.mul_le_mul (by omega) g3
            _ = 120 := by decide
        refine ⟨rfl, ?_⟩
        refine ⟨_, rfl, _, rfl, ba, (i : Int), rfl, by rw [e0], by omega, by omega, ?_, _, rfl, _, _, rfl, rfl, sl_small (by omega), ?_⟩
        · rw [Int.toNat_natCast]
          refine sl_small ?_
          calc ba.length * i ≤ 2 * 60 := Nat.mul_le_mul g3 (by omega)
            _ ≤ 100000 := by decide
        · refine ⟨ws.map V.str, hw, by rw [List.length_map]; exact Nat.lt_of_lt_of_le (by omega) (sl_small (n := 100000) (Nat.le_refl _)), T5.of (upd_ne (fun e => by obtain ⟨_, _, _, z, _⟩ := T4; rw [← e] at hD; rw [hD] at z; cases z)), fun b o hb hbo => ?_, ws ++ [Txt.mul ba (i : Int) ++ ta], ?_, ?_, ?_⟩
          · rw [upd_ne (ne_of_none hbo hD0)]
            exact B5 b o hb hbo
          · rw [List.map_append]
            exact upd_same
          · rw [List.length_append, hl]
            rfl
          · exact words_app hok (words_one ((lets_mul g1 i).app g2) (by rw [len_app]; omega))
      · rintro H' ⟨T5, B5, ws, hw, hl, hok⟩
        exact ⟨D, ws, rfl, hw, by have : (mn : Int).toNat = mn := Int.toNat_natCast mn; omega, hok, T5, B5⟩
    rintro σ H5 ⟨l, ws, rfl, hw, hl, hok, T5, B5⟩
    -- turned round
    refine ⟨fun σ H5 => ∃ (l : Addr) (ws : List Str), σ = [some (.ref t), some (.int m), some (.int mn), some (.int st), some (.str sg), some (.str ba), some (.str ta), some (.ref l), none, none] ∧ H5 l = some (.lst (ws.map V.str)) ∧ ws.length = mn ∧ WordsOk ws ∧ Tray H5 t (n + 403) ∧ But t H H5, ?_, ?_⟩
    · refine ⟨_, rfl, rfl, _, rfl, ?_⟩
      refine ite2 (fun _ => ?_) (fun _ => ?_)
      · refine ⟨_, rfl, l, _, rfl, SqL.of hw, fun p hp => ⟨p, ws.reverse, rfl, ?_, by rw [List.length_reverse]; exact hl, fun x hx => hok x (List.mem_reverse.mp hx), T5.new hp, B5.trans (But.new hp)⟩⟩
        rw [List.map_reverse]
        exact upd_same
      · exact ⟨l, ws, rfl, hw, hl, hok, T5, B5⟩
    clear hw hl hok T5 B5
    rintro σ H5 ⟨l, ws, rfl, hw, hl, hok, T5, B5⟩
    -- all alike
    refine ⟨fun σ H5 => ∃ (l : Addr) (ws : List Str), σ = [some (.ref t), some (.int m), some (.int mn), some (.int st), some (.str sg), some (.str ba), some (.str ta), some (.ref l), none, none] ∧ H5 l = some (.lst (ws.map V.str)) ∧ ws.length = mn ∧ WordsOk ws ∧ Tray H5 t (n + 403) ∧ But t H H5, ?_, ?_⟩
    · refine ⟨_, rfl, rfl, _, rfl, ?_⟩
      refine ite2 (fun _ => ?_) (fun _ => ?_)
      · refine ⟨_, rfl, _, rfl, _, _, rfl, rfl, sl_small (by omega), (by show 1 ≤ sizeLine; decide), fun l1 hl1 => ?_⟩
        refine ⟨_, rfl, l1, mn, _, rfl, rfl, upd_same, by omega, by omega, ?_, fun p hp => ⟨p, List.replicate mn (ba ++ ta), rfl, ?_, List.length_replicate, ?_, (T5.new hl1).new hp, B5.trans ((But.new hl1).trans (But.new hp))⟩⟩
        · show 1 * (mn : Int).toNat ≤ sizeLine
          exact sl_small (by omega)
        · have e : (List.replicate (mn : Int).toNat [V.str (ba ++ ta)]).flatten = (List.replicate mn (ba ++ ta)).map V.str := by
            rw [Int.toNat_natCast, List.map_replicate, rep_flat]
          rw [e]
          exact upd_same
        · intro x hx
          rw [(List.mem_replicate.mp hx).2]
          exact ⟨g1.app g2, by rw [len_app]; omega⟩
      · exact ⟨l, ws, rfl, hw, hl, hok, T5, B5⟩
    clear hw hl hok T5 B5
    rintro σ H5 ⟨l, ws, rfl, hw, hl, hok, T5, B5⟩
    -- any words
    refine ⟨fun σ H6 => ∃ (l : Addr) (ws : List Str) (o : Option V), σ = [some (.ref t), some (.int m), some (.int mn), some (.int st), some (.str sg), some (.str ba), some (.str ta), some (.ref l), o, none] ∧ H6 l = some (.lst (ws.map V.str)) ∧ ws.length = mn ∧ WordsOk ws ∧ Tray H6 t (n + 404 + 200 * m) ∧ But t H H6, ?_, ?_⟩
    · refine ⟨_, rfl, (by show 2 ≤ sizeLine; decide), fun p hp => ⟨p, _, rfl, .inr (SqT.of upd_same), rfl, rfl, _, rfl, ?_⟩⟩
      refine ite2 (fun _ => ?_) (fun _ => ?_)
      · refine ⟨(by show 3 ≤ sizeLine; decide), fun l1 hl1 => ?_⟩
        have T6 := (T5.new hp).new (o := .lst [.int 2, .int 4, .int 20]) hl1
        have B6 := B5.trans ((But.new (t := t) (o := .tup [.int 0, .int 4]) hp).trans (But.new (o := .lst [.int 2, .int 4, .int 20]) hl1))
        refine ⟨_, rfl, t, 3, n + 403, rfl, by decide, log_small (by decide) (by decide), T6, by omega, fun v H7 v0 v1 T7 B7 => ?_⟩
        obtain ⟨x, hx, hx3⟩ := pick3 (V.int 2) (V.int 4) (V.int 20) v0 v1
        have hx3 : ∃ wd : Int, x = .int wd ∧ 0 ≤ wd ∧ wd ≤ 20 := by
          rcases hx3 with e | e | e
          · exact ⟨_, e, by decide, by decide⟩
          · exact ⟨_, e, by decide, by decide⟩
          · exact ⟨_, e, by decide, by decide⟩
        obtain ⟨wd, rfl, w1, w2⟩ := hx3
        have n1 : l1 ≠ t := ((T5.new (o := .tup [.int 0, .int 4]) hp).ne hl1).symm
        refine ⟨l1, _, v, _, rfl, rfl, SqL.of (B7 l1 _ n1 upd_same), hx, ?_⟩
        have B8 := B6.trans B7
        refine ⟨_, rfl, _, rfl, by omega, by omega, fun D hD => ?_⟩
        have hD0 : H D = none := but_none T7 B8 hD
        have nD : D ≠ t := (T7.ne hD).symm
        refine lc_range (lo := 0) (fun i H' => Tray H' t (n + 404 + 200 * i) ∧ But t H H' ∧ ∃ ws : List Str, H' D = some (.lst (ws.map V.str)) ∧ ws.length = i ∧ WordsOk ws) ⟨T7.new hD, B8.trans (But.new hD), [], upd_same, rfl, fun x hx => by cases hx⟩ ?_ ?_
        · rintro i H' hi ⟨T9, B9, ws, hw, hl, hok⟩
          have hi : i < (mn : Int).toNat := hi
          refine ⟨rfl, ?_⟩
          refine ⟨_, rfl, _, rfl, _, rfl, t, sg, wd, n + 404 + 200 * i, rfl, s1, s2, s3, by omega, by omega, T9, by omega, fun x H9 lx hx T10 B10 => ?_⟩
          refine ⟨ws.map V.str, B10 D _ nD hw, by rw [List.length_map]; exact Nat.lt_of_lt_of_le (by omega) (sl_small (n := 100000) (Nat.le_refl _)), (T10.mono (by omega)).of (upd_ne nD.symm), fun b o hb hbo => ?_, ws ++ [x], ?_, ?_, ?_⟩
          · rw [upd_ne (ne_of_none hbo hD0)]
            exact B10 b o hb (B9 b o hb hbo)
          · rw [List.map_append]
            exact upd_same
          · rw [List.length_append, hl]
            rfl
          · exact words_app hok (words_one lx (by omega))
        · rintro H' ⟨T9, B9, ws, hw, hl, hok⟩
          have hmn : (mn : Int).toNat = mn := Int.toNat_natCast mn
          exact ⟨D, ws, some (.int wd), rfl, hw, by omega, hok, T9.mono (by omega), B9⟩
      · refine ⟨l, ws, none, rfl, ?_, hl, hok, (T5.new hp).mono (by omega), B5.trans (But.new hp)⟩
        rw [upd_ne (ne_of_none hw hp)]
        exact hw
    clear hw hl hok T5 B5
    rintro σ H6 ⟨l, ws, o, rfl, hw, hl, hok, T6, B6⟩
    refine ⟨_, rfl, l, _, rfl, .inl ⟨SqL.of hw, fun p hp => ?_⟩⟩
    exact k p ws _ (but_none T6 B6 hp) (T6.ne hp).symm upd_same (by omega) (by omega) hok ((T6.new hp).mono (by omega)) (B6.trans (But.new hp))
end
end K2
namespace K2
open PySem PySem.Spec PyProof.Rows L2 TL Bl
section
variable {P : Program} {w : World} {K : PySem.W.Frag} {mg : Str → Option Value} {base : Heap}
/-! ### check_row, check_product, for what is one -/
def spCkRow (K : PySem.W.Frag) : Sp := fun vs H Q _ => ∃ (v : V) (ws : List Str), vs = [v] ∧ RowAt K H v ws ∧ 1 ≤ ws.length ∧ WdsOk 4000 ws ∧ wt ws ≤ 15000000 ∧ ∀ H', Same H H' → Q .non H'
theorem scCkRow : FnScope ["row"] ["row"] (defScope sCkRow) := ⟨rfl, rfl, rfl, by decide +kernel, rfl, by decide +kernel, by decide +kernel⟩
theorem ok_ckRow {f r : Addr} {fd rd : FuncData} (F : Fun K "check_row" "check_row" sCkRow f fd) (R : Fun K "is_row" "is_row" sIsRow r rd) (mR : mg "is_row" = some (.ref r)) (bR : Binds K rd ["value"] []) (OR : FnOk P w K mg base CX0 2 r rd ["value"] (spRowB K rowD)) :
    FnOk P w K mg base CX0 3 f fd ["row"] (spCkRow K) := by
  refine F.ok scCkRow (fun vs H Q E h => ?_) (fun cdv A outer s H vs Q E hr h => ?_)
  · obtain ⟨v, ws, rfl, _⟩ := h
    rfl
  · obtain ⟨v, ws, rfl, h1, h2, h3, h4, k⟩ := h
    refine ⟨_, pss_one (ps_if (pt_not (pt_val (pe_call OR hr (by rfl) mR R.kp bR .nil pass0 (pa_cons (pv 0) pa_nil)))) pss_never pss_nil), ?_⟩
    obtain ⟨d, g1, g2, g3⟩ := row_gd h1 h2 h3 h4
    refine ⟨_, rfl, v, d, rfl, g1, g2, fun H' S => ?_⟩
    rw [g3]
    exact ⟨true, rfl, iteF (k H' S)⟩
def spCkProd (K : PySem.W.Frag) : Sp := fun vs H Q _ => ∃ (a : Addr) (xs : List V) (rs : List (List Str)), vs = [.ref a] ∧ SqT K H a xs ∧ RowsAt K H xs rs ∧ Fit rs ∧ ∀ H', Same H H' → Q .non H'
theorem scCkProd : FnScope ["product"] ["product"] (defScope sCkProd) := ⟨rfl, rfl, rfl, by decide +kernel, rfl, by decide +kernel, by decide +kernel⟩
theorem ok_ckProd {f r : Addr} {fd rd : FuncData} (F : Fun K "check_product" "check_product" sCkProd f fd) (R : Fun K "is_product" "is_product" sIsProd r rd) (mR : mg "is_product" = some (.ref r)) (bR : Binds K rd ["value"] []) (OR : FnOk P w K mg base CX0 3 r rd ["value"] (spRowB K prodD)) :
    FnOk P w K mg base CX0 4 f fd ["product"] (spCkProd K) := by
  refine F.ok scCkProd (fun vs H Q E h => ?_) (fun cdv A outer s H vs Q E hr h => ?_)
  · obtain ⟨a, xs, rs, rfl, _⟩ := h
    rfl
  · obtain ⟨a, xs, rs, rfl, h1, h2, h3, k⟩ := h
    refine ⟨_, pss_one (ps_if (pt_not (pt_val (pe_call OR hr (by rfl) mR R.kp bR .nil pass0 (pa_cons (pv 0) pa_nil)))) pss_never pss_nil), ?_⟩
    obtain ⟨d, g1, g2, g3⟩ := prod_gd h1 h2 h3
    refine ⟨_, rfl, .ref a, d, rfl, g1, g2, fun H' S => ?_⟩
    rw [g3]
    exact ⟨true, rfl, iteF (k H' S)⟩
/-! ### size_of -/
def spSize (K : PySem.W.Frag) : Sp := fun vs H Q _ => ∃ (a : Addr) (xs : List V) (rs : List (List Str)), vs = [.ref a] ∧ SqT K H a xs ∧ RowsAt K H xs rs ∧ (∀ r ∈ rs, r.length ≤ 3000) ∧ Q (.int (cnt rs : Nat)) H
theorem scSize : FnScope ["product", "size", "row"] ["product"] (defScope sSize) := ⟨rfl, rfl, rfl, by decide +kernel, rfl, by decide +kernel, by decide +kernel⟩
theorem ok_size {f : Addr} {fd : FuncData} (F : Fun K "size_of" "size_of" sSize f fd) (T : Names mg) : FnOk P w K mg base CX0 1 f fd ["product"] (spSize K) := by
  refine F.ok scSize (fun vs H Q E h => ?_) (fun cdv A outer s H vs Q E hr h => ?_)
  · obtain ⟨a, xs, rs, rfl, _⟩ := h
    rfl
  · obtain ⟨a, xs, rs, rfl, h1, h2, h3, k⟩ := h
    refine ⟨_, pss_cons (ps_set (i := 1) scSize.nd rfl (Or.inl rfl) pe_int)
      (pss_cons (ps_for PassesOwn.never rfl (pi_tup (pv 0)) (pg_name (i := 2) scSize.nd rfl (Or.inl rfl))
        (pss_one (ps_set (i := 1) scSize.nd rfl (Or.inl rfl) (pe_op op_mul (pv 1) (pe_callB call_len_seq (by rfl) T.len PySem.boot_len (pa_cons (pv 2) pa_nil))))))
      (pss_one (ps_ret (pv 1)))), ?_⟩
    refine ⟨_, rfl, a, rfl, ⟨_, h1⟩, for_tup (K := K) (a := a) (xs := xs) (fun i σ H' => H' = H ∧ ∃ o : Option V, σ = [some (.ref a), some (.int (cnt (rs.take i) : Nat)), o]) ⟨rfl, none, rfl⟩ (fun i σ H' _ q => by rw [q.1]; exact h1) ?_ ?_⟩
    · rintro i x σ H' hx ⟨rfl, o, rfl⟩
      obtain ⟨ws, hws, p, rfl, hp⟩ := h2.at hx
      have hl := h3 ws (List.mem_of_getElem? hws)
      refine ⟨_, rfl, _, rfl, p, _, rfl, .inr hp, _, _, rfl, rfl, .inr ?_, rfl, some (.ref p), ?_⟩
      · rw [List.length_map]
        omega
      · rw [List.length_map, cnt_more hws]
        rfl
    · rintro σ H' ⟨rfl, o, rfl⟩
      refine ⟨_, rfl, ?_⟩
      have e : rs.take xs.length = rs := by rw [h2.len, List.take_length]
      rw [e]
      exact k
/-! ### TooMany -/
def clsBody : Stmt → List Stmt
  | .ClassDef (body := b) .. => b
  | _ => []
abbrev sInit : Stmt := (clsBody sTooMany).getD 0 (.Pass ⟨0, 0, 0, 0⟩)
/-- what the written part says of the class and of its __init__ -/
structure TM (K : PySem.W.Frag) (mg : Str → Option Value) (C fI : Addr) (fd : FuncData) : Prop where
  gC : mg "TooMany" = some (.ref C)
  ox : OexC K C
  xf : XfC K C
  no : PySem.W.findIn K (.ref C) "limit" = some none
  iC : PySem.W.findIn K (.ref C) "__init__" = some (some (.ref fI))
  tI : PySem.W.typeIn K (.ref fI) = some (.type "function")
  te : PySem.W.exmOne K (.ref C) (.ref C) = some true
  F : Fun K "__init__" "TooMany.__init__" sInit fI fd
  b : Binds K fd ["self", "limit"] []
  most : ∃ u, mg "MOST_WORDS" = some u ∧ RelV (.int 2000) u
def spInit : Sp := fun vs H Q _ => ∃ (a C : Addr) (y : V), vs = [.ref a, y] ∧ H a = some (exo a C none) ∧ (∀ dx, H dx = none → dx ≠ a → Q .non (upd (upd H dx (exd dx [("limit", y)])) a (exo a C (some dx))))
theorem scInit : FnScope ["self", "limit"] ["self", "limit"] (defScope sInit) := ⟨rfl, rfl, rfl, by decide +kernel, rfl, by decide +kernel, by decide +kernel⟩
def spInitC (C : Addr) : Sp := fun vs H Q _ => ∃ (a : Addr) (y : V), vs = [.ref a, y] ∧ H a = some (exo a C none) ∧ (∀ dx, H dx = none → dx ≠ a → Q .non (upd (upd H dx (exd dx [("limit", y)])) a (exo a C (some dx))))
theorem ok_init {C fI : Addr} {fd : FuncData} (M : TM K mg C fI fd) : FnOk P w K mg base CX0 1 fI fd ["self", "limit"] (spInitC C) := by
  refine M.F.ok scInit (fun vs H Q E h => ?_) (fun cdv A outer s H vs Q E hr h => ?_)
  · obtain ⟨a, y, rfl, _⟩ := h
    rfl
  · obtain ⟨a, y, rfl, h1, k⟩ := h
    refine ⟨_, pss_one (ps_ost (pv 0) (pv 1)), ?_⟩
    refine ⟨_, rfl, _, rfl, a, C, rfl, M.ox, M.no, .inl ⟨h1, fun dx n ne => k dx n ne⟩⟩
/-! ### all_words -/
/-- what comes of a product: its words, or the error that tells the limit -/
def Out (K : PySem.W.Frag) (C : Addr) (rs : List (List Str)) (H : Hp) (Q : VK) (E : XK) : Prop :=
  (cnt rs ≤ 2000 → ∀ p H', Same H H' → SqT K H' p ((prodW rs).map V.str) → Q (.ref p) H') ∧
  (2000 < cnt rs → ∀ d H', Same H H' → H' d = some (.xd [("limit", .int 2000)]) → E (.ref C) (some d) H')
def spAll (K : PySem.W.Frag) (C : Addr) : Sp := fun vs H Q E => ∃ (a : Addr) (xs : List V) (rs : List (List Str)), vs = [.ref a] ∧ SqT K H a xs ∧ RowsAt K H xs rs ∧ Fit rs ∧ Out K C rs H Q E
theorem scAll : FnScope ["product", "words", "row", "word", "other"] ["product"] (defScope sAll) := ⟨rfl, rfl, rfl, by decide +kernel, rfl, by decide +kernel, by decide +kernel⟩
set_option maxHeartbeats 4000000 in
theorem ok_all {f z C fI : Addr} {fd zd id : FuncData} (F : Fun K "all_words" "all_words" sAll f fd) (T : Names mg) (M : TM K mg C fI id) (Z : Fun K "size_of" "size_of" sSize z zd) (mZ : mg "size_of" = some (.ref z)) (bZ : Binds K zd ["product"] []) :
    FnOk P w K mg base (L2.CX P w) 3 f fd ["product"] (spAll K C) := by
  refine F.okX scAll (fun vs H Q E h => ?_) (fun cdv A outer s H vs Q E hr h => ?_)
  · obtain ⟨a, xs, rs, rfl, _⟩ := h
    rfl
  · obtain ⟨a, xs, rs, rfl, h1, h2, h3, k⟩ := h
    have OZ : FnOk P w K mg base CX0 1 z zd ["product"] (spSize K) := ok_size Z T
    have OI : FnOk P w K mg base CX0 1 fI id ["self", "limit"] (spInitC C) := ok_init M
    have hr1 : Room 1 _ := hr.mono (by decide)
    obtain ⟨u, hu, ru⟩ := M.most
    refine ⟨_, pss_cons (ps_if (pt_cmpR op_gt (pe_call OZ hr1 (by rfl) mZ Z.kp bZ .nil pass0 (pa_cons (pv 0) pa_nil)) (pe_glob (by rfl) hu ru) (nomark _))
        (pss_one (L2.ps_raise rfl (L2.takes_of rfl rfl rfl rfl) (pmk_oex M.ox M.iC M.tI OI hr M.b .nil pass0 (by rfl) M.gC (pa_cons (pe_glob (by rfl) hu ru) pa_nil)))) pss_nil)
      (pss_cons (ps_set (i := 1) scAll.nd rfl (Or.inl rfl) (pe_lst (pa_cons pe_str pa_nil)))
      (pss_cons (ps_for (L2.passes_of rfl) rfl (pi_tup (pv 0)) (pg_name (i := 2) scAll.nd rfl (Or.inr rfl))
        (pss_one (ps_setLc2 (i := 1) (own := [("word", 3), ("other", 4)]) (vs1 := [4]) (g := gName 3) (g1 := gName 4) (tt := tYes) (tt1 := tYes) (wi1 := iTup K (tVar 2)) rfl scAll.nd rfl rfl (sw_true rfl rfl rfl (by decide +kernel)) (pi_list (pv 1))
          (blkOk_by (N := ["product", "words", "row", "word", "other"]) (sc := defScope sAll) (by decide +kernel)) (by decide) (fun _ _ _ _ _ => pg_name (i := 3) scAll.nd rfl (Or.inl rfl)) (fun _ _ _ _ _ => pts_nil)
          (fun _ _ _ _ _ => pi_tup (pv 2)) (fun _ _ _ _ _ => pg_name (i := 4) scAll.nd rfl (Or.inl rfl)) (fun _ _ _ _ _ => pts_nil) (fun _ _ _ _ _ => pe_op op_add_str (pv 3) (pv 4)))))
      (pss_one (ps_ret (pe_callTy call_tuple_of (by rfl) T.tuple (by decide +kernel) (pa_cons (pv 1) pa_nil)))))), ?_⟩
    have hrow : ∀ r ∈ rs, r.length ≤ 3000 := fun r hr => by
      have s := h3.sum
      have := mem_sum hr
      omega
    have hpos : ∀ r ∈ rs, 1 ≤ r.length := fun r hr => (h3.row r hr).1
    refine ⟨_, rfl, a, xs, rs, rfl, h1, h2, hrow, _, _, rfl, rfl, _, rfl, ?_⟩
    refine ite2 (fun c => ?_) (fun c => ?_)
    · have c : 2000 < cnt rs := by
        have := of_decide_eq_true c
        omega
      refine ⟨by decide, fun e he => ⟨e, .int 2000, rfl, upd_same, fun dx n ne => ⟨rfl, dx, [("limit", .int 2000)], upd_same, ?_, ?_, ?_⟩⟩⟩
      · rw [upd_ne ne]
        exact upd_same
      · rw [upd_ne ne] at n
        exact n
      · rw [upd_ne ne] at n
        refine k.2 c dx _ (fun b o hb => ?_) upd_same
        rw [upd_ne (ne_of_none hb n), del_ne (ne_of_none hb he), upd_ne (ne_of_none hb he), upd_ne (ne_of_none hb n), upd_ne (ne_of_none hb he)]
        exact hb
    have c : cnt rs ≤ 2000 := by
      have := of_decide_eq_false (Bool.eq_false_iff.mpr c)
      omega
    refine ⟨(by show 1 ≤ sizeLine; decide), fun l0 hl0 => ?_⟩
    have S0 := same_new (o := .lst [.str ""]) hl0
    refine ⟨_, rfl, a, rfl, ⟨_, same_t S0 h1⟩, for_tup (K := K) (a := a) (xs := xs) (fun i σ H' => Same H H' ∧ ∃ (l : Addr) (o : Option V), σ = [some (.ref a), some (.ref l), o, none, none] ∧ H' l = some (.lst ((prodW (rs.take i)).map V.str))) ⟨S0, l0, none, rfl, upd_same⟩ (fun i σ H' _ q => same_t q.1 h1) ?_ ?_⟩
    · rintro i x σ H1 hx ⟨S1, l, o, rfl, hl⟩
      obtain ⟨ws, hws, p, rfl, hp⟩ := h2.at hx
      have hin := List.mem_of_getElem? hws
      have hm := cnt_more hws
      have hle : cnt (rs.take (i + 1)) ≤ 2000 := Nat.le_trans (cnt_take hpos _) c
      have hi : i < rs.length := (List.getElem?_eq_some_iff.mp hws).1
      have hi100 := h3.len.2
      have okw : WdsOk (i * 4000) (prodW (rs.take i)) := by
        have z := prodW_ok (b := 4000) (rs := rs.take i) fun r hr => (h3.row r (List.mem_of_mem_take hr)).2
        rw [List.length_take, Nat.min_eq_left (by omega)] at z
        exact z
      have okr := (h3.row ws hin).2
      have hp1 := same_t S1 hp
      generalize hW : prodW (rs.take i) = W at *
      have hlen : W.length * ws.length ≤ 2000 := by
        rw [← hW, prodW_len, ← hm]
        exact hle
      refine ⟨_, rfl, l, rfl, ⟨_, SqL.of hl⟩, fun D hD => ?_⟩
      have hDl : l ≠ D := ne_of_none hl hD
      refine ⟨fun j m H2 => m = W.length - j ∧ j ≤ W.length ∧ Same H1 H2 ∧ H2 D = some (.lst ((addRow (W.take j) ws).map V.str)), ⟨W.length, rfl, Nat.zero_le _, same_new hD, upd_same⟩, ?_⟩
      rintro j m H2 ⟨rfl, hj, S2, hD2⟩
      have hl2 := S2 l _ hl
      by_cases hlt : j < W.length
      · have hWj : W[j]? = some W[j] := List.getElem?_eq_getElem hlt
        have tk : W.take (j + 1) = W.take j ++ [W[j]] := Bl.take_more hWj
        have okj : (W[j]).length ≤ i * 4000 := (okw _ (List.getElem_mem hlt)).2
        have big : (addRow (W.take j) ws).length + ws.length ≤ 2000 := by
          have e : (addRow (W.take (j + 1)) ws).length = (addRow (W.take j) ws).length + ws.length := by
            rw [addRow_len, addRow_len, List.length_take, List.length_take, Nat.min_eq_left (by omega), Nat.min_eq_left (by omega), Nat.succ_mul]
          rw [← e, addRow_len, List.length_take, Nat.min_eq_left (by omega)]
          exact Nat.le_trans (Nat.mul_le_mul_right _ (by omega)) hlen
        refine .inr ⟨⟨_, .str W[j], SqL.of hl2, by rw [List.getElem?_map, hWj]; rfl⟩, fun H3 => Same H1 H3 ∧ H3 D = some (.lst ((addRow (W.take (j + 1)) ws).map V.str)), fun H3 q => ⟨W.length - (j + 1), by omega, rfl, hlt, q⟩, ?_⟩
        rintro x H3 ⟨rfl, hy⟩
        have ex := hy _ (SqL.of hl2)
        rw [List.getElem?_map, hWj] at ex
        have ex : x = .str W[j] := (Option.some.inj ex).symm
        subst ex
        refine ⟨rfl, ?_⟩
        refine ⟨_, rfl, p, rfl, ⟨_, same_t S2 hp1⟩, lc_tup1 (K := K) (a := p) (xs := ws.map V.str) (fun q H4 => Same H1 H4 ∧ H4 D = some (.lst ((addRow (W.take j) ws ++ (ws.take q).map fun x => W[j] ++ x).map V.str))) ⟨S2, by rw [List.take_zero, List.map_nil, List.append_nil]; exact hD2⟩ (fun q H4 _ z => same_t z.1 hp1) ?_ ?_⟩
        · rintro q y H4 hy' ⟨S4, hD4⟩
          rw [List.getElem?_map] at hy'
          obtain ⟨z, hz, rfl⟩ := Option.map_eq_some_iff.mp hy'
          have okz := (okr z (List.mem_of_getElem? hz)).2
          have hql : q < ws.length := (List.getElem?_eq_some_iff.mp hz).1
          refine ⟨rfl, ?_⟩
          refine ⟨_, rfl, _, rfl, _, _, rfl, rfl, sl_big (by omega), _, hD4, ?_, ?_, ?_⟩
          · rw [List.length_map, List.length_append, List.length_map, List.length_take]
            exact Nat.lt_of_lt_of_le (by omega) (sl_small (n := 100000) (Nat.le_refl _))
          · intro b o hb
            by_cases hbd : b = D
            · rw [hbd] at hb
              rw [hD] at hb
              cases hb
            · rw [upd_ne hbd]
              exact S4 b o hb
          · have tz : ws.take (q + 1) = ws.take q ++ [z] := Bl.take_more hz
            rw [tz, upd_same]
            simp only [List.map_append, List.append_assoc, List.map_cons, List.map_nil]
        · rintro H4 ⟨S4, hD4⟩
          refine ⟨S4, ?_⟩
          rw [List.length_map, List.take_length] at hD4
          have e : addRow (W.take (j + 1)) ws = addRow (W.take j) ws ++ ws.map fun x => W[j] ++ x := by
            rw [tk]
            unfold addRow
            rw [List.flatMap_append]
            simp
          rw [e]
          exact hD4
      · have e : j = W.length := by omega
        subst e
        rw [List.take_length] at hD2
        refine .inl ⟨⟨_, SqL.of hl2, by rw [List.length_map]; exact Nat.le_refl _⟩, S1.trans S2, D, _, rfl, ?_⟩
        rw [prodW_more hws, hW]
        exact hD2
    · rintro σ H1 ⟨S1, l, o, rfl, hl⟩
      have e : rs.take xs.length = rs := by rw [h2.len, List.take_length]
      rw [e] at hl
      exact ⟨_, rfl, l, _, rfl, .inl ⟨SqL.of hl, fun p hp => k.1 c p _ (S1.trans (same_new hp)) (SqT.of upd_same)⟩⟩
end
end K2
namespace K2
open PySem PySem.Spec PyProof.Rows L2 TL Bl
section
variable {X : Cx} {CX : CXT} {k : Nat} {f : Addr} {sp : Sp} {E : XK} {x : Str} {e : Expr} {es : List Expr} {t : TA} {p pos : Pos}
/-- x(e, ..), x a def with a star parameter -/
theorem pe_callR (F : FnR X.prog X.w X.K X.mg X.base CX k f sp) (hr : Room k X.A) (hg : Gl X x) (hm : X.mg x = some (.ref f)) (hk : PySem.W.keepIn X.K (.ref f) = true) (hx : Passes CX X E) (ha : PA X (e :: es) t) (hd : (x == ("__debug__" : Str)) = false := by decide)
    (he : starEach (e :: es) X.env = (false, eval e X.env) :: starEach es X.env := by rfl) (hpl : (backTo pos (starEach es X.env)).any (·.1) = false := by rfl) :
    PE X (.Call (.Name x p) (e :: es) [] pos) (fun σ H Q => t σ H fun vs H1 => sp vs H1 Q E) := by
  refine ⟨fun pins s σ H Q I h => ?_⟩
  refine wpAny_Call_Name_kw (ld_glob I hg hm ?_ hd)
  refine PySem.W.callWith_K (h₀ := X.base) I.ok.mod.kin hk (thn (ha.run pos pins s σ H _ I h) fun us s1 ⟨vs, H1, I1, r, q⟩ => ⟨I1.kIn, ?_⟩) he hpl
  exact wpAny_call (run_fnR F hr hx I1 r q)
end
section
variable {P : Program} {w : World} {K : PySem.W.Frag} {mg : Str → Option Value} {base : Heap}
theorem Out.pre {C : Addr} {rs : List (List Str)} {H H1 : Hp} {Q : VK} {E : XK} (h : Out K C rs H Q E) (e : Same H H1) : Out K C rs H1 Q E :=
  ⟨fun c p H' S q => h.1 c p H' (e.trans S) q, fun c d H' S q => h.2 c d H' (e.trans S) q⟩
/-! ### written_out -/
theorem scWrit : FnScope ["product"] ["product"] (defScope sWrit) := ⟨rfl, rfl, rfl, by decide +kernel, rfl, by decide +kernel, by decide +kernel⟩
theorem ok_writ {f c z C : Addr} {fd cd zd : FuncData} (F : Fun K "written_out" "written_out" sWrit f fd) (Ck : Fun K "check_product" "check_product" sCkProd c cd) (mCk : mg "check_product" = some (.ref c)) (bCk : Binds K cd ["product"] []) (OCk : FnOk P w K mg base CX0 4 c cd ["product"] (spCkProd K))
    (Al : Fun K "all_words" "all_words" sAll z zd) (mAl : mg "all_words" = some (.ref z)) (bAl : Binds K zd ["product"] []) (OAl : FnOk P w K mg base (L2.CX P w) 3 z zd ["product"] (spAll K C)) :
    FnOk P w K mg base (L2.CX P w) 5 f fd ["product"] (spAll K C) := by
  refine F.okX scWrit (fun vs H Q E h => ?_) (fun cdv A outer s H vs Q E hr h => ?_)
  · obtain ⟨a, xs, rs, rfl, _⟩ := h
    rfl
  · obtain ⟨a, xs, rs, rfl, h1, h2, h3, k⟩ := h
    have hr3 : Room 3 _ := hr.mono (by decide)
    refine ⟨_, pss_cons (ps_expr (pe_call OCk hr (by rfl) mCk Ck.kp bCk .nil pass0 (pa_cons (pv 0) pa_nil)))
      (pss_one (ps_ret (pe_call OAl hr3 (by rfl) mAl Al.kp bAl .nil (L2.passes_call (L2.takes_of rfl rfl rfl rfl) (fun _ _ _ _ h => h)) (pa_cons (pv 0) pa_nil)))), ?_⟩
    refine ⟨_, rfl, a, xs, rs, rfl, h1, h2, h3, fun H1 S1 => ?_⟩
    exact ⟨_, rfl, a, xs, rs, rfl, same_t S1 h1, h2.mono S1, h3, k.pre S1⟩
/-! ### multiply -/
def spMulB (K : PySem.W.Frag) (C : Addr) : Sp := fun vs H Q E => ∃ (v : V) (p : Addr) (xs : List V) (r : List Str) (rs : List (List Str)), vs = [v, .ref p] ∧ RowAt K H v r ∧ SqT K H p xs ∧ RowsAt K H xs rs ∧ Fit (r :: rs) ∧ Out K C (r :: rs) H Q E
def spMul (K : PySem.W.Frag) (C : Addr) : Sp := fun vs H Q E => ∃ (rs : List (List Str)), RowsAt K H vs rs ∧ Fit rs ∧ Out K C rs H Q E
theorem scMul : FnScope (["row", "more", "other"]) ((["row"] : List Str) ++ [("more" : Str)]) (defScope sMul) := ⟨rfl, rfl, rfl, by decide +kernel, rfl, by decide +kernel, by decide +kernel⟩
theorem mul_body {f c z C : Addr} {cd zd : FuncData} (Ck : Fun K "check_row" "check_row" sCkRow c cd) (mCk : mg "check_row" = some (.ref c)) (bCk : Binds K cd ["row"] []) (OCk : FnOk P w K mg base CX0 3 c cd ["row"] (spCkRow K))
    (Al : Fun K "all_words" "all_words" sAll z zd) (mAl : mg "all_words" = some (.ref z)) (bAl : Binds K zd ["product"] []) (OAl : FnOk P w K mg base (L2.CX P w) 3 z zd ["product"] (spAll K C))
    (cdv : Value) (A : Around) (outer : List Env) (s : Shared) (H : Hp) (vs : List V) (Q : VK) (E : XK) (hr : Room 3 (A.deeper (envOfC "multiply" (defScope sMul) s.heap.objs.size f cdv))) (h : spMulB K C vs H Q E) :
    ∃ t, PSs (cxOf (L2.CX P w) P w K mg base ["row", "more", "other"] "multiply" (defScope sMul) f cdv A outer s H E) (defBody sMul) t ∧ t { nx := fun _ H' => Q .non H', rt := Q } (start ["row", "more", "other"] vs) H := by
  obtain ⟨v, p, xs, r, rs, rfl, hv, hp, hxs, hf, k⟩ := h
  refine ⟨_, pss_cons (ps_expr (pe_call OCk hr (by rfl) mCk Ck.kp bCk .nil pass0 (pa_cons (pv 0) pa_nil)))
    (pss_cons (ps_for (L2.passes_of rfl) rfl (pi_tup (pv 1)) (pg_name (i := 2) scMul.nd rfl (Or.inl rfl)) (pss_one (ps_expr (pe_call OCk hr (by rfl) mCk Ck.kp bCk .nil pass0 (pa_cons (pv 2) pa_nil)))))
    (pss_one (ps_ret (pe_call OAl hr (by rfl) mAl Al.kp bAl .nil (L2.passes_call (L2.takes_of rfl rfl rfl rfl) (fun _ _ _ _ h => h)) (pa_cons (pe_tup (pa_cons (pv 0) (StX.pa_star (pv 1) pa_nil))) pa_nil))))), ?_⟩
  have hin : ∀ q ∈ r :: rs, wt q ≤ 15000000 := fun q hq => Nat.le_trans (wt_mem hq) hf.wt
  obtain ⟨r1, r2⟩ := hf.row r List.mem_cons_self
  refine ⟨_, rfl, v, r, rfl, hv, r1, r2, hin r List.mem_cons_self, fun H1 S1 => ?_⟩
  refine ⟨_, rfl, p, rfl, ⟨_, same_t S1 hp⟩, for_tup (K := K) (a := p) (xs := xs) (fun _ σ H' => Same H H' ∧ ∃ o : Option V, σ = [some v, some (.ref p), o]) ⟨S1, none, rfl⟩ (fun i σ H' _ q => same_t q.1 hp) ?_ ?_⟩
  · rintro i x σ H2 hx ⟨S2, o, rfl⟩
    obtain ⟨ws, hws, hw⟩ := hxs.at hx
    have hm : ws ∈ r :: rs := List.mem_cons_of_mem _ (List.mem_of_getElem? hws)
    obtain ⟨w1, w2⟩ := hf.row ws hm
    exact ⟨_, rfl, x, ws, rfl, hw.mono S2, w1, w2, hin ws hm, fun H3 S3 => ⟨S2.trans S3, _, rfl⟩⟩
  · rintro σ H2 ⟨S2, o, rfl⟩
    refine ⟨_, rfl, _, rfl, p, xs, rfl, .inl (same_t S2 hp), ?_⟩
    refine ⟨?_, fun p' hp' => ?_⟩
    · rw [List.append_nil]
      show xs.length + 1 ≤ sizeLine
      have := hxs.len
      have := hf.len
      rw [List.length_cons] at this
      exact sl_small (by omega)
    · have N := S2.trans (same_new (o := .tup (v :: (xs ++ []))) hp')
      refine ⟨p', v :: (xs ++ []), r :: rs, rfl, SqT.of upd_same, .cons (hv.mono N) ?_, hf, k.pre N⟩
      rw [List.append_nil] at N ⊢
      exact hxs.mono N
theorem mul_all {f : Addr} {fd : FuncData} (F : Fun K "multiply" "multiply" sMul f fd) {C : Addr}
    (B : ∀ (cdv : Value) (A : Around) (outer : List Env) (s : Shared) (H : Hp) (vs : List V) (Q : VK) (E : XK), Room 3 (A.deeper (envOfC "multiply" (defScope sMul) s.heap.objs.size f cdv)) → spMulB K C vs H Q E →
      ∃ t, PSs (cxOf (L2.CX P w) P w K mg base ["row", "more", "other"] "multiply" (defScope sMul) f cdv A outer s H E) (defBody sMul) t ∧ t { nx := fun _ H' => Q .non H', rt := Q } (start ["row", "more", "other"] vs) H) :
    FnR P w K mg base (L2.CX P w) 4 f (spMul K C) := by
  obtain ⟨oc, od, kV, doc, pm, an, cdv, ct, osl, rfl, lk, hcd⟩ := F.ex
  have G := StX.fn_star (CX := L2.CX P w) (P := P) (w := w) (K := K) (mg := mg) (base := base) (k := 3) (N := ["row", "more", "other"]) (ps := ["row"]) (pv := "more") (sp := spMulB K C) lk hcd scMul StX.cxUp
    (StX.bind_star1 (B := fun us => bindArgs _ ⟨us, []⟩) (fun _ => rfl) (fun _ _ _ => rfl)) fun A outer s H vs Q E hr h => B cdv A outer s H vs Q E hr h
  refine G.imp fun vs H Q E h => ?_
  obtain ⟨rs, h1, h2, h3⟩ := h
  cases h1 with
  | nil =>
    have := h2.len.1
    simp at this
  | @cons v ws vs rs a b =>
    have l := b.len
    have l2 := h2.len.2
    rw [List.length_cons] at l2
    exact ⟨[v], vs, rfl, rfl, sl_small (by omega), fun p hp => ⟨v, p, vs, ws, rs, rfl, a.mono (same_new hp), SqT.of upd_same, b.mono (same_new hp), h2, h3.pre (same_new hp)⟩⟩
/-- multiply(row=..) -/
def MulK (P : Program) (w : World) (K : PySem.W.Frag) (mg : Str → Option Value) (base : Heap) (k : Nat) (f : Addr) (sp : Sp) : Prop :=
  ∀ (A : Around) (outer : List Env) (s : Shared) (H : Hp) (u : Value) (v : V) (Q : VK) (E : XK), Room k A → Env0 P w K mg base A outer s H → RelV v u → sp [v] H Q E →
    codeAny (model P w) A (.call (.ref f) ⟨[], [("row", u)]⟩) (CR (L2.CX P w) outer P w H s Q E) s
theorem mul_kw {f : Addr} {fd : FuncData} (F : Fun K "multiply" "multiply" sMul f fd) {C : Addr}
    (B : ∀ (cdv : Value) (A : Around) (outer : List Env) (s : Shared) (H : Hp) (vs : List V) (Q : VK) (E : XK), Room 3 (A.deeper (envOfC "multiply" (defScope sMul) s.heap.objs.size f cdv)) → spMulB K C vs H Q E →
      ∃ t, PSs (cxOf (L2.CX P w) P w K mg base ["row", "more", "other"] "multiply" (defScope sMul) f cdv A outer s H E) (defBody sMul) t ∧ t { nx := fun _ H' => Q .non H', rt := Q } (start ["row", "more", "other"] vs) H) :
    MulK P w K mg base 4 f (spMul K C) := by
  obtain ⟨oc, od, kV, doc, pm, an, cdv, ct, osl, rfl, lk, hcd⟩ := F.ex
  intro A outer s H u v Q E hr e0 r hsp
  obtain ⟨rs, h1, h2, h3⟩ := hsp
  cases h1 with
  | @cons _ ws _ rs' a b =>
  cases b
  have hn : H s.heap.objs.size = Option.none := e0.hok.fresh (Nat.le_refl _)
  refine StX.run_bnd lk hcd scMul hr e0 (G := fun xs H2 => ∃ p, H p = Option.none ∧ xs = [v, V.ref p] ∧ H2 = upd H p (.tup [])) (fun A' Ex Q' h => ?_) fun s2 H2 xs ⟨p, hp, ex, eH⟩ hr' => ?_
  · have hb : bindArgs (PySem.W.fnOf "multiply" "multiply" (defArgs sMul) (defBody sMul) (defScope sMul) .none kV doc pm an cdv ct) ⟨[], [("row", u)]⟩ = (newTuple [] >>= fun t => pure [(("row" : Str), u), (("more" : Str), t)]) := rfl
    rw [hb]
    refine wpAny_bind (wpAny_newTuple (wpAny_pure ?_) (by show 0 ≤ sizeLine; decide))
    have new : ObjOk P w (upd H s.heap.objs.size (.tup [])) (s.heap.push ({ cls := .type "tuple", data := .seq ([] : List Value).toArray } : Obj)) s.heap.objs.size (.tup []) := ⟨(by show 0 ≤ sizeLine; decide), [], .nil, ⟨_, Heap.get?_push_size _ rfl, rfl, _, rfl⟩⟩
    have un := StX.un_laid (fs := frs outer) (s := s) (o := ({ cls := .type "tuple", data := .seq ([] : List Value).toArray } : Obj)) (u := .tup []) hn
    exact h _ _ [v, V.ref s.heap.objs.size] [u, Value.ref s.heap.objs.size] (StX.env0_laid e0 new) un rfl (fun e s' => StX.cxUp outer s H _ _ E e s' un (fun b o q => Heap.get?_push_of_some _ q) rfl) (.cons r (.cons rfl .nil)) rfl ⟨_, hn, rfl, rfl⟩
  · subst ex eH
    exact B cdv A outer s2 _ _ Q E hr' ⟨v, p, [], ws, [], rfl, a.mono (same_new hp), SqT.of upd_same, .nil, h2, h3.pre (same_new hp)⟩
end
section
variable {X : Cx} {k : Nat} {f : Addr} {sp : Sp} {E : XK} {x : Str} {e : Expr} {te : TE} {p pos kpos : Pos}
theorem pe_mulK (F : MulK X.prog X.w X.K X.mg X.base k f sp) (hr : Room k X.A) (hg : Gl X x) (hm : X.mg x = some (.ref f)) (hk : PySem.W.keepIn X.K (.ref f) = true) (hx : Passes (L2.CX X.prog X.w) X E) (he : PE X e te) (hd : (x == ("__debug__" : Str)) = false := by decide)
    (hall : (backToKw pos (keywordEach [⟨some "row", e, kpos⟩] X.env)).all (·.1.isSome) = true := by rfl) (hks : (backToKw pos (keywordEach [⟨some "row", e, kpos⟩] X.env)).filterMap (·.1) = [("row" : Str)] := by rfl)
    (hpl : ((backTo pos (starEach [] X.env)).any (·.1) || (backToKw pos (keywordEach [⟨some "row", e, kpos⟩] X.env)).any (·.1.isNone)) = false := by rfl) :
    PE X (.Call (.Name x p) [] [⟨some "row", e, kpos⟩] pos) (fun σ H Q => tCons te tNil σ H fun zs H1 => ∃ v, zs = [v] ∧ sp [v] H1 Q E) := by
  constructor
  intro pins s σ H Q I h
  apply wpAny_Call_Name_kw
  apply ld_glob I hg hm _ hd
  refine PySem.W.callWith_KW0 (h₀ := X.base) I.ok.mod.kin hk hall ?_ hpl
  refine thn ((pk_cons (nm := some "row") (kpos := kpos) he pk_nil).run pos pins s σ H (fun zs H1 => ∃ v, zs = [v] ∧ sp [v] H1 Q E) I ?_) fun ws s2 z => ?_
  · exact h
  obtain ⟨zs, H2, I2, rz, v, ez, q2⟩ := z
  subst ez
  refine ⟨I2.kIn, ?_⟩
  rw [hks]
  cases rz with
  | cons rv rn =>
  cases rn
  refine wpAny_call (codeAny_mono (F X.A X.stack s2 H2 _ v Q E hr I2.env0 rv q2) fun r s' hq => ?_)
  cases r with
  | error er => exact hx pins σ H2 s2 er s' I2 hq
  | ok fl =>
    cases fl with
    | ret u => exact I2.after hq
    | next => exact False.elim hq
    | brk => exact False.elim hq
    | cont => exact False.elim hq
end
end K2
namespace K2
open PySem PySem.Spec PyProof.Rows L2 TL Bl
section
variable {P : Program} {w : World} {K : PySem.W.Frag} {mg : Str → Option Value} {base : Heap}
/-! ### _law_words -/
def spWords (K : PySem.W.Frag) : Sp := fun vs H Q _ => ∃ (a : Addr) (xs : List V) (rs : List (List Str)), vs = [.ref a] ∧ SqT K H a xs ∧ RowsAt K H xs rs ∧ Fit rs ∧ cnt rs ≤ 2000 ∧ ∀ l H', Same H H' → H' l = some (.lst ((prodW rs).map V.str)) → Q (.ref l) H'
theorem scWords : FnScope ["some", "found", "words_here", "longer", "one", "late"] ["some"] (defScope sWords) := ⟨rfl, rfl, rfl, by decide +kernel, rfl, by decide +kernel, by decide +kernel⟩
set_option maxHeartbeats 4000000 in
theorem ok_words {f : Addr} {fd : FuncData} (F : Fun K "_law_words" "_law_words" sWords f fd) : FnOk P w K mg base CX0 1 f fd ["some"] (spWords K) := by
  refine F.ok scWords (fun vs H Q E h => ?_) (fun cdv A outer s H vs Q E hr h => ?_)
  · obtain ⟨a, xs, rs, rfl, _⟩ := h
    rfl
  · obtain ⟨a, xs, rs, rfl, h1, h2, h3, c, k⟩ := h
    refine ⟨_, pss_cons (ps_set (i := 1) scWords.nd rfl (Or.inl rfl) (pe_lst (pa_cons pe_str pa_nil)))
      (pss_cons (ps_for PassesOwn.never rfl (pi_tup (pv 0)) (pg_name (i := 2) scWords.nd rfl (Or.inl rfl))
        (pss_cons (ps_set (i := 3) scWords.nd rfl (Or.inl rfl) (pe_lst pa_nil))
        (pss_cons (ps_for PassesOwn.never rfl (pi_list (pv 1)) (pg_name (i := 4) scWords.nd rfl (Or.inr rfl))
          (pss_one (ps_expr (pe_bm PySem.F.plainAttrs_list PySem.F.slot_list_extend PySem.F.type_list_extend mt_extend (pv 3)
            (pa_cons (pe_lc (own := [("late", 5)]) (g := gName 5) (tt := tYes) rfl scWords.nd (pi_tup (pv 2))
              (blkOk_by (N := ["some", "found", "words_here", "longer", "one", "late"]) (sc := defScope sWords) (by decide +kernel)) (fun _ _ _ _ _ => pg_name (i := 5) scWords.nd rfl (Or.inl rfl)) (fun _ _ _ _ _ => pts_nil)
              (fun _ _ _ _ _ => pe_op op_add_str (pv 4) (pv 5))) pa_nil)))))
        (pss_one (ps_set (i := 1) scWords.nd rfl (Or.inl rfl) (pv 3))))))
      (pss_one (ps_ret (pv 1)))), ?_⟩
    have hpos : ∀ r ∈ rs, 1 ≤ r.length := fun r hr => (h3.row r hr).1
    refine ⟨(by show 1 ≤ sizeLine; decide), fun l0 hl0 => ?_⟩
    have S0 := same_new (o := .lst [.str ""]) hl0
    refine ⟨_, rfl, a, rfl, ⟨_, same_t S0 h1⟩, for_tup (K := K) (a := a) (xs := xs) (fun i σ H' => Same H H' ∧ ∃ (l : Addr) (o2 o3 o4 : Option V), σ = [some (.ref a), some (.ref l), o2, o3, o4, none] ∧ H' l = some (.lst ((prodW (rs.take i)).map V.str))) ⟨S0, l0, none, none, none, rfl, upd_same⟩ (fun i σ H' _ q => same_t q.1 h1) ?_ ?_⟩
    · rintro i x σ H1 hx ⟨S1, l, o2, o3, o4, rfl, hl⟩
      obtain ⟨ws, hws, p, rfl, hp⟩ := h2.at hx
      have hin := List.mem_of_getElem? hws
      have hm := cnt_more hws
      have hle : cnt (rs.take (i + 1)) ≤ 2000 := Nat.le_trans (cnt_take hpos _) c
      have hi : i < rs.length := (List.getElem?_eq_some_iff.mp hws).1
      have hi100 := h3.len.2
      have okw : WdsOk (i * 4000) (prodW (rs.take i)) := by
        have z := prodW_ok (b := 4000) (rs := rs.take i) fun r hr => (h3.row r (List.mem_of_mem_take hr)).2
        rw [List.length_take, Nat.min_eq_left (by omega)] at z
        exact z
      have okr := (h3.row ws hin).2
      have hp1 := same_t S1 hp
      have hmore := prodW_more hws
      generalize hW : prodW (rs.take i) = W at *
      have hlen : W.length * ws.length ≤ 2000 := by
        rw [← hW, prodW_len, ← hm]
        exact hle
      refine ⟨(by show 0 ≤ sizeLine; decide), fun D hD => ?_⟩
      have SD := same_new (o := .lst []) hD
      refine ⟨_, rfl, l, rfl, ⟨_, SqL.of (SD l _ hl)⟩, for_list (K := K) (a := l) (xs := W.map V.str) (fun j σ H2 => Same H1 H2 ∧ H2 D = some (.lst ((addRow (W.take j) ws).map V.str)) ∧ ∃ o4 : Option V, σ = [some (.ref a), some (.ref l), some (.ref p), some (.ref D), o4, none]) ⟨SD, upd_same, o4, rfl⟩ (fun j σ H2 _ q => SqL.of (q.1 l _ hl)) ?_ ?_⟩
      · rintro j y σ H2 hy ⟨S2, hD2, o5, rfl⟩
        rw [List.getElem?_map] at hy
        obtain ⟨z, hz, rfl⟩ := Option.map_eq_some_iff.mp hy
        have okz := (okw z (List.mem_of_getElem? hz)).2
        have hjl : j < W.length := (List.getElem?_eq_some_iff.mp hz).1
        have tk : W.take (j + 1) = W.take j ++ [z] := Bl.take_more hz
        have big : (addRow (W.take j) ws).length + ws.length ≤ 2000 := by
          have e : (addRow (W.take (j + 1)) ws).length = (addRow (W.take j) ws).length + ws.length := by
            rw [addRow_len, addRow_len, List.length_take, List.length_take, Nat.min_eq_left (by omega), Nat.min_eq_left (by omega), Nat.succ_mul]
          rw [← e, addRow_len, List.length_take, Nat.min_eq_left (by omega)]
          exact Nat.le_trans (Nat.mul_le_mul_right _ (by omega)) hlen
        refine ⟨_, rfl, .inl ⟨rfl, _, SqL.of hD2⟩, ?_⟩
        refine ⟨_, rfl, p, rfl, ⟨_, same_t S2 hp1⟩, fun E1 hE => lc_tup (K := K) (a := p) (xs := ws.map V.str) (fun q H3 => Same H2 H3 ∧ H3 E1 = some (.lst (((ws.take q).map fun x => z ++ x).map V.str))) ⟨same_new hE, upd_same⟩ (fun q H3 _ u => same_t (S2.trans u.1) hp1) ?_ ?_⟩
        · rintro q y H3 hy' ⟨S3, hE3⟩
          rw [List.getElem?_map] at hy'
          obtain ⟨y, hy, rfl⟩ := Option.map_eq_some_iff.mp hy'
          have oky := (okr y (List.mem_of_getElem? hy)).2
          have hql : q < ws.length := (List.getElem?_eq_some_iff.mp hy).1
          refine ⟨rfl, ?_⟩
          refine ⟨_, rfl, _, rfl, _, _, rfl, rfl, sl_big (by omega), _, hE3, ?_, fun b o hb => ?_, ?_⟩
          · rw [List.length_map, List.length_map, List.length_take]
            exact Nat.lt_of_lt_of_le (by omega) (sl_small (n := 100000) (Nat.le_refl _))
          · have nE : b ≠ E1 := ne_of_none hb hE
            rw [upd_ne nE]
            exact S3 b o hb
          · have tz : ws.take (q + 1) = ws.take q ++ [y] := Bl.take_more hy
            rw [tz, upd_same]
            simp only [List.map_append, List.map_cons, List.map_nil]
        · rintro H3 ⟨S3, hE3⟩
          rw [List.length_map, List.take_length] at hE3
          refine ⟨D, E1, _, _, rfl, rfl, S3 D _ hD2, hE3, ?_, fun b o hb => ?_, ?_, _, rfl⟩
          · rw [List.length_map, List.length_map, List.length_map]
            exact sl_small (by omega)
          · rw [upd_ne (ne_of_none hb hD)]
            exact S3 b o (S2 b o hb)
          · have e : addRow (W.take (j + 1)) ws = addRow (W.take j) ws ++ ws.map fun x => z ++ x := by
              rw [tk]
              unfold addRow
              rw [List.flatMap_append]
              simp
            rw [e, upd_same, List.map_append]
      · rintro σ H2 ⟨S2, hD2, o5, rfl⟩
        rw [List.length_map, List.take_length] at hD2
        refine ⟨_, rfl, S1.trans S2, D, _, _, _, rfl, ?_⟩
        rw [hmore]
        exact hD2
    · rintro σ H1 ⟨S1, l, o2, o3, o4, rfl, hl⟩
      have e : rs.take xs.length = rs := by rw [h2.len, List.take_length]
      rw [e] at hl
      exact ⟨_, rfl, k l H1 S1 hl⟩
/-! ### _law_multiplied -/
theorem len_no {n : Nat} {m : Int} {A B : Prop} (h : (n : Int) ≠ m) (b : B) : if decide (V.int (n : Int) = V.int m) = true then A else B := by
  rw [if_neg]
  · exact b
  · intro c
    exact h (V.int.inj (of_decide_eq_true c))
theorem len_yes {n : Nat} {m : Int} {A B : Prop} (h : (n : Int) = m) (a : A) : if decide (V.int (n : Int) = V.int m) = true then A else B := by
  rw [if_pos]
  · exact a
  · rw [h]
    exact decide_eq_true rfl
def LenOk (rs : List (List Str)) : Prop := (1 ≤ rs.length ∧ rs.length ≤ 4) ∨ rs.length = 20
/-- one to four rows, or twenty and more, of which twenty are asked for -/
def LenOk2 (rs : List (List Str)) : Prop := (1 ≤ rs.length ∧ rs.length ≤ 4) ∨ 20 ≤ rs.length
theorem LenOk.two {rs : List (List Str)} (h : LenOk rs) : LenOk2 rs ∧ rs.take 20 = rs := by
  rcases h with z | z
  · exact ⟨.inl z, List.take_of_length_le (by omega)⟩
  · exact ⟨.inr (by omega), List.take_of_length_le (by omega)⟩
theorem sum_take : ∀ (xs : List Nat) (n : Nat), (xs.take n).sum ≤ xs.sum
  | [], n => by simp
  | x :: xs, 0 => by simp
  | x :: xs, n + 1 => by
    have := sum_take xs n
    rw [List.take_succ_cons, List.sum_cons, List.sum_cons]
    omega
theorem fit_take {rs : List (List Str)} (h : Fit rs) (n : Nat) (h1 : 1 ≤ n) : Fit (rs.take n) := by
  have l := h.len
  refine ⟨by rw [List.length_take]; omega, fun r hr => h.row r (List.mem_of_mem_take hr), ?_, ?_⟩
  · rw [List.map_take]
    exact Nat.le_trans (sum_take _ _) h.sum
  · unfold weight
    rw [List.map_take]
    exact Nat.le_trans (sum_take _ _) h.wt
def spMuld (K : PySem.W.Frag) (C : Addr) : Sp := fun vs H Q E => ∃ (a : Addr) (xs : List V) (rs : List (List Str)), vs = [.ref a] ∧ SqT K H a xs ∧ RowsAt K H xs rs ∧ Fit rs ∧ LenOk2 rs ∧ Out K C (rs.take 20) H Q E
theorem scMuld : FnScope ["some", "a", "b", "c", "d", "e", "f", "g", "h", "i", "j", "k", "l", "m", "n", "o", "p", "q", "r", "s", "t"] ["some"] (defScope sMuld) := ⟨rfl, rfl, rfl, by decide +kernel, rfl, by decide +kernel, by decide +kernel⟩
theorem cons_of {l : List V} (h : 1 ≤ l.length) : ∃ x t, l = x :: t := by
  cases l with
  | nil => exact absurd h (by decide)
  | cons x t => exact ⟨x, t, rfl⟩
set_option maxHeartbeats 8000000 in
theorem ok_muld {f m C : Addr} {fd md : FuncData} (F : Fun K "_law_multiplied" "_law_multiplied" sMuld f fd) (T : Names mg) (M : Fun K "multiply" "multiply" sMul m md) (mM : mg "multiply" = some (.ref m)) (OM : FnR P w K mg base (L2.CX P w) 4 m (spMul K C)) :
    FnOk P w K mg base (L2.CX P w) 5 f fd ["some"] (spMuld K C) := by
  refine F.okX scMuld (fun vs H Q E h => ?_) (fun cdv A outer s H vs Q E hr h => ?_)
  · obtain ⟨a, xs, rs, rfl, _⟩ := h
    rfl
  · obtain ⟨a, xs, rs, rfl, h1, h2, h3, h4, k⟩ := h
    refine ⟨_, (pss_cons (ps_if (pt_cmpR op_eq (pe_callB call_len_seq (by rfl) T.len PySem.boot_len (pa_cons (pv 0) pa_nil)) pe_int (nomark _)) (pss_one (ps_ret (pe_callR OM hr (by rfl) mM M.kp (L2.passes_call (L2.takes_of rfl rfl rfl rfl) (fun _ _ _ _ h => h)) (pa_cons (pe_ix ix_tup (pv 0) pe_int (fun _ _ => rfl)) pa_nil)))) pss_nil)
      (pss_cons (ps_if (pt_cmpR op_eq (pe_callB call_len_seq (by rfl) T.len PySem.boot_len (pa_cons (pv 0) pa_nil)) pe_int (nomark _)) (pss_one (ps_ret (pe_callR OM hr (by rfl) mM M.kp (L2.passes_call (L2.takes_of rfl rfl rfl rfl) (fun _ _ _ _ h => h)) (pa_cons (pe_ix ix_tup (pv 0) pe_int (fun _ _ => rfl)) (pa_cons (pe_ix ix_tup (pv 0) pe_int (fun _ _ => rfl)) pa_nil))))) pss_nil)
      (pss_cons (ps_if (pt_cmpR op_eq (pe_callB call_len_seq (by rfl) T.len PySem.boot_len (pa_cons (pv 0) pa_nil)) pe_int (nomark _)) (pss_one (ps_ret (pe_callR OM hr (by rfl) mM M.kp (L2.passes_call (L2.takes_of rfl rfl rfl rfl) (fun _ _ _ _ h => h)) (pa_cons (pe_ix ix_tup (pv 0) pe_int (fun _ _ => rfl)) (pa_cons (pe_ix ix_tup (pv 0) pe_int (fun _ _ => rfl)) (pa_cons (pe_ix ix_tup (pv 0) pe_int (fun _ _ => rfl)) pa_nil)))))) pss_nil)
      (pss_cons (ps_if (pt_cmpR op_eq (pe_callB call_len_seq (by rfl) T.len PySem.boot_len (pa_cons (pv 0) pa_nil)) pe_int (nomark _)) (pss_one (ps_ret (pe_callR OM hr (by rfl) mM M.kp (L2.passes_call (L2.takes_of rfl rfl rfl rfl) (fun _ _ _ _ h => h)) (pa_cons (pe_ix ix_tup (pv 0) pe_int (fun _ _ => rfl)) (pa_cons (pe_ix ix_tup (pv 0) pe_int (fun _ _ => rfl)) (pa_cons (pe_ix ix_tup (pv 0) pe_int (fun _ _ => rfl)) (pa_cons (pe_ix ix_tup (pv 0) pe_int (fun _ _ => rfl)) pa_nil))))))) pss_nil)
      (Evl.pss_cut (ps_asg (pe_tup (pa_cons (pe_ix ix_tup (pv 0) pe_int (fun _ _ => rfl)) (pa_cons (pe_ix ix_tup (pv 0) pe_int (fun _ _ => rfl)) (pa_cons (pe_ix ix_tup (pv 0) pe_int (fun _ _ => rfl)) (pa_cons (pe_ix ix_tup (pv 0) pe_int (fun _ _ => rfl)) pa_nil))))) (pg_tup rfl (pgs_cons (pg_name (i := 1) scMuld.nd rfl (Or.inl rfl)) (pgs_cons (pg_name (i := 2) scMuld.nd rfl (Or.inl rfl)) (pgs_cons (pg_name (i := 3) scMuld.nd rfl (Or.inl rfl)) (pgs_cons (pg_name (i := 4) scMuld.nd rfl (Or.inl rfl)) pgs_nil))))))
      (Evl.pss_cut (ps_asg (pe_tup (pa_cons (pe_ix ix_tup (pv 0) pe_int (fun _ _ => rfl)) (pa_cons (pe_ix ix_tup (pv 0) pe_int (fun _ _ => rfl)) (pa_cons (pe_ix ix_tup (pv 0) pe_int (fun _ _ => rfl)) (pa_cons (pe_ix ix_tup (pv 0) pe_int (fun _ _ => rfl)) pa_nil))))) (pg_tup rfl (pgs_cons (pg_name (i := 5) scMuld.nd rfl (Or.inl rfl)) (pgs_cons (pg_name (i := 6) scMuld.nd rfl (Or.inl rfl)) (pgs_cons (pg_name (i := 7) scMuld.nd rfl (Or.inl rfl)) (pgs_cons (pg_name (i := 8) scMuld.nd rfl (Or.inl rfl)) pgs_nil))))))
      (Evl.pss_cut (ps_asg (pe_tup (pa_cons (pe_ix ix_tup (pv 0) pe_int (fun _ _ => rfl)) (pa_cons (pe_ix ix_tup (pv 0) pe_int (fun _ _ => rfl)) (pa_cons (pe_ix ix_tup (pv 0) pe_int (fun _ _ => rfl)) (pa_cons (pe_ix ix_tup (pv 0) pe_int (fun _ _ => rfl)) pa_nil))))) (pg_tup rfl (pgs_cons (pg_name (i := 9) scMuld.nd rfl (Or.inl rfl)) (pgs_cons (pg_name (i := 10) scMuld.nd rfl (Or.inl rfl)) (pgs_cons (pg_name (i := 11) scMuld.nd rfl (Or.inl rfl)) (pgs_cons (pg_name (i := 12) scMuld.nd rfl (Or.inl rfl)) pgs_nil))))))
      (Evl.pss_cut (ps_asg (pe_tup (pa_cons (pe_ix ix_tup (pv 0) pe_int (fun _ _ => rfl)) (pa_cons (pe_ix ix_tup (pv 0) pe_int (fun _ _ => rfl)) (pa_cons (pe_ix ix_tup (pv 0) pe_int (fun _ _ => rfl)) (pa_cons (pe_ix ix_tup (pv 0) pe_int (fun _ _ => rfl)) pa_nil))))) (pg_tup rfl (pgs_cons (pg_name (i := 13) scMuld.nd rfl (Or.inl rfl)) (pgs_cons (pg_name (i := 14) scMuld.nd rfl (Or.inl rfl)) (pgs_cons (pg_name (i := 15) scMuld.nd rfl (Or.inl rfl)) (pgs_cons (pg_name (i := 16) scMuld.nd rfl (Or.inl rfl)) pgs_nil))))))
      (Evl.pss_cut (ps_asg (pe_tup (pa_cons (pe_ix ix_tup (pv 0) pe_int (fun _ _ => rfl)) (pa_cons (pe_ix ix_tup (pv 0) pe_int (fun _ _ => rfl)) (pa_cons (pe_ix ix_tup (pv 0) pe_int (fun _ _ => rfl)) (pa_cons (pe_ix ix_tup (pv 0) pe_int (fun _ _ => rfl)) pa_nil))))) (pg_tup rfl (pgs_cons (pg_name (i := 17) scMuld.nd rfl (Or.inl rfl)) (pgs_cons (pg_name (i := 18) scMuld.nd rfl (Or.inl rfl)) (pgs_cons (pg_name (i := 19) scMuld.nd rfl (Or.inl rfl)) (pgs_cons (pg_name (i := 20) scMuld.nd rfl (Or.inl rfl)) pgs_nil))))))
      (pss_one (ps_ret (pe_callR OM hr (by rfl) mM M.kp (L2.passes_call (L2.takes_of rfl rfl rfl rfl) (fun _ _ _ _ h => h)) (pa_cons (pv 1) (pa_cons (pv 2) (pa_cons (pv 3) (pa_cons (pv 4) (pa_cons (pv 5) (pa_cons (pv 6) (pa_cons (pv 7) (pa_cons (pv 8) (pa_cons (pv 9) (pa_cons (pv 10) (pa_cons (pv 11) (pa_cons (pv 12) (pa_cons (pv 13) (pa_cons (pv 14) (pa_cons (pv 15) (pa_cons (pv 16) (pa_cons (pv 17) (pa_cons (pv 18) (pa_cons (pv 19) (pa_cons (pv 20) pa_nil)))))))))))))))))))))))))))))))), ?_⟩
    have hl := h2.len
    have hr20 : xs.length ≠ 0 := by
      have := h3.len.1
      omega
    rcases xs with _ | ⟨x0, _ | ⟨x1, _ | ⟨x2, _ | ⟨x3, _ | ⟨x4, xr⟩⟩⟩⟩⟩
    · exact absurd rfl hr20
    · refine ⟨_, rfl, a, _, rfl, .inr h1, rfl, _, rfl, len_yes (by show ((1 : Nat) : Int) = 1; decide) ?_⟩
      exact ⟨_, rfl, a, _, 0, x0, rfl, rfl, h1, rfl, _, h2.take 20, fit_take h3 20 (by decide), k⟩
    · refine ⟨_, rfl, a, _, rfl, .inr h1, rfl, _, rfl, len_no (by show ((2 : Nat) : Int) ≠ 1; decide) ?_⟩
      refine ⟨_, rfl, a, _, rfl, .inr h1, rfl, _, rfl, len_yes (by show ((2 : Nat) : Int) = 2; decide) ?_⟩
      exact ⟨_, rfl, a, _, 0, x0, rfl, rfl, h1, rfl, _, rfl, a, _, 1, x1, rfl, rfl, h1, rfl, _, h2.take 20, fit_take h3 20 (by decide), k⟩
    · refine ⟨_, rfl, a, _, rfl, .inr h1, rfl, _, rfl, len_no (by show ((3 : Nat) : Int) ≠ 1; decide) ?_⟩
      refine ⟨_, rfl, a, _, rfl, .inr h1, rfl, _, rfl, len_no (by show ((3 : Nat) : Int) ≠ 2; decide) ?_⟩
      refine ⟨_, rfl, a, _, rfl, .inr h1, rfl, _, rfl, len_yes (by show ((3 : Nat) : Int) = 3; decide) ?_⟩
      exact ⟨_, rfl, a, _, 0, x0, rfl, rfl, h1, rfl, _, rfl, a, _, 1, x1, rfl, rfl, h1, rfl, _, rfl, a, _, 2, x2, rfl, rfl, h1, rfl, _, h2.take 20, fit_take h3 20 (by decide), k⟩
    · refine ⟨_, rfl, a, _, rfl, .inr h1, rfl, _, rfl, len_no (by show ((4 : Nat) : Int) ≠ 1; decide) ?_⟩
      refine ⟨_, rfl, a, _, rfl, .inr h1, rfl, _, rfl, len_no (by show ((4 : Nat) : Int) ≠ 2; decide) ?_⟩
      refine ⟨_, rfl, a, _, rfl, .inr h1, rfl, _, rfl, len_no (by show ((4 : Nat) : Int) ≠ 3; decide) ?_⟩
      refine ⟨_, rfl, a, _, rfl, .inr h1, rfl, _, rfl, len_yes (by show ((4 : Nat) : Int) = 4; decide) ?_⟩
      exact ⟨_, rfl, a, _, 0, x0, rfl, rfl, h1, rfl, _, rfl, a, _, 1, x1, rfl, rfl, h1, rfl, _, rfl, a, _, 2, x2, rfl, rfl, h1, rfl, _, rfl, a, _, 3, x3, rfl, rfl, h1, rfl, _, h2.take 20, fit_take h3 20 (by decide), k⟩
    · have h20 : 15 ≤ xr.length := by
        rw [List.length_cons, List.length_cons, List.length_cons, List.length_cons, List.length_cons] at hl
        rcases h4 with z | z <;> omega
      obtain ⟨x5, xr, rfl⟩ := cons_of (l := xr) (by omega)
      rw [List.length_cons] at h20
      obtain ⟨x6, xr, rfl⟩ := cons_of (l := xr) (by omega)
      rw [List.length_cons] at h20
      obtain ⟨x7, xr, rfl⟩ := cons_of (l := xr) (by omega)
      rw [List.length_cons] at h20
      obtain ⟨x8, xr, rfl⟩ := cons_of (l := xr) (by omega)
      rw [List.length_cons] at h20
      obtain ⟨x9, xr, rfl⟩ := cons_of (l := xr) (by omega)
      rw [List.length_cons] at h20
      obtain ⟨x10, xr, rfl⟩ := cons_of (l := xr) (by omega)
      rw [List.length_cons] at h20
      obtain ⟨x11, xr, rfl⟩ := cons_of (l := xr) (by omega)
      rw [List.length_cons] at h20
      obtain ⟨x12, xr, rfl⟩ := cons_of (l := xr) (by omega)
      rw [List.length_cons] at h20
      obtain ⟨x13, xr, rfl⟩ := cons_of (l := xr) (by omega)
      rw [List.length_cons] at h20
      obtain ⟨x14, xr, rfl⟩ := cons_of (l := xr) (by omega)
      rw [List.length_cons] at h20
      obtain ⟨x15, xr, rfl⟩ := cons_of (l := xr) (by omega)
      rw [List.length_cons] at h20
      obtain ⟨x16, xr, rfl⟩ := cons_of (l := xr) (by omega)
      rw [List.length_cons] at h20
      obtain ⟨x17, xr, rfl⟩ := cons_of (l := xr) (by omega)
      rw [List.length_cons] at h20
      obtain ⟨x18, xr, rfl⟩ := cons_of (l := xr) (by omega)
      rw [List.length_cons] at h20
      obtain ⟨x19, xr, rfl⟩ := cons_of (l := xr) (by omega)
      rw [List.length_cons] at h20
      refine ⟨_, rfl, a, _, rfl, .inr h1, rfl, _, rfl, len_no (by simp only [List.length_cons]; omega) ?_⟩
      refine ⟨_, rfl, a, _, rfl, .inr h1, rfl, _, rfl, len_no (by simp only [List.length_cons]; omega) ?_⟩
      refine ⟨_, rfl, a, _, rfl, .inr h1, rfl, _, rfl, len_no (by simp only [List.length_cons]; omega) ?_⟩
      refine ⟨_, rfl, a, _, rfl, .inr h1, rfl, _, rfl, len_no (by simp only [List.length_cons]; omega) ?_⟩
      refine ⟨fun σ H' => σ = [some (.ref a), some x0, some x1, some x2, some x3, none, none, none, none, none, none, none, none, none, none, none, none, none, none, none, none] ∧ Same H H', ?_, ?_⟩
      · refine ⟨_, rfl, a, _, 0, x0, rfl, rfl, h1, atI_nat (j := 0) rfl, _, rfl, a, _, 1, x1, rfl, rfl, h1, atI_nat (j := 1) rfl, _, rfl, a, _, 2, x2, rfl, rfl, h1, atI_nat (j := 2) rfl, _, rfl, a, _, 3, x3, rfl, rfl, h1, atI_nat (j := 3) rfl, (by show 4 ≤ sizeLine; decide), fun p hp => ?_⟩
        have N := same_new (o := .tup [x0, x1, x2, x3]) hp
        exact ⟨p, _, rfl, SqT.of upd_same, rfl, _, _, rfl, _, _, rfl, _, _, rfl, _, _, rfl, rfl, rfl, N⟩
      rintro σ H1 ⟨rfl, S⟩
      refine ⟨fun σ H' => σ = [some (.ref a), some x0, some x1, some x2, some x3, some x4, some x5, some x6, some x7, none, none, none, none, none, none, none, none, none, none, none, none] ∧ Same H H', ?_, ?_⟩
      · refine ⟨_, rfl, a, _, 4, x4, rfl, rfl, same_t S h1, atI_nat (j := 4) rfl, _, rfl, a, _, 5, x5, rfl, rfl, same_t S h1, atI_nat (j := 5) rfl, _, rfl, a, _, 6, x6, rfl, rfl, same_t S h1, atI_nat (j := 6) rfl, _, rfl, a, _, 7, x7, rfl, rfl, same_t S h1, atI_nat (j := 7) rfl, (by show 4 ≤ sizeLine; decide), fun p hp => ?_⟩
        have N := same_new (o := .tup [x4, x5, x6, x7]) hp
        exact ⟨p, _, rfl, SqT.of upd_same, rfl, _, _, rfl, _, _, rfl, _, _, rfl, _, _, rfl, rfl, rfl, S.trans N⟩
      rintro σ H1 ⟨rfl, S⟩
      refine ⟨fun σ H' => σ = [some (.ref a), some x0, some x1, some x2, some x3, some x4, some x5, some x6, some x7, some x8, some x9, some x10, some x11, none, none, none, none, none, none, none, none] ∧ Same H H', ?_, ?_⟩
      · refine ⟨_, rfl, a, _, 8, x8, rfl, rfl, same_t S h1, atI_nat (j := 8) rfl, _, rfl, a, _, 9, x9, rfl, rfl, same_t S h1, atI_nat (j := 9) rfl, _, rfl, a, _, 10, x10, rfl, rfl, same_t S h1, atI_nat (j := 10) rfl, _, rfl, a, _, 11, x11, rfl, rfl, same_t S h1, atI_nat (j := 11) rfl, (by show 4 ≤ sizeLine; decide), fun p hp => ?_⟩
        have N := same_new (o := .tup [x8, x9, x10, x11]) hp
        exact ⟨p, _, rfl, SqT.of upd_same, rfl, _, _, rfl, _, _, rfl, _, _, rfl, _, _, rfl, rfl, rfl, S.trans N⟩
      rintro σ H1 ⟨rfl, S⟩
      refine ⟨fun σ H' => σ = [some (.ref a), some x0, some x1, some x2, some x3, some x4, some x5, some x6, some x7, some x8, some x9, some x10, some x11, some x12, some x13, some x14, some x15, none, none, none, none] ∧ Same H H', ?_, ?_⟩
      · refine ⟨_, rfl, a, _, 12, x12, rfl, rfl, same_t S h1, atI_nat (j := 12) rfl, _, rfl, a, _, 13, x13, rfl, rfl, same_t S h1, atI_nat (j := 13) rfl, _, rfl, a, _, 14, x14, rfl, rfl, same_t S h1, atI_nat (j := 14) rfl, _, rfl, a, _, 15, x15, rfl, rfl, same_t S h1, atI_nat (j := 15) rfl, (by show 4 ≤ sizeLine; decide), fun p hp => ?_⟩
        have N := same_new (o := .tup [x12, x13, x14, x15]) hp
        exact ⟨p, _, rfl, SqT.of upd_same, rfl, _, _, rfl, _, _, rfl, _, _, rfl, _, _, rfl, rfl, rfl, S.trans N⟩
      rintro σ H1 ⟨rfl, S⟩
      refine ⟨fun σ H' => σ = [some (.ref a), some x0, some x1, some x2, some x3, some x4, some x5, some x6, some x7, some x8, some x9, some x10, some x11, some x12, some x13, some x14, some x15, some x16, some x17, some x18, some x19] ∧ Same H H', ?_, ?_⟩
      · refine ⟨_, rfl, a, _, 16, x16, rfl, rfl, same_t S h1, atI_nat (j := 16) rfl, _, rfl, a, _, 17, x17, rfl, rfl, same_t S h1, atI_nat (j := 17) rfl, _, rfl, a, _, 18, x18, rfl, rfl, same_t S h1, atI_nat (j := 18) rfl, _, rfl, a, _, 19, x19, rfl, rfl, same_t S h1, atI_nat (j := 19) rfl, (by show 4 ≤ sizeLine; decide), fun p hp => ?_⟩
        have N := same_new (o := .tup [x16, x17, x18, x19]) hp
        exact ⟨p, _, rfl, SqT.of upd_same, rfl, _, _, rfl, _, _, rfl, _, _, rfl, _, _, rfl, rfl, rfl, S.trans N⟩
      rintro σ H1 ⟨rfl, S⟩
      exact ⟨_, rfl, _, rfl, _, rfl, _, rfl, _, rfl, _, rfl, _, rfl, _, rfl, _, rfl, _, rfl, _, rfl, _, rfl, _, rfl, _, rfl, _, rfl, _, rfl, _, rfl, _, rfl, _, rfl, _, rfl, _, (h2.mono S).take 20, fit_take h3 20 (by decide), k.pre S⟩
end
end K2
namespace K2
open PySem PySem.Spec PyProof.Rows L2 TL Bl
section
variable {P : Program} {w : World} {K : PySem.W.Frag} {mg : Str → Option Value} {base : Heap}
/-! ### _law_limit -/
def limV (rs : List (List Str)) : V := if 2000 < cnt rs then .int 2000 else .non
def spLimit (K : PySem.W.Frag) : Sp := fun vs H Q _ => ∃ (a : Addr) (xs : List V) (rs : List (List Str)), vs = [.ref a] ∧ SqT K H a xs ∧ RowsAt K H xs rs ∧ Fit rs ∧ LenOk2 rs ∧ ∀ l H', Same H H' → H' l = some (.lst [limV (rs.take 20), limV rs]) → Q (.ref l) H'
def tbLim (K : PySem.W.Frag) (C : Addr) : WX → TS := fun W => tSeq (tIfS (tTest (tOp rEq (tVar 2) (tC (.int 0)))) (tDrop (tCallS (spMuld K C) (WE W) (tCons (tVar 0) tNil))) (tDrop (tCallS (spAll K C) (WE W) (tCons (tVar 0) tNil)))) (tDrop (tBM K "list" rAppend (tVar 1) (tCons (tC .non) tNil)))
def tsLim (K : PySem.W.Frag) (C : Addr) : Addr → Value → Option Addr → TS := fun a cls d => tDrop (tBM K "list" rAppend (tVar 1) (tCons (tXf a cls d C "limit" (tVar 3)) tNil))
theorem scLimit : FnScope ["some", "found", "way", "e"] ["some"] (defScope sLimit) := ⟨rfl, rfl, rfl, by decide +kernel, rfl, by decide +kernel, by decide +kernel⟩
set_option maxHeartbeats 4000000 in
theorem ok_limit {f m o C fI : Addr} {fd md od id : FuncData} (F : Fun K "_law_limit" "_law_limit" sLimit f fd) (T : Names mg) (M : TM K mg C fI id)
    (U : Fun K "_law_multiplied" "_law_multiplied" sMuld m md) (mU : mg "_law_multiplied" = some (.ref m)) (bU : Binds K md ["some"] []) (OU : FnOk P w K mg base (L2.CX P w) 5 m md ["some"] (spMuld K C))
    (W : Fun K "written_out" "written_out" sWrit o od) (mW : mg "written_out" = some (.ref o)) (bW : Binds K od ["product"] []) (OW : FnOk P w K mg base (L2.CX P w) 5 o od ["product"] (spAll K C)) :
    FnOk P w K mg base CX0 6 f fd ["some"] (spLimit K) := by
  refine F.ok scLimit (fun vs H Q E h => ?_) (fun cdv A outer s H vs Q E hr h => ?_)
  · obtain ⟨a, xs, rs, rfl, _⟩ := h
    rfl
  · obtain ⟨a, xs, rs, rfl, h1, h2, h3, h4, k⟩ := h
    refine ⟨_, pss_cons (ps_set (i := 1) scLimit.nd rfl (Or.inl rfl) (pe_lst pa_nil))
      (pss_cons (ps_for PassesOwn.never rfl (pi_range1 (by rfl) T.range (pa_cons pe_int pa_nil)) (pg_name (i := 2) scLimit.nd rfl (Or.inl rfl))
        (pss_one (L2.ps_try_as (i := 3) (tb := tbLim K C) (ts := tsLim K C) (Wout := fun _ _ _ _ => False) rfl rfl scLimit.nd rfl rfl ⟨rfl, by decide, .inl M.gC⟩ takes0
          (fun W0 pn xe tk _ => pss_cons (ps_if (pt_cmpR op_eq (pv 2) pe_int (nomark _)) (pss_one (ps_expr (pe_callS OU hr (by rfl) mU U.kp bU (fun σ => passAt tk σ) (pa_cons (pv 0) pa_nil))))
              (pss_one (ps_expr (pe_callS OW hr (by rfl) mW W.kp bW (fun σ => passAt tk σ) (pa_cons (pv 0) pa_nil)))))
            (pss_one (ps_expr (pe_bm PySem.F.plainAttrs_list PySem.F.slot_list_append PySem.F.type_list_append mt_append (pv 1) (pa_cons pe_non pa_nil)))))
          (fun a oe cls d pn hz hf => pss_one (ps_expr (pe_bm PySem.F.plainAttrs_list PySem.F.slot_list_append PySem.F.type_list_append mt_append (pv 1) (pa_cons (pe_xf M.xf M.no hz hf (pv 3)) pa_nil)))))))
      (pss_one (ps_ret (pv 1)))), ?_⟩
    refine ⟨(by show 0 ≤ sizeLine; decide), fun l hl => ?_⟩
    have S0 := same_new (o := .lst []) hl
    refine ⟨2, rfl, by decide, by decide, for_range (lo := 0) (n := 2) (g := gName 2) (tb := fun D σ H => tbLim K C (wAs K (.ref C) 3 (tsLim K C) (fun _ _ _ _ => False) D) D σ H) (fun i σ H' => Same H H' ∧ H' l = some (.lst ([limV (rs.take 20), limV rs].take i)) ∧ ∃ o2 : Option V, σ = [some (.ref a), some (.ref l), o2, none]) ⟨S0, upd_same, none, rfl⟩ ?_ ?_⟩
    · rintro i σ H1 hi ⟨S1, hl1, o2, rfl⟩
      have hi01 : i = 0 ∨ i = 1 := by omega
      rcases hi01 with rfl | rfl
      · refine ⟨_, rfl, rfl, _, rfl, ite2 (fun _ => ⟨_, rfl, a, xs, rs, rfl, same_t S1 h1, h2.mono S1, h3, h4, ?_, ?_⟩) (fun z => absurd (decide_eq_true rfl) z)⟩
        · intro c p H2 S2 hp
          have hl2 := S2 l _ hl1
          refine ⟨_, rfl, .inl ⟨rfl, _, SqL.of hl2⟩, l, _, _, rfl, rfl, hl2, (by show 0 < sizeLine; decide), fun b o hb => ?_, ?_, _, rfl⟩
          · rw [upd_ne (ne_of_none hb hl)]
            exact S2 b o (S1 b o hb)
          · have e : limV (rs.take 20) = .non := if_neg (by omega)
            rw [upd_same, ← e]
            rfl
        · intro c d H2 S2 hd
          have hl2 := S2 l _ hl1
          refine ⟨true, M.te, fun _ e he => ?_, fun q => Bool.noConfusion q⟩
          refine ⟨_, rfl, .inl ⟨rfl, _, SqL.of hl2⟩, ?_⟩
          refine ⟨_, rfl, rfl, rfl, d, _, _, rfl, hd, rfl, l, _, _, rfl, rfl, hl2, (by show 0 < sizeLine; decide), fun b o hb => ?_, ?_, _, rfl⟩
          · rw [upd_ne (ne_of_none hb hl)]
            exact S2 b o (S1 b o hb)
          · have e : limV (rs.take 20) = .int 2000 := if_pos (by omega)
            rw [upd_same, ← e]
            rfl
      · refine ⟨_, rfl, rfl, _, rfl, ite2 (fun z => absurd (V.int.inj (of_decide_eq_true z)) (by decide)) (fun _ => ⟨_, rfl, a, xs, rs, rfl, same_t S1 h1, h2.mono S1, h3, ?_, ?_⟩)⟩
        · intro c p H2 S2 hp
          have hl2 := S2 l _ hl1
          refine ⟨_, rfl, .inl ⟨rfl, _, SqL.of hl2⟩, l, _, _, rfl, rfl, hl2, (by show 1 < sizeLine; decide), fun b o hb => ?_, ?_, _, rfl⟩
          · rw [upd_ne (ne_of_none hb hl)]
            exact S2 b o (S1 b o hb)
          · have e : limV rs = .non := if_neg (by omega)
            rw [upd_same, ← e]
            rfl
        · intro c d H2 S2 hd
          have hl2 := S2 l _ hl1
          refine ⟨true, M.te, fun _ e he => ?_, fun q => Bool.noConfusion q⟩
          refine ⟨_, rfl, .inl ⟨rfl, _, SqL.of hl2⟩, ?_⟩
          refine ⟨_, rfl, rfl, rfl, d, _, _, rfl, hd, rfl, l, _, _, rfl, rfl, hl2, (by show 1 < sizeLine; decide), fun b o hb => ?_, ?_, _, rfl⟩
          · rw [upd_ne (ne_of_none hb hl)]
            exact S2 b o (S1 b o hb)
          · have e : limV rs = .int 2000 := if_pos (by omega)
            rw [upd_same, ← e]
            rfl
    · rintro σ H1 ⟨S1, hl1, o2, rfl⟩
      exact ⟨_, rfl, k l H1 S1 hl1⟩
end
end K2
namespace K2
open PySem PySem.Spec PyProof.Rows L2 TL Bl
section
variable {P : Program} {w : World} {K : PySem.W.Frag} {mg : Str → Option Value} {base : Heap}
/-! ### _law_rows -/
/-- what is drawn -/
structure Drawn (rs : List (List Str)) : Prop where
  len : LenOk rs
  row : ∀ r ∈ rs, 1 ≤ r.length ∧ r.length ≤ 60 ∧ WdsOk 200 r
  cnt : cnt rs ≤ 2000
  area : Bl.cnt rs * (rs.length * 200 + 4) ≤ 1300000
def spRows (K : PySem.W.Frag) : Sp := fun vs H Q _ => ∃ (t : Addr) (n : Nat), vs = [.ref t] ∧ Tray H t n ∧ n ≤ 500000 ∧
  ∀ p xs rs H', SqT K (mask t H') p xs → RowsAt K (mask t H') xs rs → Drawn rs → Tray H' t (n + 100000) → But t H H' → Q (.ref p) H'
theorem scRows : FnScope ["tray", "turn", "few", "found", "room", "place"] ["tray"] (defScope sRows) := ⟨rfl, rfl, rfl, by decide +kernel, rfl, by decide +kernel, by decide +kernel⟩
/-- how many of the first numbers are among some -/
def hits (ns : List Nat) (i : Nat) : Nat := ((List.range i).filter fun j => decide (j ∈ ns)).length
theorem hits_list : ∀ (L ns : List Nat), L.Nodup → (L.filter fun j => decide (j ∈ ns)).length ≤ ns.length
  | [], _, _ => Nat.zero_le _
  | x :: L, ns, h => by
    obtain ⟨h1, h2⟩ := List.nodup_cons.mp h
    by_cases hx : x ∈ ns
    · have e : (L.filter fun j => decide (j ∈ ns)) = L.filter fun j => decide (j ∈ ns.erase x) := by
        apply List.filter_congr
        intro y hy
        have ne : y ≠ x := fun z => h1 (z ▸ hy)
        rw [decide_eq_decide]
        exact (List.mem_erase_of_ne ne).symm
      have ih := hits_list L (ns.erase x) h2
      have el := List.length_erase_of_mem hx
      have pos := List.length_pos_of_mem hx
      rw [List.filter_cons_of_pos (by simpa using hx), List.length_cons, e]
      omega
    · rw [List.filter_cons_of_neg (by simpa using hx)]
      exact hits_list L ns h2
theorem hits_le (ns : List Nat) (i : Nat) : hits ns i ≤ ns.length := hits_list _ _ List.nodup_range
theorem hits_more (ns : List Nat) (i : Nat) : hits ns (i + 1) = hits ns i + (if i ∈ ns then 1 else 0) := by
  unfold hits
  rw [List.range_succ, List.filter_append, List.length_append]
  by_cases h : i ∈ ns
  · simp [h]
  · simp [h]
def nv (x : Nat) : V := .int (x : Int)
theorem inV_nat {i : Nat} {ns : List Nat} (h : inV (.int (i : Int)) (ns.map nv) = true) : i ∈ ns := by
  unfold inV at h
  rw [List.any_eq_true] at h
  obtain ⟨v, hv, e⟩ := h
  obtain ⟨x, hx, rfl⟩ := List.mem_map.mp hv
  have e : (x : Int) = (i : Int) := by
    simpa [nv, eqV] using e
  have : i = x := by omega
  rw [this]
  exact hx
theorem flats (ns : List Nat) : (ns.map nv).all flatV = true := by
  rw [List.all_eq_true]
  intro v hv
  obtain ⟨x, _, rfl⟩ := List.mem_map.mp hv
  rfl
set_option maxHeartbeats 8000000 in
theorem ok_rows {f g ro : Addr} {fd gd rod : FuncData} (F : Fun K "_law_rows" "_law_rows" sRows f fd) (T : Names mg) (G : Fun K "_law_take" "_law_take" sTake g gd) (mG : mg "_law_take" = some (.ref g)) (bG : Binds K gd ["tray", "many"] [])
    (FO : Fun K "_law_row" "_law_row" sRow ro rod) (mO : mg "_law_row" = some (.ref ro)) (bO : Binds K rod ["tray", "most"] []) (OO : FnOk P w K mg base CX0 3 ro rod ["tray", "most"] spRow) :
    FnOk P w K mg base CX0 4 f fd ["tray"] (spRows K) := by
  refine F.ok scRows (fun vs H Q E h => ?_) (fun cdv A outer s H vs Q E hr h => ?_)
  · obtain ⟨t, n, rfl, _⟩ := h
    rfl
  · obtain ⟨t, n, rfl, hT, hn, k⟩ := h
    have OT : FnOk P w K mg base CX0 1 g gd ["tray", "many"] spTake := ok_take G
    have hr1 : Room 1 _ := hr.mono (by decide)
    refine ⟨_, Evl.pss_cut (ps_if (pt_cmpR op_eq (pe_call OT hr1 (by rfl) mG G.kp bG .nil pass0 (pa_cons (pv 0) (pa_cons pe_int pa_nil))) pe_int (nomark _))
        (Evl.pss_cut (ps_set (i := 2) scRows.nd rfl (Or.inr rfl) (pe_lc (own := [("turn", 1)]) (g := gName 1) (tt := tYes) rfl scRows.nd (pi_range1 (by rfl) T.range (pa_cons pe_int pa_nil))
            (blkOk_by (N := ["tray", "turn", "few", "found", "room", "place"]) (sc := defScope sRows) (by decide +kernel)) (fun _ _ _ _ _ => pg_name (i := 1) scRows.nd rfl (Or.inl rfl)) (fun _ _ _ _ _ => pts_nil)
            (fun _ _ _ _ _ => pe_call OT hr1 (by rfl) mG G.kp bG .nil pass0 (pa_cons (pv 0) (pa_cons pe_int pa_nil)))))
          (pss_one (ps_ret (pe_callTy call_tuple_of (by rfl) T.tuple (by decide +kernel) (pa_cons (pe_lc (own := [("place", 5)]) (g := gName 5) (tt := tYes) rfl scRows.nd (pi_range1 (by rfl) T.range (pa_cons pe_int pa_nil))
            (blkOk_by (N := ["tray", "turn", "few", "found", "room", "place"]) (sc := defScope sRows) (by decide +kernel)) (fun _ _ _ _ _ => pg_name (i := 5) scRows.nd rfl (Or.inl rfl)) (fun _ _ _ _ _ => pts_nil)
            (fun _ _ _ _ _ => pe_op (r := rCatN K) op_catN (pe_call OO hr (by rfl) mO FO.kp bO .nil pass0 (pa_cons (pv 0) (pa_cons pe_int pa_nil)))
              (pe_slice (r := rSlN K) sl_tupN (pe_call OO hr (by rfl) mO FO.kp bO .nil pass0 (pa_cons (pv 0) (pa_cons pe_int pa_nil))) po_none
                (po_some (pe_callTy call_int1 (by rfl) T.int (by decide +kernel) (pa_cons (pe_cmpR (r := rIn K false) op_in_seq (pv 5) (pv 2) (by rfl)) pa_nil)))))) pa_nil))))) pss_nil)
      (Evl.pss_cut (ps_par (i := 3) (j := 4) rfl scRows.nd rfl rfl (by decide) rfl rfl (pa_cons (pe_lst pa_nil) (pa_cons pe_int pa_nil)) (by rfl))
      (Evl.pss_cut (ps_for PassesOwn.never rfl (pi_range1 (by rfl) T.range (pa_cons (pe_op op_add pe_int (pe_call OT hr1 (by rfl) mG G.kp bG .nil pass0 (pa_cons (pv 0) (pa_cons pe_int pa_nil)))) pa_nil)) (pg_name (i := 1) scRows.nd rfl (Or.inl rfl))
        (Evl.pss_cut (ps_expr (pe_bm PySem.F.plainAttrs_list PySem.F.slot_list_append PySem.F.type_list_append mt_append (pv 3) (pa_cons (pe_call OO hr (by rfl) mO FO.kp bO .nil pass0 (pa_cons (pv 0) (pa_cons
            (pe_callB (call_max2 rfl) (by rfl) T.max boot_max (pa_cons pe_int (pa_cons (pe_callB (call_min2 rfl) (by rfl) T.min boot_min (pa_cons pe_int (pa_cons (pv 4) pa_nil))) pa_nil))) pa_nil))) pa_nil)))
        (pss_one (ps_set (i := 4) scRows.nd rfl (Or.inl rfl) (pe_op op_fdiv (pv 4) (pe_callB call_len_seq (by rfl) T.len PySem.boot_len (pa_cons (pe_ix ix_list (pv 3) (pe_un un_neg pe_int) (fun _ _ => rfl)) pa_nil)))))))
      (pss_one (ps_ret (pe_callTy call_tuple_of (by rfl) T.tuple (by decide +kernel) (pa_cons (pv 3) pa_nil)))))), ?_⟩
    refine ⟨fun σ H1 => σ = [some (.ref t), none, none, none, none, none] ∧ Tray H1 t (n + 1) ∧ But t H H1, ?_, ?_⟩
    · refine ⟨_, rfl, t, 4, n, rfl, by decide, log_small (by decide) (by decide), hT, by omega, fun v H1 v0 v1 T1 B1 => ⟨rfl, _, rfl, ite2 (fun _ => ?_) (fun _ => ⟨rfl, T1, B1⟩)⟩⟩
      -- twenty rows
      refine ⟨fun σ H2 => ∃ (lf : Addr) (ns : List Nat), σ = [some (.ref t), none, some (.ref lf), none, none, none] ∧ H2 lf = some (.lst (ns.map nv)) ∧ lf ≠ t ∧ ns.length = 7 ∧ Tray H2 t (n + 8) ∧ But t H1 H2, ?_, ?_⟩
      · refine ⟨7, rfl, by decide, by decide, fun D hD => ?_⟩
        have nD : D ≠ t := (T1.ne hD).symm
        refine lc_range (lo := 0) (n := 7) (fun i H' => Tray H' t (n + 1 + i) ∧ But t H1 H' ∧ ∃ ns : List Nat, H' D = some (.lst (ns.map nv)) ∧ ns.length = i) ⟨T1.new hD, But.new hD, [], upd_same, rfl⟩ ?_ ?_
        · rintro i H' hi ⟨T6, B6, ns, hns, hl⟩
          refine ⟨rfl, ?_⟩
          refine ⟨_, rfl, t, 20, n + 1 + i, rfl, by decide, log_small (by decide) (by decide), T6, by omega, fun u H7 u0 u1 T7 B7 => ?_⟩
          refine ⟨_, B7 D _ nD hns, ?_, T7.of (upd_ne nD.symm), fun b o hb hbo => ?_, ns ++ [u.toNat], ?_, ?_⟩
          · rw [List.length_map]
            exact Nat.lt_of_lt_of_le (by omega) (sl_small (n := 100000) (Nat.le_refl _))
          · rw [upd_ne (ne_of_none hbo hD)]
            exact B7 b o hb (B6 b o hb hbo)
          · have e0 : ((u.toNat : Nat) : Int) = u := by omega
            have e : nv u.toNat = V.int u := by
              unfold nv
              rw [e0]
            rw [upd_same, List.map_append, List.map_cons, List.map_nil, e]
          · rw [List.length_append, hl]
            rfl
        · rintro H' ⟨T6, B6, ns, hns, hl⟩
          exact ⟨D, ns, rfl, hns, nD, hl, T6.mono (by omega), B6⟩
      rintro σ H2 ⟨lf, ns, rfl, hlf, nlf, hl7, T2, B2⟩
      refine ⟨20, rfl, by decide, by decide, fun D hD => ?_⟩
      have nD : D ≠ t := (T2.ne hD).symm
      refine lc_range (lo := 0) (n := 20) (fun i H' => Tray H' t (n + 8 + i * 2400) ∧ But t H2 H' ∧ ∃ (rows : List V) (rs : List (List Str)), H' D = some (.lst rows) ∧ rs.length = i ∧ RowsAt K (mask D (mask t H')) rows rs ∧ (∀ r ∈ rs, 1 ≤ r.length ∧ r.length ≤ 2 ∧ WdsOk 200 r) ∧ cnt rs ≤ 2 ^ hits ns i) ⟨T2.new hD, But.new hD, [], [], upd_same, rfl, .nil, (fun r hr => by cases hr), Nat.le_refl _⟩ ?_ ?_
      · rintro i H' hi ⟨T6, B6, rows, rs, hrows, hl, hR, hok, hc⟩
        refine ⟨rfl, ?_⟩
        refine ⟨_, rfl, t, 1, n + 8 + i * 2400, rfl, by decide, by decide, T6, by omega, fun p1 ws1 H3 hp1 np1 hpt1 a1 b1 ok1 T3 B3 => ?_⟩
        refine ⟨_, rfl, t, 1, n + 8 + i * 2400 + 1000 + 200 * 1, rfl, by decide, by decide, T3, by omega, fun p2 ws2 H4 hp2 np2 hpt2 a2 b2 ok2 T4 B4 => ?_⟩
        have hlf4 := B4 lf _ nlf (B3 lf _ nlf (B6 lf _ nlf hlf))
        refine ⟨_, rfl, _, rfl, lf, _, rfl, .inl (SqL.of hlf4), rfl, flats ns, .inr ⟨_, rfl, _, rfl, ?_⟩⟩
        have hcut : ∃ c : Nat, c ≤ 1 ∧ (c = 1 → i ∈ ns) ∧ (if (if false = true then !inV (V.int (0 + (i : Int))) (ns.map nv) else inV (V.int (0 + (i : Int))) (ns.map nv)) = true then (1 : Int) else 0) = (c : Int) := by
          have e0 : (0 : Int) + (i : Int) = (i : Int) := Int.zero_add _
          rw [e0]
          by_cases hb : inV (.int (i : Int)) (ns.map nv) = true
          · exact ⟨1, Nat.le_refl _, fun _ => inV_nat hb, by rw [if_neg (by decide : ¬ false = true), if_pos hb]; rfl⟩
          · exact ⟨0, by decide, fun z => absurd z (by decide), by rw [if_neg (by decide : ¬ false = true), if_neg hb]; rfl⟩
        obtain ⟨c, hc1, hc2, ec⟩ := hcut
        rw [ec]
        refine ⟨p2, _, rfl, SqT.of hpt2, fun q H5 S5 hq => ?_⟩
        rw [cutV_to, ← List.map_take] at hq
        refine ⟨p1, q, _, _, rfl, rfl, SqT.of (S5 p1 _ (B4 p1 _ np1 hpt1)), hq, ?_, fun q2 H6 S6 hq2 => ?_⟩
        · rw [List.length_map, List.length_map, List.length_take]
          exact sl_small (by omega)
        rw [← List.map_append] at hq2
        have T6' := tray_same (tray_same T4 S5) S6
        have B := (B3.trans B4).trans ((but_of S5).trans (but_of (t := t) S6))
        have hD6 := B D _ nD hrows
        have hlen : (ws1 ++ ws2.take c).length = ws1.length + min c ws2.length := by rw [List.length_append, List.length_take]
        refine ⟨rows, hD6, ?_, T6'.of (upd_ne nD.symm) |>.mono (by omega), fun b o hb hbo => ?_, rows ++ [.ref q2], rs ++ [ws1 ++ ws2.take c], upd_same, ?_, rows_snoc hR B nD hD6 T6' hq2, ?_, ?_⟩
        · have := hR.len
          exact Nat.lt_of_lt_of_le (by omega) (sl_small (n := 100000) (Nat.le_refl _))
        · rw [upd_ne (ne_of_none hbo hD)]
          exact B b o hb (B6 b o hb hbo)
        · rw [List.length_append, hl]
          rfl
        · intro r hr
          rcases List.mem_append.mp hr with h | h
          · exact hok r h
          · rw [List.mem_singleton] at h
            rw [h, hlen]
            refine ⟨by omega, by omega, fun x hx => ?_⟩
            rcases List.mem_append.mp hx with z | z
            · exact ok1 x z
            · exact ok2 x (List.mem_of_mem_take z)
        · rw [cnt_app]
          have e1 : Bl.cnt [ws1 ++ ws2.take c] = ws1.length + min c ws2.length := by
            show 1 * (ws1 ++ ws2.take c).length = _
            rw [Nat.one_mul, hlen]
          rw [e1, hits_more]
          by_cases hin : i ∈ ns
          · rw [if_pos hin, Nat.pow_succ]
            exact Nat.mul_le_mul hc (by omega)
          · have c0 : c = 0 := by
              rcases Nat.lt_or_ge c 1 with z | z
              · omega
              · exact absurd (hc2 (by omega)) hin
            rw [if_neg hin, Nat.add_zero]
            have := Nat.mul_le_mul hc (show ws1.length + min c ws2.length ≤ 1 by omega)
            rw [Nat.mul_one] at this
            exact this
      · rintro H' ⟨T6, B6, rows, rs, hrows, hl, hR, hok, hc⟩
        have hl : rs.length = 20 := hl
        refine ⟨D, rows, rfl, .inl ⟨SqL.of hrows, fun q hq => ?_⟩⟩
        have N : Same H' (upd H' q (.tup rows)) := same_new hq
        have T7 := tray_same T6 N
        refine k q rows rs _ (mask_t T7 (SqT.of upd_same)) ((hR.mono (mask_same D _)).mono (mask_but (but_of N))) ⟨.inr hl, fun r hr => ?_, ?_, ?_⟩ (T7.mono (by omega)) ((B1.trans B2).trans (B6.trans (but_of N)))
        · obtain ⟨z1, z2, z3⟩ := hok r hr
          exact ⟨z1, by omega, z3⟩
        · have h7 := hits_le ns 20
          have h8 : Bl.cnt rs ≤ 2 ^ hits ns 20 := hc
          have : 2 ^ hits ns 20 ≤ 2 ^ 7 := Nat.pow_le_pow_right (by decide) (by omega)
          have : Bl.cnt rs ≤ 2 ^ 7 := Nat.le_trans h8 this
          exact Nat.le_trans this (by decide)
        · have h7 := hits_le ns 20
          have h8 : Bl.cnt rs ≤ 2 ^ hits ns 20 := hc
          have : 2 ^ hits ns 20 ≤ 2 ^ 7 := Nat.pow_le_pow_right (by decide) (by omega)
          have : Bl.cnt rs ≤ 2 ^ 7 := Nat.le_trans h8 this
          rw [hl]
          exact Nat.le_trans (Nat.mul_le_mul_right _ this) (by decide)
    rintro σ H1 ⟨rfl, T1, B1⟩
    -- one to four rows
    refine ⟨fun σ H2 => ∃ l : Addr, σ = [some (.ref t), none, none, some (.ref l), some (.int 1500), none] ∧ H2 l = some (.lst []) ∧ H1 l = none ∧ Tray H2 t (n + 1) ∧ But t H1 H2, ?_, ?_⟩
    · refine ⟨(by show 0 ≤ sizeLine; decide), fun l hl => ⟨_, _, rfl, l, rfl, upd_same, hl, T1.new hl, But.new hl⟩⟩
    rintro σ H2 ⟨l, rfl, hl, nl1, T2, B2⟩
    have nl : l ≠ t := (T1.ne nl1).symm
    refine ⟨fun σ H3 => ∃ (rows : List V) (rs : List (List Str)) (o1 o4 : Option V), σ = [some (.ref t), o1, none, some (.ref l), o4, none] ∧ H3 l = some (.lst rows) ∧ (1 ≤ rs.length ∧ rs.length ≤ 4) ∧ RowsAt K (mask l (mask t H3)) rows rs ∧ (∀ r ∈ rs, 1 ≤ r.length ∧ r.length ≤ 60 ∧ WdsOk 200 r) ∧ Bl.cnt rs ≤ 1500 ∧ Tray H3 t (n + 60000) ∧ But t H1 H3, ?_, ?_⟩
    · refine ⟨_, rfl, t, 4, n + 1, rfl, by decide, log_small (by decide) (by decide), T2, by omega, fun v H3 v0 v1 T3 B3 => ?_⟩
      refine ⟨_, _, rfl, rfl, _, rfl, by omega, by omega, for_range (lo := 0) (fun i σ H' => Tray H' t (n + 2 + i * 13000) ∧ But t H1 H' ∧ ∃ (rows : List V) (rs : List (List Str)) (room : Nat) (o1 : Option V), σ = [some (.ref t), o1, none, some (.ref l), some (.int (room : Int)), none] ∧ H' l = some (.lst rows) ∧ rs.length = i ∧ RowsAt K (mask l (mask t H')) rows rs ∧ (∀ r ∈ rs, 1 ≤ r.length ∧ r.length ≤ 60 ∧ WdsOk 200 r) ∧ 1 ≤ room ∧ Bl.cnt rs * room ≤ 1500)
        ⟨T3, B2.trans B3, [], [], 1500, none, rfl, B3 l _ nl hl, rfl, .nil, (fun r hr => by cases hr), by decide, by decide⟩ ?_ ?_⟩
      · rintro i σ H' hi ⟨T4, B4, rows, rs, room, o1, rfl, hrows, hlen, hR, hok, hr1', hc⟩
        have hi4 : i < 4 := by omega
        refine ⟨fun σ H5 => ∃ (p : Addr) (ws : List Str) (o1 : Option V), σ = [some (.ref t), o1, none, some (.ref l), some (.int (room : Int)), none] ∧ H5 l = some (.lst (rows ++ [.ref p])) ∧ SqT K H5 p (ws.map V.str) ∧ 1 ≤ ws.length ∧ ws.length ≤ 60 ∧ ws.length ≤ room ∧ WdsOk 200 ws ∧ RowsAt K (mask l (mask t H5)) (rows ++ [.ref p]) (rs ++ [ws]) ∧ Tray H5 t (n + 2 + (i + 1) * 13000) ∧ But t H1 H5, ?_, ?_⟩
        · refine ⟨_, rfl, .inl ⟨rfl, _, SqL.of hrows⟩, ?_⟩
          obtain ⟨m, em, m1, m60, mr⟩ : ∃ m : Nat, (if (if (room : Int) < 60 then (room : Int) else 60) > 1 then (if (room : Int) < 60 then (room : Int) else 60) else 1) = (m : Int) ∧ 1 ≤ m ∧ m ≤ 60 ∧ m ≤ room := by
            refine ⟨max 1 (min 60 room), ?_, by omega, by omega, by omega⟩
            split <;> split <;> omega
          refine ⟨_, rfl, _, rfl, _, _, rfl, _, _, rfl, t, m, _, by rw [em]; rfl, m1, m60, T4, by omega, fun p ws H5 hp np hpt w1 w2 wok T5 B5 => ?_⟩
          have hl5 := B5 l _ nl hrows
          refine ⟨l, rows, .ref p, rfl, rfl, hl5, ?_, p, ws, _, rfl, upd_same, sqt_upd hl5 (SqT.of hpt), w1, by omega, by omega, wok, rows_snoc hR B5 nl hl5 T5 (SqT.of hpt), T5.of (upd_ne nl.symm) |>.mono ?_, fun b o hb hbo => ?_⟩
          · have := hR.len
            exact Nat.lt_of_lt_of_le (by omega) (sl_small (n := 100000) (Nat.le_refl _))
          · have : 200 * m ≤ 12000 := by omega
            omega
          · rw [upd_ne (ne_of_none hbo nl1)]
            exact B5 b o hb (B4 b o hb hbo)
        rintro σ H5 ⟨p, ws, o1, rfl, hl5, hp, w1, w60, wr, wok, hR5, T5, B5⟩
        refine ⟨_, rfl, _, rfl, _, rfl, l, _, -1, .ref p, rfl, rfl, SqL.of hl5, at_last, p, _, rfl, .inr hp, _, _, rfl, rfl, ?_, T5, B5, rows ++ [.ref p], rs ++ [ws], room / ws.length, o1, ?_, hl5, ?_, hR5, ?_, ?_, ?_⟩
        · rw [List.length_map]
          constructor <;> omega
        · rw [List.length_map]
          rfl
        · rw [List.length_append, hlen]
          rfl
        · intro r hr
          rcases List.mem_append.mp hr with h | h
          · exact hok r h
          · rw [List.mem_singleton] at h
            rw [h]
            exact ⟨w1, w60, wok⟩
        · exact Nat.div_pos wr (by omega)
        · rw [cnt_app]
          have e1 : Bl.cnt [ws] = ws.length := by
            show 1 * ws.length = _
            rw [Nat.one_mul]
          rw [e1, Nat.mul_assoc]
          exact Nat.le_trans (Nat.mul_le_mul_left _ (Nat.mul_div_le room ws.length)) hc
      · rintro σ H' ⟨T4, B4, rows, rs, room, o1, rfl, hrows, hlen, hR, hok, hr1', hc⟩
        refine ⟨rows, rs, _, _, rfl, hrows, by omega, hR, hok, ?_, T4.mono (by omega), B4⟩
        exact Nat.le_trans (Nat.le_mul_of_pos_right _ hr1') hc
    rintro σ H3 ⟨rows, rs, o1, o4, rfl, hrows, hlen, hR, hok, hc, T3, B3⟩
    refine ⟨_, rfl, l, rows, rfl, .inl ⟨SqL.of hrows, fun q hq => ?_⟩⟩
    have N : Same H3 (upd H3 q (.tup rows)) := same_new hq
    have T7 := tray_same T3 N
    exact k q rows rs _ (mask_t T7 (SqT.of upd_same)) ((hR.mono (mask_same l _)).mono (mask_but (but_of N))) ⟨.inl hlen, hok, by omega, Nat.le_trans (Nat.mul_le_mul hc (show rs.length * 200 + 4 ≤ 804 by omega)) (by decide)⟩ (T7.mono (by omega)) (B1.trans (B3.trans (but_of N)))
end
end K2
namespace K2
open PySem PySem.Spec PyProof.Rows L2 TL Bl
def fitB (rs : List (List Str)) : Bool := !rs.isEmpty && decide (rs.length ≤ 100) && decide ((rs.map List.length).sum ≤ 3000) && rs.all fun r => !r.isEmpty && r.all fun x => decide (x.length ≤ 40) && x.cps.toList.all fun c => decide (97 ≤ c ∧ c ≤ 122)
theorem fit_of {rs : List (List Str)} (h : fitB rs = true) : Fit rs := by
  unfold fitB at h
  simp only [Bool.and_eq_true, Bool.not_eq_true', List.all_eq_true, decide_eq_true_eq, List.isEmpty_eq_false_iff] at h
  obtain ⟨⟨⟨h1, h2⟩, h3⟩, h4⟩ := h
  have hw : ∀ r ∈ rs, WdsOk 40 r := fun r hr x hx => ⟨fun c hc => ((h4 r hr).2 x hx).2 c hc, ((h4 r hr).2 x hx).1⟩
  refine ⟨⟨List.length_pos_iff.mpr h1, h2⟩, fun r hr => ⟨List.length_pos_iff.mpr (h4 r hr).1, fun x hx => ⟨(hw r hr x hx).1, Nat.le_trans (hw r hr x hx).2 (by decide)⟩⟩, h3, ?_⟩
  have := weight_le hw
  omega
section
variable {P : Program} {w : World} {K : PySem.W.Frag} {mg : Str → Option Value} {base : Heap}
/-! ### _law_one_by_one -/
def spOne : Sp := fun vs H Q _ => vs = [] ∧ ∀ H', Same H H' → Q (.bl true) H'
theorem scOne : FnScope ["a", "b", "c", "d", "e", "ten", "both"] [] (defScope sOne) := ⟨rfl, rfl, rfl, by decide +kernel, rfl, by decide +kernel, by decide +kernel⟩
def ten : List (List Str) := [["a"], ["b"], [""], ["d"], ["a"], ["b"], [""], ["d"], ["a"], ["b"], ["e", "ee"]]
def both : List (List Str) := [["a"], ["b"], [""], ["d"], ["a"], ["b"], [""], ["d"], ["a"], ["b"], ["a"], ["b"], [""], ["d"], ["a"], ["b"], [""], ["d"], ["a"], ["b"], ["e", "ee"]]
theorem fit_ten : Fit ten := fit_of (by decide +kernel)
theorem fit_both : Fit both := fit_of (by decide +kernel)
theorem ten_is : prodW ten = [("abdabdabe" : Str), ("abdabdabee" : Str)] := by decide +kernel
theorem both_is : prodW both = [Txt.mul "abdabdab" 2 ++ "e", Txt.mul "abdabdab" 2 ++ "ee"] := by decide +kernel
theorem Out.of {C : Addr} {rs : List (List Str)} {H : Hp} {Q : VK} (c : cnt rs ≤ 2000) (h : ∀ p H', Same H H' → SqT K H' p ((prodW rs).map V.str) → Q (.ref p) H') : Out K C rs H Q E0 :=
  ⟨fun _ => h, fun z => absurd z (by omega)⟩
def wOne : PyData := .list [.tuple [.str "abdabdabe", .str "abdabdabee"], .tuple [.str (Txt.mul "abdabdab" 2 ++ "e"), .str (Txt.mul "abdabdab" 2 ++ "ee")]]
theorem wOne_ok : SeqAt.shaped wOne = true ∧ PyData.eqv wOne wOne = true := by decide +kernel
set_option maxHeartbeats 8000000 in
theorem ok_one {f m C : Addr} {fd md : FuncData} (F : Fun K "_law_one_by_one" "_law_one_by_one" sOne f fd) (M : Fun K "multiply" "multiply" sMul m md) (mM : mg "multiply" = some (.ref m)) (OM : FnR P w K mg base (L2.CX P w) 4 m (spMul K C)) :
    FnOk P w K mg base CX0 5 f fd [] spOne := by
  refine F.ok scOne (fun vs H Q E h => ?_) (fun cdv A outer s H vs Q E hr h => ?_)
  · rw [h.1]
    rfl
  · obtain ⟨rfl, k⟩ := h
    have hu := hr.units
    refine ⟨_, Evl.pss_cut (ps_asg (pe_tup (pa_cons (pe_tup (pa_cons pe_str pa_nil)) (pa_cons (pe_tup (pa_cons pe_str pa_nil)) (pa_cons (pe_tup (pa_cons pe_str pa_nil)) (pa_cons (pe_tup (pa_cons pe_str pa_nil)) (pa_cons (pe_tup (pa_cons pe_str (pa_cons pe_str pa_nil))) pa_nil))))))
        (pg_tup rfl (pgs_cons (pg_name (i := 0) scOne.nd rfl (Or.inl rfl)) (pgs_cons (pg_name (i := 1) scOne.nd rfl (Or.inl rfl)) (pgs_cons (pg_name (i := 2) scOne.nd rfl (Or.inl rfl)) (pgs_cons (pg_name (i := 3) scOne.nd rfl (Or.inl rfl)) (pgs_cons (pg_name (i := 4) scOne.nd rfl (Or.inl rfl)) pgs_nil)))))))
      (Evl.pss_cut (ps_set (i := 5) scOne.nd rfl (Or.inl rfl) (pe_callR OM hr (by rfl) mM M.kp passX (pa_cons (pv 0) (pa_cons (pv 1) (pa_cons (pv 2) (pa_cons (pv 3) (pa_cons (pv 0) (pa_cons (pv 1) (pa_cons (pv 2) (pa_cons (pv 3) (pa_cons (pv 0) (pa_cons (pv 1) (pa_cons (pv 4) pa_nil)))))))))))))
      (Evl.pss_cut (ps_set (i := 6) scOne.nd rfl (Or.inl rfl) (pe_callR OM hr (by rfl) mM M.kp passX (pa_cons (pv 0) (pa_cons (pv 1) (pa_cons (pv 2) (pa_cons (pv 3) (pa_cons (pv 0) (pa_cons (pv 1) (pa_cons (pv 2) (pa_cons (pv 3) (pa_cons (pv 0) (pa_cons (pv 1)
        (pa_cons (pv 0) (pa_cons (pv 1) (pa_cons (pv 2) (pa_cons (pv 3) (pa_cons (pv 0) (pa_cons (pv 1) (pa_cons (pv 2) (pa_cons (pv 3) (pa_cons (pv 0) (pa_cons (pv 1) (pa_cons (pv 4) pa_nil)))))))))))))))))))))))
      (pss_one (ps_ret (pe_cmpR (op_eqD hu) (pe_lst (pa_cons (pv 5) (pa_cons (pv 6) pa_nil))) (pe_lst (pa_cons (pe_tup (pa_cons pe_str (pa_cons pe_str pa_nil)))
        (pa_cons (pe_tup (pa_cons (pe_op op_add_str (pe_op op_mulS pe_str pe_int) pe_str) (pa_cons (pe_op op_add_str (pe_op op_mulS pe_str pe_int) pe_str) pa_nil))) pa_nil))) (nomark _)))))), ?_⟩
    refine ⟨fun σ H1 => ∃ a b c d e : Addr, σ = [some (.ref a), some (.ref b), some (.ref c), some (.ref d), some (.ref e), none, none] ∧ Same H H1 ∧ SqT K H1 a [.str "a"] ∧ SqT K H1 b [.str "b"] ∧ SqT K H1 c [.str ""] ∧ SqT K H1 d [.str "d"] ∧ SqT K H1 e [.str "e", .str "ee"], ?_, ?_⟩
    · refine ⟨(by show 1 ≤ sizeLine; decide), fun a ha => ⟨(by show 1 ≤ sizeLine; decide), fun b hb => ⟨(by show 1 ≤ sizeLine; decide), fun c hc => ⟨(by show 1 ≤ sizeLine; decide), fun d hd => ⟨(by show 2 ≤ sizeLine; decide), fun e he => ⟨(by show 5 ≤ sizeLine; decide), fun p hp => ?_⟩⟩⟩⟩⟩⟩
      have N6 := same_new (o := .tup [.ref a, .ref b, .ref c, .ref d, .ref e]) hp
      have N5 := (same_new (o := .tup [.str "e", .str "ee"]) he).trans N6
      have N4 := (same_new (o := .tup [.str "d"]) hd).trans N5
      have N3 := (same_new (o := .tup [.str ""]) hc).trans N4
      have N2 := (same_new (o := .tup [.str "b"]) hb).trans N3
      have N1 := (same_new (o := .tup [.str "a"]) ha).trans N2
      exact ⟨p, _, rfl, SqT.of upd_same, rfl, _, _, rfl, _, _, rfl, _, _, rfl, _, _, rfl, _, _, rfl, rfl, a, b, c, d, e, rfl, N1, SqT.of (N2 a _ upd_same), SqT.of (N3 b _ upd_same), SqT.of (N4 c _ upd_same), SqT.of (N5 d _ upd_same), SqT.of (N6 e _ upd_same)⟩
    rintro σ H1 ⟨a, b, c, d, e, rfl, S1, ha, hb, hc, hd, he⟩
    have ra : RowAt K H1 (.ref a) ["a"] := ⟨a, rfl, ha⟩
    have rb : RowAt K H1 (.ref b) ["b"] := ⟨b, rfl, hb⟩
    have rc : RowAt K H1 (.ref c) [""] := ⟨c, rfl, hc⟩
    have rd : RowAt K H1 (.ref d) ["d"] := ⟨d, rfl, hd⟩
    have re : RowAt K H1 (.ref e) ["e", "ee"] := ⟨e, rfl, he⟩
    have rten : RowsAt K H1 [.ref a, .ref b, .ref c, .ref d, .ref a, .ref b, .ref c, .ref d, .ref a, .ref b, .ref e] ten := .cons ra (.cons rb (.cons rc (.cons rd (.cons ra (.cons rb (.cons rc (.cons rd (.cons ra (.cons rb (.cons re .nil))))))))))
    have rboth : RowsAt K H1 [.ref a, .ref b, .ref c, .ref d, .ref a, .ref b, .ref c, .ref d, .ref a, .ref b, .ref a, .ref b, .ref c, .ref d, .ref a, .ref b, .ref c, .ref d, .ref a, .ref b, .ref e] both :=
      .cons ra (.cons rb (.cons rc (.cons rd (.cons ra (.cons rb (.cons rc (.cons rd (.cons ra (.cons rb (.cons ra (.cons rb (.cons rc (.cons rd (.cons ra (.cons rb (.cons rc (.cons rd (.cons ra (.cons rb (.cons re .nil))))))))))))))))))))
    clear ra rb rc rd re ha hb hc hd he
    refine ⟨fun σ H2 => ∃ p : Addr, σ = [some (.ref a), some (.ref b), some (.ref c), some (.ref d), some (.ref e), some (.ref p), none] ∧ Same H1 H2 ∧ SqT K H2 p ((prodW ten).map V.str), ?_, ?_⟩
    · exact ⟨_, rfl, _, rfl, _, rfl, _, rfl, _, rfl, _, rfl, _, rfl, _, rfl, _, rfl, _, rfl, _, rfl, ten, rten, fit_ten, Out.of (by decide +kernel) fun p H2 S2 hp => ⟨p, rfl, S2, hp⟩⟩
    rintro σ H2 ⟨p, rfl, S2, hp⟩
    refine ⟨fun σ H3 => ∃ q : Addr, σ = [some (.ref a), some (.ref b), some (.ref c), some (.ref d), some (.ref e), some (.ref p), some (.ref q)] ∧ Same H2 H3 ∧ SqT K H3 q ((prodW both).map V.str), ?_, ?_⟩
    · exact ⟨_, rfl, _, rfl, _, rfl, _, rfl, _, rfl, _, rfl, _, rfl, _, rfl, _, rfl, _, rfl, _, rfl, _, rfl, _, rfl, _, rfl, _, rfl, _, rfl, _, rfl, _, rfl, _, rfl, _, rfl, _, rfl, both, rboth.mono S2, fit_both, Out.of (by decide +kernel) fun q H3 S3 hq => ⟨q, rfl, S3, hq⟩⟩
    rintro σ H3 ⟨q, rfl, S3, hq⟩
    rw [ten_is] at hp
    rw [both_is] at hq
    refine ⟨_, rfl, _, rfl, (by show 2 ≤ sizeLine; decide), fun l hl => ?_⟩
    refine ⟨(by show 2 ≤ sizeLine; decide), fun t1 h1 => ?_⟩
    refine ⟨"abdabdab", 2, rfl, rfl, by decide, by decide, sl_small (by decide +kernel), _, _, rfl, rfl, sl_small (by decide +kernel), "abdabdab", 2, rfl, rfl, by decide, by decide, sl_small (by decide +kernel), _, _, rfl, rfl, sl_small (by decide +kernel), (by show 2 ≤ sizeLine; decide), fun t2 h2 => ?_⟩
    refine ⟨(by show 2 ≤ sizeLine; decide), fun l2 hl2 => ?_⟩
    have N4 := same_new (o := .lst [.ref t1, .ref t2]) hl2
    have N3 := (same_new (o := .tup [.str (Txt.mul "abdabdab" 2 ++ "e"), .str (Txt.mul "abdabdab" 2 ++ "ee")]) h2).trans N4
    have N2 := (same_new (o := .tup [.str "abdabdabe", .str "abdabdabee"]) h1).trans N3
    have N1 := (same_new (o := .lst [.ref p, .ref q]) hl).trans N2
    refine ⟨wOne, wOne, .lst (SqL.of (N2 l _ upd_same)) (.cons (.tup (same_t (S3.trans N1) hp) (.cons (.str _) (.cons (.str _) .nil))) (.cons (.tup (same_t N1 hq) (.cons (.str _) (.cons (.str _) .nil))) .nil)),
      .lst (SqL.of upd_same) (.cons (.tup (SqT.of (N3 t1 _ upd_same)) (.cons (.str _) (.cons (.str _) .nil))) (.cons (.tup (SqT.of (N4 t2 _ upd_same)) (.cons (.str _) (.cons (.str _) .nil))) .nil)), wOne_ok.1, wOne_ok.1, ?_⟩
    rw [wOne_ok.2]
    exact k _ (S1.trans (S2.trans (S3.trans N1)))
end
end K2
namespace K2
open PySem PySem.Spec PyProof.Rows L2 TL Bl
def gOne {α : Type} : List α → List α → List α
  | [], zs => zs
  | _, _ => []
section
variable {P : Program} {w : World} {K : PySem.W.Frag} {mg : Str → Option Value} {base : Heap}
theorem kb_one {py : Str} {st : Stmt} {p : Str} {f : Addr} {fd : FuncData} (F : Fun K py py st f fd)
    (h : ∀ (kV doc pm : Value) (an : Option Addr) (cdv ct : Value) (u : Value), bindArgs (PySem.W.fnOf py py (defArgs st) (defBody st) (defScope st) .none kV doc pm an cdv ct) ⟨[], [(p, u)]⟩ = pure [(p, u)]) : KBinds K fd [p] [p] gOne gOne := by
  obtain ⟨oc, od, kV, doc, pm, an, cdv, ct, osl, rfl, lk, hcd⟩ := F.ex
  constructor
  · intro s us ws _ hl
    match us, ws, hl with
    | [], [x], _ => exact .of_eq (h kV doc pm an cdv ct x)
  · intro vs us zs ws r1 r2
    cases r1 with
    | nil => exact r2
    | cons _ _ => exact .nil
/-! ### _law_long_right -/
def spLong : Sp := fun vs H Q _ => ∃ (t : Addr) (n : Nat), vs = [.ref t] ∧ Tray H t n ∧ n ≤ 700000 ∧ ∀ H', Tray H' t (n + 100) → But t H H' → Q (.bl true) H'
theorem scLong : FnScope ["tray", "few", "some", "place", "one", "due", "turn"] ["tray"] (defScope sLong) := ⟨rfl, rfl, rfl, by decide +kernel, rfl, by decide +kernel, by decide +kernel⟩
theorem w2 {x : Str} (h : x = "" ∨ x = "a" ∨ x = "xy" ∨ x = "b" ∨ x = "c" ∨ x = "z") : Lets x ∧ x.length ≤ 2 := by
  rcases h with rfl | rfl | rfl | rfl | rfl | rfl <;> exact ⟨by unfold Lets; decide +kernel, by decide +kernel⟩
set_option maxHeartbeats 8000000 in
theorem ok_long {f g wd o C : Addr} {fd gd wdd od : FuncData} (F : Fun K "_law_long_right" "_law_long_right" sLong f fd) (T : Names mg) (G : Fun K "_law_take" "_law_take" sTake g gd) (mG : mg "_law_take" = some (.ref g)) (bG : Binds K gd ["tray", "many"] [])
    (D : Fun K "_law_words" "_law_words" sWords wd wdd) (mD : mg "_law_words" = some (.ref wd)) (bD : Binds K wdd ["some"] [])
    (W : Fun K "written_out" "written_out" sWrit o od) (mW : mg "written_out" = some (.ref o)) (bW : Binds K od ["product"] []) (OW : FnOk P w K mg base (L2.CX P w) 5 o od ["product"] (spAll K C)) :
    FnG P w K mg base CX0 6 f fd ["tray"] spLong := by
  refine okG F scLong (fun vs H Q E h => ?_) (fun cdv A outer s H vs Q E hgd hr h => ?_)
  · obtain ⟨t, n, rfl, _⟩ := h
    rfl
  · obtain ⟨t, n, rfl, hT, hn, k⟩ := h
    have OT : FnOk P w K mg base CX0 1 g gd ["tray", "many"] spTake := ok_take G
    have OD : FnOk P w K mg base CX0 1 wd wdd ["some"] (spWords K) := ok_words D
    have kW : KBinds K od ["product"] ["product"] gOne gOne := kb_one W fun _ _ _ _ _ _ _ => rfl
    have hr1 : Room 1 _ := hr.mono (by decide)
    have hu := hr.units
    refine ⟨_, Evl.pss_cut (ps_par (i := 1) (j := 2) rfl scLong.nd rfl rfl (by decide) rfl rfl (pa_cons (pe_lc (own := [("turn", 6)]) (g := gName 6) (tt := tYes) rfl scLong.nd (pi_range1 (by rfl) T.range (pa_cons pe_int pa_nil))
            (blkOk_by (N := ["tray", "few", "some", "place", "one", "due", "turn"]) (sc := defScope sLong) (by decide +kernel)) (fun _ _ _ _ _ => pg_name (i := 6) scLong.nd rfl (Or.inl rfl)) (fun _ _ _ _ _ => pts_nil)
            (fun _ _ _ _ _ => pe_call OT hr1 (by rfl) mG G.kp bG .nil pass0 (pa_cons (pv 0) (pa_cons pe_int pa_nil)))) (pa_cons (pe_lst pa_nil) pa_nil)) (by rfl))
      (Evl.pss_cut (ps_for PassesOwn.never rfl (pi_range1 (by rfl) T.range (pa_cons (pe_op op_add pe_int (pe_call OT hr1 (by rfl) mG G.kp bG .nil pass0 (pa_cons (pv 0) (pa_cons pe_int pa_nil)))) pa_nil)) (pg_name (i := 3) scLong.nd rfl (Or.inl rfl))
        (Evl.pss_cut (ps_set (i := 4) scLong.nd rfl (Or.inl rfl) (pe_ix ix_list (pe_lst (pa_cons pe_str (pa_cons pe_str (pa_cons pe_str (pa_cons pe_str pa_nil))))) (pe_call OT hr1 (by rfl) mG G.kp bG .nil pass0 (pa_cons (pv 0) (pa_cons pe_int pa_nil))) (fun _ _ => rfl)))
        (pss_one (ps_expr (pe_bm PySem.F.plainAttrs_list PySem.F.slot_list_append PySem.F.type_list_append mt_append (pv 2) (pa_cons
          (pe_slice sl_tupN (pe_tup (pa_cons (pv 4) (pa_cons (pe_ix ix_list (pe_lst (pa_cons pe_str (pa_cons pe_str (pa_cons pe_str pa_nil)))) (pe_call OT hr1 (by rfl) mG G.kp bG .nil pass0 (pa_cons (pv 0) (pa_cons pe_int pa_nil))) (fun _ _ => rfl)) pa_nil)))
            po_none (po_some (pe_op op_add pe_int (pe_callTy call_int1 (by rfl) T.int (by decide +kernel) (pa_cons (pe_cmpR op_in_seq (pv 3) (pv 1) (by rfl)) pa_nil))))) pa_nil))))))
      (Evl.pss_cut (ps_set (i := 2) scLong.nd rfl (Or.inl rfl) (pe_callTy call_tuple_of (by rfl) T.tuple (by decide +kernel) (pa_cons (pv 2) pa_nil)))
      (Evl.pss_cut (ps_set (i := 5) scLong.nd rfl (Or.inl rfl) (pe_callTy call_tuple_of (by rfl) T.tuple (by decide +kernel) (pa_cons (pe_call OD hr1 (by rfl) mD D.kp bD .nil pass0 (pa_cons (pv 2) pa_nil)) pa_nil)))
      (pss_one (ps_ret (pe_cmpR op_eq (pe_callB (call_reprP hgd hu) (by rfl) T.repr boot_repr (pa_cons (pe_lst (pa_cons (pe_call OW hr (by rfl) mW W.kp bW .nil passX (pa_cons (pv 2) pa_nil)) (pa_cons (pe_callK0 OW hr (by rfl) mW W.kp kW passX (pk_cons (pv 2) pk_nil)) pa_nil))) pa_nil))
        (pe_callB (call_reprP hgd hu) (by rfl) T.repr boot_repr (pa_cons (pe_lst (pa_cons (pv 5) (pa_cons (pv 5) pa_nil))) pa_nil)) (nomark _))))))), ?_⟩
    refine ⟨fun σ H1 => ∃ (lf l : Addr) (ns : List Nat), σ = [some (.ref t), some (.ref lf), some (.ref l), none, none, none, none] ∧ H1 lf = some (.lst (ns.map nv)) ∧ lf ≠ t ∧ lf ≠ l ∧ l ≠ t ∧ H l = none ∧ ns.length = 7 ∧ H1 l = some (.lst []) ∧ Tray H1 t (n + 7) ∧ But t H H1, ?_, ?_⟩
    · refine ⟨7, rfl, by decide, by decide, fun D hD => ?_⟩
      have nD : D ≠ t := (hT.ne hD).symm
      refine lc_range (lo := 0) (n := 7) (fun i H' => Tray H' t (n + i) ∧ But t H H' ∧ ∃ ns : List Nat, H' D = some (.lst (ns.map nv)) ∧ ns.length = i) ⟨hT.new hD, But.new hD, [], upd_same, rfl⟩ ?_ ?_
      · rintro i H' hi ⟨T6, B6, ns, hns, hl⟩
        refine ⟨rfl, ?_⟩
        refine ⟨_, rfl, t, 40, n + i, rfl, by decide, log_small (by decide) (by decide), T6, by omega, fun u H7 u0 u1 T7 B7 => ?_⟩
        refine ⟨_, B7 D _ nD hns, ?_, T7.of (upd_ne nD.symm), fun b o hb hbo => ?_, ns ++ [u.toNat], ?_, ?_⟩
        · rw [List.length_map]
          exact Nat.lt_of_lt_of_le (by omega) (sl_small (n := 100000) (Nat.le_refl _))
        · rw [upd_ne (ne_of_none hbo hD)]
          exact B7 b o hb (B6 b o hb hbo)
        · have e0 : ((u.toNat : Nat) : Int) = u := by omega
          have e : nv u.toNat = V.int u := by
            unfold nv
            rw [e0]
          rw [upd_same, List.map_append, List.map_cons, List.map_nil, e]
        · rw [List.length_append, hl]
          rfl
      · rintro H' ⟨T6, B6, ns, hns, hl⟩
        refine ⟨(by show 0 ≤ sizeLine; decide), fun l hl' => ?_⟩
        have N := same_new (o := .lst []) hl'
        exact ⟨_, _, rfl, D, l, ns, rfl, N D _ hns, nD, ne_of_none hns hl', (T6.ne hl').symm, but_none T6 B6 hl', hl, upd_same, (T6.new hl').mono (by omega), B6.trans (but_of N)⟩
    rintro σ H1 ⟨lf, l, ns, rfl, hlf, nlf, nll, nl, nlH, hl7, hl, T1, B1⟩
    refine ⟨fun σ H2 => ∃ (rows : List V) (rs : List (List Str)) (o3 o4 : Option V), σ = [some (.ref t), some (.ref lf), some (.ref l), o3, o4, none, none] ∧ H2 l = some (.lst rows) ∧ (1 ≤ rs.length ∧ rs.length ≤ 40) ∧ RowsAt K (mask t H2) rows rs ∧ (∀ r ∈ rs, 1 ≤ r.length ∧ r.length ≤ 2 ∧ WdsOk 2 r) ∧ Bl.cnt rs ≤ 128 ∧ Tray H2 t (n + 100) ∧ But t H H2, ?_, ?_⟩
    · refine ⟨_, rfl, t, 11, n + 7, rfl, by decide, log_small (by decide) (by decide), T1, by omega, fun v H3 v0 v1 T3 B3 => ?_⟩
      refine ⟨_, _, rfl, rfl, _, rfl, by omega, by omega, for_range (lo := 0) (fun i σ H' => Tray H' t (n + 8 + 2 * i) ∧ But t H H' ∧ H' lf = some (.lst (ns.map nv)) ∧ ∃ (rows : List V) (rs : List (List Str)) (o3 o4 : Option V), σ = [some (.ref t), some (.ref lf), some (.ref l), o3, o4, none, none] ∧ H' l = some (.lst rows) ∧ rs.length = i ∧ RowsAt K (mask l (mask t H')) rows rs ∧ (∀ r ∈ rs, 1 ≤ r.length ∧ r.length ≤ 2 ∧ WdsOk 2 r) ∧ Bl.cnt rs ≤ 2 ^ hits ns i)
        ⟨T3, B1.trans B3, B3 lf _ nlf hlf, [], [], none, none, rfl, B3 l _ nl hl, rfl, .nil, (fun r hr => by cases hr), Nat.le_refl _⟩ ?_ ?_⟩
      · rintro i σ H' hi ⟨T4, B4, hlf4, rows, rs, o3, o4, rfl, hrows, hlen, hR, hok, hc⟩
        have hi40 : i < 40 := by omega
        refine ⟨fun σ H5 => ∃ (x : Str) (o3 : Option V), σ = [some (.ref t), some (.ref lf), some (.ref l), some (.int (0 + (i : Int))), some (.str x), none, none] ∧ (Lets x ∧ x.length ≤ 2) ∧ H5 l = some (.lst rows) ∧ H5 lf = some (.lst (ns.map nv)) ∧ RowsAt K (mask l (mask t H5)) rows rs ∧ Tray H5 t (n + 8 + 2 * i + 1) ∧ But t H H5, ?_, ?_⟩
        · refine ⟨(by show 4 ≤ sizeLine; decide), fun q hq => ?_⟩
          refine ⟨_, rfl, t, 4, n + 8 + 2 * i, rfl, by decide, log_small (by decide) (by decide), T4.new hq, by omega, fun u H5 u0 u1 T5 B5 => ?_⟩
          obtain ⟨x, hx, hx4⟩ := pick4 (V.str "") (V.str "a") (V.str "xy") (V.str "b") u0 u1
          have hx' : ∃ y : Str, x = .str y ∧ (Lets y ∧ y.length ≤ 2) := by
            rcases hx4 with e | e | e | e
            · exact ⟨_, e, w2 (.inl rfl)⟩
            · exact ⟨_, e, w2 (.inr (.inl rfl))⟩
            · exact ⟨_, e, w2 (.inr (.inr (.inl rfl)))⟩
            · exact ⟨_, e, w2 (.inr (.inr (.inr (.inl rfl))))⟩
          obtain ⟨y, rfl, hy⟩ := hx'
          have nq : q ≠ t := (T4.ne hq).symm
          have B45 : But t H' H5 := (But.new hq).trans B5
          exact ⟨q, _, u, _, rfl, rfl, SqL.of (B5 q _ nq upd_same), hx, y, o3, rfl, hy, B45 l _ nl hrows, B45 lf _ nlf hlf4, hR.mono (mask_but (but_of (mask_but B45))), T5, B4.trans B45⟩
        rintro σ H5 ⟨x, _, rfl, hx, hrows5, hlf5, hR5, T5, B5⟩
        refine ⟨_, rfl, .inl ⟨rfl, _, SqL.of hrows5⟩, ?_⟩
        refine ⟨_, rfl, (by show 3 ≤ sizeLine; decide), fun q hq => ?_⟩
        refine ⟨_, rfl, t, 3, n + 8 + 2 * i + 1, rfl, by decide, log_small (by decide) (by decide), T5.new hq, by omega, fun u H6 u0 u1 T6 B6 => ?_⟩
        obtain ⟨z, hz, hz3⟩ := pick3 (V.str "") (V.str "c") (V.str "z") u0 u1
        have hz' : ∃ y : Str, z = .str y ∧ (Lets y ∧ y.length ≤ 2) := by
          rcases hz3 with e | e | e
          · exact ⟨_, e, w2 (.inl rfl)⟩
          · exact ⟨_, e, w2 (.inr (.inr (.inr (.inr (.inl rfl)))))⟩
          · exact ⟨_, e, w2 (.inr (.inr (.inr (.inr (.inr rfl)))))⟩
        obtain ⟨y, rfl, hy⟩ := hz'
        have nq : q ≠ t := (T5.ne hq).symm
        have B56 : But t H5 H6 := (But.new hq).trans B6
        refine ⟨q, _, u, _, rfl, rfl, SqL.of (B6 q _ nq upd_same), hz, (by show 2 ≤ sizeLine; decide), fun p hp => ?_⟩
        have N7 : Same H6 (upd H6 p (.tup [.str x, .str y])) := same_new hp
        have hcut : ∃ c : Nat, c ≤ 1 ∧ (c = 1 → i ∈ ns) ∧ 1 + (if (if false = true then !inV (V.int (0 + (i : Int))) (ns.map nv) else inV (V.int (0 + (i : Int))) (ns.map nv)) = true then (1 : Int) else 0) = ((1 + c : Nat) : Int) := by
          have e0 : (0 : Int) + (i : Int) = (i : Int) := Int.zero_add _
          rw [e0]
          by_cases hb : inV (.int (i : Int)) (ns.map nv) = true
          · exact ⟨1, Nat.le_refl _, fun _ => inV_nat hb, by rw [if_neg (by decide : ¬ false = true), if_pos hb]; rfl⟩
          · exact ⟨0, by decide, fun z => absurd z (by decide), by rw [if_neg (by decide : ¬ false = true), if_neg hb]; rfl⟩
        obtain ⟨c, hc1, hc2, ec⟩ := hcut
        refine ⟨_, rfl, _, rfl, lf, _, rfl, .inl (SqL.of (N7 lf _ (B56 lf _ nlf hlf5))), rfl, flats ns, .inr ⟨_, rfl, _, _, rfl, rfl, _, rfl, ?_⟩⟩
        rw [ec]
        refine ⟨p, _, rfl, SqT.of upd_same, fun q2 H8 S8 hq2 => ?_⟩
        rw [cutV_to] at hq2
        have hq2 : SqT K H8 q2 (([x, y].take (1 + c)).map V.str) := by
          rw [List.map_take]
          exact hq2
        have B58 : But t H5 H8 := B56.trans ((but_of N7).trans (but_of S8))
        have T8 := tray_same (tray_same T6 N7) S8
        have hl8 := B58 l _ nl hrows5
        have lw : ([x, y].take (1 + c)).length = 1 + c := by
          rw [List.length_take]
          show min (1 + c) 2 = 1 + c
          omega
        refine ⟨l, rows, .ref q2, rfl, rfl, hl8, ?_, T8.of (upd_ne nl.symm) |>.mono (by omega), fun b o hb hbo => ?_, ?_, rows ++ [.ref q2], rs ++ [[x, y].take (1 + c)], _, _, rfl, upd_same, ?_, rows_snoc hR5 B58 nl hl8 T8 hq2, ?_, ?_⟩
        · have := hR5.len
          exact Nat.lt_of_lt_of_le (by omega) (sl_small (n := 100000) (Nat.le_refl _))
        · rw [upd_ne (ne_of_none hbo nlH)]
          exact B58 b o hb (B5 b o hb hbo)
        · rw [upd_ne nll]
          exact B58 lf _ nlf hlf5
        · rw [List.length_append, hlen]
          rfl
        · intro r hr
          rcases List.mem_append.mp hr with h | h
          · exact hok r h
          · rw [List.mem_singleton] at h
            rw [h, lw]
            refine ⟨by omega, by omega, fun w' hw => ?_⟩
            have hw := List.mem_of_mem_take hw
            rcases List.mem_cons.mp hw with e | e
            · rw [e]; exact hx
            · rw [List.mem_singleton] at e
              rw [e]; exact hy
        · rw [cnt_app]
          have e1 : Bl.cnt [[x, y].take (1 + c)] = 1 + c := by
            show 1 * ([x, y].take (1 + c)).length = _
            rw [Nat.one_mul, lw]
          rw [e1, hits_more]
          by_cases hin : i ∈ ns
          · rw [if_pos hin, Nat.pow_succ]
            exact Nat.mul_le_mul hc (by omega)
          · have c0 : c = 0 := by
              rcases Nat.lt_or_ge c 1 with z | z
              · omega
              · exact absurd (hc2 (by omega)) hin
            rw [if_neg hin, Nat.add_zero, c0, Nat.mul_one]
            exact hc
      · rintro σ H' ⟨T4, B4, hlf4, rows, rs, o3, o4, rfl, hrows, hlen, hR, hok, hc⟩
        have h7 := hits_le ns (30 + v).toNat
        refine ⟨rows, rs, _, _, rfl, hrows, by omega, hR.mono (mask_same l _), hok, ?_, T4.mono (by omega), B4⟩
        have : 2 ^ hits ns (30 + v).toNat ≤ 2 ^ 7 := Nat.pow_le_pow_right (by decide) (by omega)
        exact Nat.le_trans hc (Nat.le_trans this (by decide))
    rintro σ H2 ⟨rows, rs, o3, o4, rfl, hrows, hlen, hR, hok, hc, T2, B2⟩
    have hR := hR.mono (mask_same t _)
    have hwd : ∀ r ∈ rs, WdsOk 2 r := fun r hr => (hok r hr).2.2
    have hsum : (rs.map List.length).sum ≤ 80 := by
      have key : ∀ qs : List (List Str), (∀ r ∈ qs, r.length ≤ 2) → (qs.map List.length).sum ≤ 2 * qs.length := by
        intro qs
        induction qs with
        | nil => intro _; exact Nat.le_refl _
        | cons q qs ih =>
          intro h
          have := ih fun r hr => h r (List.mem_cons_of_mem _ hr)
          have := h q List.mem_cons_self
          rw [List.map_cons, List.sum_cons, List.length_cons]
          omega
      have := key rs fun r hr => (hok r hr).2.1
      omega
    have hfit : Fit rs := by
      refine ⟨⟨hlen.1, by omega⟩, fun r hr => ⟨(hok r hr).1, fun x hx => ⟨(hwd r hr x hx).1, Nat.le_trans (hwd r hr x hx).2 (by decide)⟩⟩, by omega, ?_⟩
      have := weight_le hwd
      omega
    have okp := prodW_ok hwd
    have lp := prodW_len rs
    generalize hW : prodW rs = pw at *
    obtain ⟨o1, o2, o5⟩ := rowT_okP okp
    have dsz : szP (rowT pw) ≤ 20000 := by
      have : pw.length * (rs.length * 2 + 4) ≤ 128 * 84 := Nat.mul_le_mul (by omega) (by omega)
      omega
    -- a tuple of them
    refine ⟨fun σ H3 => ∃ a : Addr, σ = [some (.ref t), some (.ref lf), some (.ref a), o3, o4, none, none] ∧ SqT K H3 a rows ∧ Same H2 H3, ?_, ?_⟩
    · exact ⟨_, rfl, l, rows, rfl, .inl ⟨SqL.of hrows, fun a ha => ⟨a, rfl, SqT.of upd_same, same_new ha⟩⟩⟩
    rintro σ H3 ⟨a, rfl, ha, S3⟩
    refine ⟨fun σ H4 => ∃ d : Addr, σ = [some (.ref t), some (.ref lf), some (.ref a), o3, o4, some (.ref d), none] ∧ SqT K H4 d (pw.map V.str) ∧ Same H3 H4, ?_, ?_⟩
    · refine ⟨_, rfl, a, rows, rs, rfl, ha, hR.mono S3, hfit, by omega, fun lw H4 S4 hlw => ?_⟩
      rw [hW] at hlw
      exact ⟨lw, _, rfl, .inl ⟨SqL.of hlw, fun d hd => ⟨d, rfl, SqT.of upd_same, S4.trans (same_new hd)⟩⟩⟩
    rintro σ H4 ⟨d, rfl, hd, S4⟩
    have S34 := S3.trans S4
    refine ⟨_, rfl, a, rows, rs, rfl, same_t S4 ha, hR.mono S34, hfit, Out.of (by omega) fun p H5 S5 hp => ?_⟩
    refine ⟨_, rfl, a, rows, rs, rfl, same_t (S4.trans S5) ha, hR.mono (S34.trans S5), hfit, Out.of (by omega) fun q H6 S6 hq => ?_⟩
    rw [hW] at hp hq
    refine ⟨(by show 2 ≤ sizeLine; decide), fun l1 h1 => ?_⟩
    have N1 := same_new (o := .lst [.ref p, .ref q]) h1
    have two : okP (.list [rowT pw, rowT pw]) ∧ szP (.list [rowT pw, rowT pw]) ≤ 16000000 ∧ (PyData.list [rowT pw, rowT pw]).depth ≤ 40 := by
      refine ⟨⟨o1, o1, trivial⟩, ?_, ?_⟩
      · show szP (rowT pw) + 2 + (szP (rowT pw) + 2 + 0) + 3 ≤ 16000000
        omega
      · show max (rowT pw).depth (max (rowT pw).depth 0) + 1 ≤ 40
        omega
    refine ⟨l1, .list [rowT pw, rowT pw], rfl, .lst (SqL.of upd_same) (.cons (rowT_dp (same_t (S6.trans N1) hp)) (.cons (rowT_dp (same_t N1 hq)) .nil)), two.1, two.2.1, two.2.2, ?_⟩
    refine ⟨_, rfl, _, rfl, (by show 2 ≤ sizeLine; decide), fun l2 h2 => ?_⟩
    have N2 := same_new (o := .lst [.ref d, .ref d]) h2
    have hd2 := same_t (S5.trans (S6.trans (N1.trans N2))) hd
    refine ⟨l2, .list [rowT pw, rowT pw], rfl, .lst (SqL.of upd_same) (.cons (rowT_dp hd2) (.cons (rowT_dp hd2) .nil)), two.1, two.2.1, two.2.2, rfl, ?_⟩
    rw [decide_eq_true rfl]
    have S := S34.trans (S5.trans (S6.trans (N1.trans N2)))
    exact k _ (tray_same T2 S) (B2.trans (but_of S))
end
end K2
namespace K2
open PySem PySem.Spec PyProof.Rows L2 TL Bl
/-! ### words of parts -/
theorem app_assoc (x y z : Str) : x ++ y ++ z = x ++ (y ++ z) := by
  show Str.mk _ = Str.mk _
  congr 1
  exact Array.append_assoc
theorem nil_app (x : Str) : "" ++ x = x := by
  show Str.mk _ = x
  cases x
  congr 1
  exact Array.empty_append
theorem app_nil (x : Str) : x ++ "" = x := by
  show Str.mk _ = x
  cases x
  congr 1
theorem addRow_nil (r : List Str) : addRow [""] r = r := by
  unfold addRow
  rw [List.flatMap_cons, List.flatMap_nil, List.append_nil]
  have e : (fun x : Str => "" ++ x) = id := funext nil_app
  rw [e, List.map_id]
theorem addRow_one (ws : List Str) : addRow ws [""] = ws := by
  unfold addRow
  induction ws with
  | nil => rfl
  | cons w ws ih =>
    rw [List.flatMap_cons, ih, List.map_cons, List.map_nil, app_nil]
    rfl
theorem map_addRow (w : Str) : ∀ vs r : List Str, (addRow vs r).map (fun x => w ++ x) = addRow (vs.map fun x => w ++ x) r
  | [], r => rfl
  | v :: vs, r => by
    have ih := map_addRow w vs r
    unfold addRow at ih ⊢
    rw [List.flatMap_cons, List.map_append, ih, List.map_cons, List.flatMap_cons, List.map_map]
    congr 1
    apply List.map_congr_left
    intro x _
    exact (app_assoc w v x).symm
theorem addRow_assoc : ∀ ws vs r : List Str, addRow ws (addRow vs r) = addRow (addRow ws vs) r
  | [], vs, r => rfl
  | w :: ws, vs, r => by
    have ih := addRow_assoc ws vs r
    have e1 : addRow (w :: ws) (addRow vs r) = (addRow vs r).map (fun x => w ++ x) ++ addRow ws (addRow vs r) := by
      unfold addRow
      rw [List.flatMap_cons]
    have e2 : addRow (w :: ws) vs = vs.map (fun x => w ++ x) ++ addRow ws vs := by
      unfold addRow
      rw [List.flatMap_cons]
    have e3 : ∀ a b : List Str, addRow (a ++ b) r = addRow a r ++ addRow b r := fun a b => by
      unfold addRow
      rw [List.flatMap_append]
    rw [e1, e2, e3, ih, map_addRow]
theorem fold_assoc : ∀ (rs : List (List Str)) (ws vs : List Str), addRow ws (rs.foldl addRow vs) = rs.foldl addRow (addRow ws vs)
  | [], ws, vs => rfl
  | r :: rs, ws, vs => by
    rw [List.foldl_cons, List.foldl_cons, fold_assoc rs, addRow_assoc]
theorem prod_two (a b : List (List Str)) : prodW [prodW a, prodW b] = prodW (a ++ b) := by
  have e : prodW [prodW a, prodW b] = addRow (addRow [""] (prodW a)) (prodW b) := rfl
  rw [e, addRow_nil]
  unfold prodW
  rw [fold_assoc, addRow_one, List.foldl_append]
theorem prod_left (p : List Str) : prodW [[""], p] = p := by
  have e : prodW [[""], p] = addRow (addRow [""] [""]) p := rfl
  rw [e, addRow_nil, addRow_nil]
theorem prod_right (p : List Str) : prodW [p, [""]] = p := by
  have e : prodW [p, [""]] = addRow (addRow [""] p) [""] := rfl
  rw [e, addRow_nil, addRow_one]
theorem prod_one (p : List Str) : prodW [p] = p := addRow_nil p
theorem cnt_two (a b : List Str) : cnt [a, b] = a.length * b.length := by
  show 1 * a.length * b.length = _
  rw [Nat.one_mul]
theorem sum_le {b : Nat} : ∀ (qs : List (List Str)), (∀ r ∈ qs, r.length ≤ b) → (qs.map List.length).sum ≤ b * qs.length
  | [], _ => Nat.zero_le _
  | q :: qs, h => by
    have := sum_le qs fun r hr => h r (List.mem_cons_of_mem _ hr)
    have := h q List.mem_cons_self
    rw [List.map_cons, List.sum_cons, List.length_cons, Nat.mul_succ]
    omega
theorem fit_rows {rs : List (List Str)} (h : ∀ r ∈ rs, 1 ≤ r.length ∧ r.length ≤ 60 ∧ WdsOk 200 r) (h1 : 1 ≤ rs.length) (h2 : rs.length ≤ 20) : Fit rs := by
  have s := sum_le rs fun r hr => (h r hr).2.1
  have z := weight_le fun r hr => (h r hr).2.2
  refine ⟨⟨h1, by omega⟩, fun r hr => ⟨(h r hr).1, fun x hx => ⟨((h r hr).2.2 x hx).1, Nat.le_trans ((h r hr).2.2 x hx).2 (by decide)⟩⟩, by omega, by omega⟩
theorem fit_two {b : Nat} {p q : List Str} (hp : WdsOk b p) (hq : WdsOk b q) (hb : b ≤ 4000) (p1 : 1 ≤ p.length) (q1 : 1 ≤ q.length) (hs : p.length + q.length ≤ 3000) (hw : (p.length + q.length) * (10 * b + 4) ≤ 15000000) : Fit [p, q] := by
  have all : ∀ r ∈ [p, q], 1 ≤ r.length ∧ WdsOk b r := fun r hr => by
    rcases List.mem_cons.mp hr with e | e
    · rw [e]; exact ⟨p1, hp⟩
    · rw [List.mem_singleton] at e
      rw [e]; exact ⟨q1, hq⟩
  refine ⟨⟨by show 1 ≤ 2; decide, by show 2 ≤ 100; decide⟩, fun r hr => ⟨(all r hr).1, fun x hx => ⟨((all r hr).2 x hx).1, Nat.le_trans ((all r hr).2 x hx).2 hb⟩⟩, by show p.length + (q.length + 0) ≤ 3000; omega, ?_⟩
  refine Nat.le_trans (weight_le (b := b) fun r hr => (all r hr).2) ?_
  exact hw
theorem add_le_mul : ∀ {a b : Nat}, 1 ≤ a → 1 ≤ b → a + b ≤ a * b + 1
  | a + 1, b + 1, _, _ => by
    have : (a + 1) * (b + 1) = a * b + a + b + 1 := by
      rw [Nat.add_mul, Nat.mul_add]
      omega
    omega
theorem rows_snocD {K : PySem.W.Frag} {D q : Addr} {H H' : Hp} {rows : List V} {rs : List (List Str)} {ws : List Str} (hR : RowsAt K (mask D H) rows rs) (S : Same H H') (hD : H' D = some (.lst rows)) (hq : SqT K H' q (ws.map V.str)) :
    RowsAt K (mask D (upd H' D (.lst (rows ++ [.ref q])))) (rows ++ [.ref q]) (rs ++ [ws]) := by
  have M : Same (mask D H) (mask D (upd H' D (.lst (rows ++ [.ref q])))) := (mask_but (but_of S)).trans (mask_but But.set)
  exact (hR.mono M).app (.cons ⟨q, rfl, mask_l upd_same (sqt_upd hD hq)⟩ .nil)
theorem Out.tk {K : PySem.W.Frag} {C : Addr} {rs qs : List (List Str)} {H : Hp} {Q : VK} {E : XK} (e : qs = rs) (o : Out K C rs H Q E) : Out K C qs H Q E := by
  rw [e]
  exact o
theorem ne_no {x : V} {A B : Prop} (b : B) : if (!decide (x = x)) = true then A else B := by
  rw [decide_eq_true rfl]
  exact iteF b
section
variable {P : Program} {w : World} {K : PySem.W.Frag} {mg : Str → Option Value} {base : Heap}
/-! ### _law_right -/
def spRight : Sp := fun vs H Q _ => ∃ (t : Addr) (n : Nat), vs = [.ref t] ∧ Tray H t n ∧ n ≤ 500000 ∧ ∀ H', Tray H' t (n + 100001) → But t H H' → Q (.bl true) H'
theorem scRight : FnScope ["tray", "some", "before_here", "due", "told", "cut", "parts_here", "whole_row", "part"] ["tray"] (defScope sRight) := ⟨rfl, rfl, rfl, by decide +kernel, rfl, by decide +kernel, by decide +kernel⟩
set_option maxHeartbeats 8000000 in
theorem ok_right {f g wd o m u rr C : Addr} {fd gd wdd od md ud rrd : FuncData} (F : Fun K "_law_right" "_law_right" sRight f fd) (T : Names mg) (G : Fun K "_law_take" "_law_take" sTake g gd) (mG : mg "_law_take" = some (.ref g)) (bG : Binds K gd ["tray", "many"] [])
    (R : Fun K "_law_rows" "_law_rows" sRows rr rrd) (mR : mg "_law_rows" = some (.ref rr)) (bR : Binds K rrd ["tray"] []) (OR : FnOk P w K mg base CX0 4 rr rrd ["tray"] (spRows K))
    (D : Fun K "_law_words" "_law_words" sWords wd wdd) (mD : mg "_law_words" = some (.ref wd)) (bD : Binds K wdd ["some"] [])
    (U : Fun K "_law_multiplied" "_law_multiplied" sMuld u ud) (mU : mg "_law_multiplied" = some (.ref u)) (bU : Binds K ud ["some"] []) (OU : FnOk P w K mg base (L2.CX P w) 5 u ud ["some"] (spMuld K C))
    (M : Fun K "multiply" "multiply" sMul m md) (mM : mg "multiply" = some (.ref m)) (OM : FnR P w K mg base (L2.CX P w) 4 m (spMul K C)) (OK : MulK P w K mg base 4 m (spMul K C))
    (W : Fun K "written_out" "written_out" sWrit o od) (mW : mg "written_out" = some (.ref o)) (bW : Binds K od ["product"] []) (OW : FnOk P w K mg base (L2.CX P w) 5 o od ["product"] (spAll K C)) :
    FnG P w K mg base CX0 6 f fd ["tray"] spRight := by
  refine okG F scRight (fun vs H Q E h => ?_) (fun cdv A outer s H vs Q E hgd hr h => ?_)
  · obtain ⟨t, n, rfl, _⟩ := h
    rfl
  · obtain ⟨t, n, rfl, hT, hn, k⟩ := h
    have OT : FnOk P w K mg base CX0 1 g gd ["tray", "many"] spTake := ok_take G
    have OD : FnOk P w K mg base CX0 1 wd wdd ["some"] (spWords K) := ok_words D
    have kW : KBinds K od ["product"] ["product"] gOne gOne := kb_one W fun _ _ _ _ _ _ _ => rfl
    have hr1 : Room 1 _ := hr.mono (by decide)
    have hr4 : Room 4 _ := hr.mono (by decide)
    have hu := hr.units
    refine ⟨_, Evl.pss_cut (ps_set (i := 1) scRight.nd rfl (Or.inl rfl) (pe_call OR hr4 (by rfl) mR R.kp bR .nil pass0 (pa_cons (pv 0) pa_nil)))
      (Evl.pss_cut (ps_par (i := 2) (j := 3) rfl scRight.nd rfl rfl (by decide) rfl rfl (pa_cons (pe_callB (call_reprP hgd hu) (by rfl) T.repr boot_repr (pa_cons (pv 1) pa_nil))
          (pa_cons (pe_callTy call_tuple_of (by rfl) T.tuple (by decide +kernel) (pa_cons (pe_call OD hr1 (by rfl) mD D.kp bD .nil pass0 (pa_cons (pv 1) pa_nil)) pa_nil)) pa_nil)) (by rfl))
      (Evl.pss_cut (ps_set (i := 4) scRight.nd rfl (Or.inl rfl) (pe_lst (pa_cons (pe_call OU hr (by rfl) mU U.kp bU .nil passX (pa_cons (pv 1) pa_nil)) (pa_cons (pe_call OW hr (by rfl) mW W.kp bW .nil passX (pa_cons (pv 1) pa_nil))
          (pa_cons (pe_callK0 OW hr (by rfl) mW W.kp kW passX (pk_cons (pv 1) pk_nil)) pa_nil)))))
      (Evl.pss_cut (ps_if (PW.pt (pw_or (pt_cmpR op_ne (pe_callB (call_reprP hgd hu) (by rfl) T.repr boot_repr (pa_cons (pv 4) pa_nil)) (pe_callB (call_reprP hgd hu) (by rfl) T.repr boot_repr (pa_cons (pe_op op_rep (pe_lst (pa_cons (pv 3) pa_nil)) pe_int) pa_nil)) (nomark _))
          (pw_or1 (pt_cmpR op_ne (pe_callB (call_reprP hgd hu) (by rfl) T.repr boot_repr (pa_cons (pv 1) pa_nil)) (pv 2) (nomark _))))) (pss_one (ps_ret pe_bl)) pss_nil)
      (Evl.pss_cut (ps_set (i := 5) scRight.nd rfl (Or.inl rfl) (pe_call OT hr1 (by rfl) mG G.kp bG .nil pass0 (pa_cons (pv 0) (pa_cons (pe_op op_add (pe_callB call_len_seq (by rfl) T.len PySem.boot_len (pa_cons (pv 1) pa_nil)) pe_int) pa_nil))))
      (Evl.pss_cut (ps_setLc (i := 6) (own := [("part", 8)]) (g := gName 8) (tt := tYes) rfl scRight.nd rfl rfl (sw_true rfl rfl rfl (by decide +kernel)) (pi_list (pe_lst (pa_cons (pe_slice sl_tupN (pv 1) po_none (po_some (pv 5))) (pa_cons (pe_slice sl_tupN (pv 1) (po_some (pv 5)) po_none) pa_nil))))
          (blkOk_by (N := ["tray", "some", "before_here", "due", "told", "cut", "parts_here", "whole_row", "part"]) (sc := defScope sRight) (by decide +kernel)) (fun _ _ _ _ _ => pg_name (i := 8) scRight.nd rfl (Or.inl rfl)) (fun _ _ _ _ _ => pts_nil)
          (fun _ _ _ _ _ => pe_ifExp (pt_cmpR (r := rNeD K) (op_neD hu) (pv 8) (pe_tup pa_nil) (by rfl)) (pe_call OW hr (by rfl) mW W.kp bW .nil passX (pa_cons (pv 8) pa_nil)) (pe_tup (pa_cons pe_str pa_nil))))
      (Evl.pss_cut (ps_set (i := 7) scRight.nd rfl (Or.inl rfl) (pe_ix ix_list (pv 4) pe_int (fun _ _ => rfl)))
      (Evl.pss_cut (ps_set (i := 4) scRight.nd rfl (Or.inl rfl) (pe_lst (pa_cons (pe_callR OM hr4 (by rfl) mM M.kp passX (pa_cons (pe_ix ix_list (pv 6) pe_int (fun _ _ => rfl)) (pa_cons (pe_ix ix_list (pv 6) pe_int (fun _ _ => rfl)) pa_nil)))
          (pa_cons (pe_callR OM hr4 (by rfl) mM M.kp passX (pa_cons (pe_tup (pa_cons pe_str pa_nil)) (pa_cons (pv 7) pa_nil))) (pa_cons (pe_callR OM hr4 (by rfl) mM M.kp passX (pa_cons (pv 7) (pa_cons (pe_tup (pa_cons pe_str pa_nil)) pa_nil))) pa_nil)))))
      (Evl.pss_cut (ps_if (pt_cmpR (op_neD hu) (pv 4) (pe_op op_rep (pe_lst (pa_cons (pv 3) pa_nil)) pe_int) (nomark _)) (pss_one (ps_ret pe_bl)) pss_nil)
      (pss_one (ps_ret (pe_cmpR (op_eqD hu) (pe_mulK OK hr4 (by rfl) mM M.kp passX (pe_ix ix_tup (pv 1) pe_int (fun _ _ => rfl))) (pe_ix ix_tup (pv 1) pe_int (fun _ _ => rfl)) (nomark _)))))))))))), ?_⟩
    refine ⟨fun σ H1 => ∃ (a : Addr) (xs : List V) (rs : List (List Str)), σ = [some (.ref t), some (.ref a), none, none, none, none, none, none, none] ∧ SqT K (mask t H1) a xs ∧ RowsAt K (mask t H1) xs rs ∧ Drawn rs ∧ Tray H1 t (n + 100000) ∧ But t H H1, ?_, ?_⟩
    · exact ⟨_, rfl, t, n, rfl, hT, hn, fun p xs rs H1 h1 h2 h3 h4 h5 => ⟨p, xs, rs, rfl, h1, h2, h3, h4, h5⟩⟩
    rintro σ H1 ⟨a, xs, rs, rfl, hma, hmR, dr, T1, B1⟩
    have M1 := mask_same t H1
    have ha := same_t M1 hma
    have hR := hmR.mono M1
    have hl20 : 1 ≤ rs.length ∧ rs.length ≤ 20 := by rcases dr.len with z | z <;> omega
    have hfit : Fit rs := fit_rows dr.row hl20.1 hl20.2
    have hw200 : ∀ r ∈ rs, WdsOk 200 r := fun r hr => (dr.row r hr).2.2
    have okp := prodW_ok hw200
    have lp := prodW_len rs
    have hc := dr.cnt
    have har := dr.area
    have hc1 : 1 ≤ Bl.cnt rs := cnt_pos fun r hr => (dr.row r hr).1
    obtain ⟨P1, P2, P3, P4⟩ := rows_P hR hw200
    have hsum : (rs.map List.length).sum ≤ 60 * rs.length := sum_le rs fun r hr => (dr.row r hr).2.1
    have D0 : okP (.tuple (rs.map rowT)) ∧ szP (.tuple (rs.map rowT)) ≤ 16000000 ∧ (PyData.tuple (rs.map rowT)).depth ≤ 40 := by
      refine ⟨P2, ?_, ?_⟩
      · show szPs (rs.map rowT) + 3 ≤ 16000000
        omega
      · show PyData.depthAll (rs.map rowT) + 1 ≤ 40
        omega
    generalize hW : prodW rs = pw at *
    obtain ⟨o1, o2, o5⟩ := rowT_okP okp
    have three : okP (.list [rowT pw, rowT pw, rowT pw]) ∧ szP (.list [rowT pw, rowT pw, rowT pw]) ≤ 16000000 ∧ (PyData.list [rowT pw, rowT pw, rowT pw]).depth ≤ 40 := by
      rw [lp] at o2
      refine ⟨⟨o1, o1, o1, trivial⟩, ?_, ?_⟩
      · show szP (rowT pw) + 2 + (szP (rowT pw) + 2 + (szP (rowT pw) + 2 + 0)) + 3 ≤ 16000000
        omega
      · show max (rowT pw).depth (max (rowT pw).depth (max (rowT pw).depth 0)) + 1 ≤ 40
        omega
    -- its text, its words
    refine ⟨fun σ H2 => ∃ d : Addr, σ = [some (.ref t), some (.ref a), some (.str (PyData.tuple (rs.map rowT)).shown), some (.ref d), none, none, none, none, none] ∧ SqT K H2 d (pw.map V.str) ∧ Same H1 H2, ?_, ?_⟩
    · refine ⟨_, rfl, a, _, rfl, .tup ha P1, D0.1, D0.2.1, D0.2.2, ?_⟩
      refine ⟨_, rfl, a, xs, rs, rfl, ha, hR, hfit, hc, fun lw H2 S2 hlw => ?_⟩
      rw [hW] at hlw
      exact ⟨lw, _, rfl, .inl ⟨SqL.of hlw, fun d hd => ⟨_, _, rfl, d, rfl, SqT.of upd_same, S2.trans (same_new hd)⟩⟩⟩
    rintro σ H2 ⟨d, rfl, hd, S2⟩
    generalize hTx : (PyData.tuple (rs.map rowT)).shown = tx
    have ha2 := same_t S2 ha
    have hR2 := hR.mono S2
    have T2 := tray_same T1 S2
    -- three times
    refine ⟨fun σ H3 => ∃ lt p1 p2 p3 : Addr, σ = [some (.ref t), some (.ref a), some (.str tx), some (.ref d), some (.ref lt), none, none, none, none] ∧ H3 lt = some (.lst [.ref p1, .ref p2, .ref p3]) ∧ lt ≠ t ∧ SqT K H3 p1 (pw.map V.str) ∧ SqT K H3 p2 (pw.map V.str) ∧ SqT K H3 p3 (pw.map V.str) ∧ Same H2 H3, ?_, ?_⟩
    · refine ⟨_, rfl, a, xs, rs, rfl, ha2, hR2, hfit, dr.len.two.1, Out.tk dr.len.two.2 (Out.of hc fun p1 H3 S3 h1 => ?_)⟩
      refine ⟨_, rfl, a, xs, rs, rfl, same_t S3 ha2, hR2.mono S3, hfit, Out.of hc fun p2 H4 S4 h2 => ?_⟩
      refine ⟨_, rfl, a, xs, rs, rfl, same_t (S3.trans S4) ha2, hR2.mono (S3.trans S4), hfit, Out.of hc fun p3 H5 S5 h3 => ?_⟩
      rw [hW] at h1 h2 h3
      refine ⟨(by show 3 ≤ sizeLine; decide), fun lt hlt => ?_⟩
      have N := same_new (o := .lst [.ref p1, .ref p2, .ref p3]) hlt
      have T5 := tray_same T2 (S3.trans (S4.trans S5))
      exact ⟨lt, p1, p2, p3, rfl, upd_same, (T5.ne hlt).symm, same_t (S4.trans (S5.trans N)) h1, same_t (S5.trans N) h2, same_t N h3, S3.trans (S4.trans (S5.trans N))⟩
    rintro σ H3 ⟨lt, p1, p2, p3, rfl, hlt, nlt, h1, h2, h3, S3⟩
    -- the same text
    refine ⟨fun σ H4 => σ = [some (.ref t), some (.ref a), some (.str tx), some (.ref d), some (.ref lt), none, none, none, none] ∧ Same H3 H4, ?_, ?_⟩
    · refine ⟨_, rfl, lt, .list [rowT pw, rowT pw, rowT pw], rfl, .lst (SqL.of hlt) (.cons (rowT_dp h1) (.cons (rowT_dp h2) (.cons (rowT_dp h3) .nil))), three.1, three.2.1, three.2.2, ?_⟩
      refine ⟨_, rfl, (by show 1 ≤ sizeLine; decide), fun l1 g1 => ⟨l1, 3, [.ref d], rfl, rfl, upd_same, by decide, by decide, (by show 1 * 3 ≤ sizeLine; decide), fun l2 g2 => ?_⟩⟩
      have N := (same_new (o := .lst [.ref d]) g1).trans (same_new (o := .lst (List.replicate (3 : Int).toNat [V.ref d]).flatten) g2)
      have dd := rowT_dp (same_t (S3.trans N) hd)
      refine ⟨l2, .list [rowT pw, rowT pw, rowT pw], rfl, .lst (SqL.of (xs := [.ref d, .ref d, .ref d]) upd_same) (.cons dd (.cons dd (.cons dd .nil))), three.1, three.2.1, three.2.2, rfl, _, rfl, ne_no ?_⟩
      refine ⟨_, rfl, a, .tuple (rs.map rowT), rfl, .tup (same_t (S3.trans N) ha2) (rows_P (hR2.mono (S3.trans N)) hw200).1, D0.1, D0.2.1, D0.2.2, _, rfl, ?_⟩
      rw [hTx]
      exact ⟨rfl, _, rfl, ne_no ⟨rfl, N⟩⟩
    rintro σ H4 ⟨rfl, S4⟩
    have T4 := tray_same T2 (S3.trans S4)
    -- the cut
    refine ⟨fun σ H5 => ∃ c : Nat, σ = [some (.ref t), some (.ref a), some (.str tx), some (.ref d), some (.ref lt), some (.int (c : Int)), none, none, none] ∧ c ≤ rs.length ∧ Tray H5 t (n + 100001) ∧ But t H4 H5, ?_, ?_⟩
    · have hlx := hR.len
      refine ⟨_, rfl, _, rfl, a, xs, rfl, .inr (same_t (S3.trans S4) ha2), _, _, rfl, rfl, t, _, n + 100000, rfl, by omega, log_small (by omega) (by omega), T4, by omega, fun v H5 v0 v1 T5 B5 => ⟨v.toNat, ?_, by omega, T5, B5⟩⟩
      have e : ((v.toNat : Nat) : Int) = v := by omega
      rw [e]
      rfl
    rintro σ H5 ⟨c, rfl, hcl, T5, B5⟩
    have B15 : But t H1 H5 := (but_of (S2.trans (S3.trans S4))).trans B5
    have M5 := mask_same t H5
    have ha5 := same_t ((mask_but B15).trans M5) hma
    have hR5 := hmR.mono ((mask_but B15).trans M5)
    have hd5 : SqT K H5 d (pw.map V.str) := same_t ((mask_but ((but_of (S3.trans S4)).trans B5)).trans M5) (mask_t T2 hd)
    have T3 := tray_same T2 S3
    have h25 : SqT K H5 p2 (pw.map V.str) := same_t ((mask_but ((but_of S4).trans B5)).trans M5) (mask_t T3 h2)
    have hlt5 : H5 lt = some (.lst [.ref p1, .ref p2, .ref p3]) := B5 lt _ nlt (S4 lt _ hlt)
    clear hma hmR hd h1 h2 h3 hlt ha hR ha2 hR2
    -- the parts
    have parts : ∀ x ∈ [rs.take c, rs.drop c], (x = [] ∨ Fit x) ∧ Bl.cnt x ≤ 2000 ∧ (∀ r ∈ x, WdsOk 200 r) ∧ x.length ≤ 20 ∧ 1 ≤ Bl.cnt x := by
      intro x hx
      have sub : ∀ r ∈ x, r ∈ rs := by
        rcases List.mem_cons.mp hx with e | e
        · rw [e]; exact fun r hr => List.mem_of_mem_take hr
        · rw [List.mem_singleton] at e
          rw [e]; exact fun r hr => List.mem_of_mem_drop hr
      have lx : x.length ≤ 20 := by
        rcases List.mem_cons.mp hx with e | e
        · rw [e, List.length_take]; omega
        · rw [List.mem_singleton] at e
          rw [e, List.length_drop]; omega
      have cx : Bl.cnt x ≤ Bl.cnt rs := by
        have e1 := cnt_app (rs.take c) (rs.drop c)
        rw [List.take_append_drop] at e1
        have q1 := cnt_pos (rs := rs.take c) fun r hr => (dr.row r (List.mem_of_mem_take hr)).1
        have q2 := cnt_pos (rs := rs.drop c) fun r hr => (dr.row r (List.mem_of_mem_drop hr)).1
        rcases List.mem_cons.mp hx with e | e
        · rw [e, e1]; exact Nat.le_mul_of_pos_right _ q2
        · rw [List.mem_singleton] at e
          rw [e, e1]; exact Nat.le_mul_of_pos_left _ q1
      refine ⟨?_, by omega, fun r hr => hw200 r (sub r hr), lx, cnt_pos fun r hr => (dr.row r (sub r hr)).1⟩
      cases x with
      | nil => exact .inl rfl
      | cons r x => exact .inr (fit_rows (fun q hq => dr.row q (sub q hq)) (by rw [List.length_cons]; omega) lx)
    refine ⟨fun σ H6 => ∃ lq q1 q2 : Addr, σ = [some (.ref t), some (.ref a), some (.str tx), some (.ref d), some (.ref lt), some (.int (c : Int)), some (.ref lq), none, none] ∧ H6 lq = some (.lst [.ref q1, .ref q2]) ∧ SqT K H6 q1 ((prodW (rs.take c)).map V.str) ∧ SqT K H6 q2 ((prodW (rs.drop c)).map V.str) ∧ Same H5 H6, ?_, ?_⟩
    · refine ⟨_, rfl, _, rfl, _, rfl, a, xs, rfl, ha5, fun s1 H6 S6 hs1 => ?_⟩
      rw [cutV_to] at hs1
      refine ⟨_, rfl, _, rfl, _, rfl, a, xs, rfl, same_t S6 ha5, fun s2 H7 S7 hs2 => ?_⟩
      rw [cutV_from] at hs2
      refine ⟨(by show 2 ≤ sizeLine; decide), fun ls hls => ?_⟩
      have N8 := same_new (o := .lst [.ref s1, .ref s2]) hls
      refine ⟨ls, rfl, ⟨_, SqL.of upd_same⟩, fun D0' hD => ?_⟩
      have S58 : Same H5 (upd H7 ls (.lst [.ref s1, .ref s2])) := S6.trans (S7.trans N8)
      have R8 := hR5.mono S58
      refine lc_list (K := K) (a := ls) (xs := [.ref s1, .ref s2]) (fun i H' => Same (upd H7 ls (.lst [.ref s1, .ref s2])) H' ∧ ∃ vs : List V, H' D0' = some (.lst vs) ∧ RowsAt K (mask D0' H') vs ([prodW (rs.take c), prodW (rs.drop c)].take i)) ⟨same_new hD, [], upd_same, .nil⟩ (fun i H' _ q => SqL.of (q.1 ls _ upd_same)) ?_ ?_
      · rintro i x H' hx ⟨S9, vs, hvs, hRv⟩
        obtain ⟨sa, va, ra, rfl, hsa, hra, hin, htk, hi2⟩ : ∃ (sa : Addr) (va : List V) (ra : List (List Str)), x = .ref sa ∧ SqT K (upd H7 ls (.lst [.ref s1, .ref s2])) sa va ∧ RowsAt K (upd H7 ls (.lst [.ref s1, .ref s2])) va ra ∧ ra ∈ [rs.take c, rs.drop c] ∧ [prodW (rs.take c), prodW (rs.drop c)].take (i + 1) = [prodW (rs.take c), prodW (rs.drop c)].take i ++ [prodW ra] ∧ i < 2 := by
          match i, hx with
          | 0, hx =>
            cases hx
            exact ⟨s1, _, _, rfl, same_t (S7.trans N8) hs1, R8.take c, List.mem_cons_self, rfl, by decide⟩
          | 1, hx =>
            cases hx
            exact ⟨s2, _, _, rfl, same_t N8 hs2, R8.drop c, List.mem_cons_of_mem _ List.mem_cons_self, rfl, by decide⟩
          | i + 2, hx => cases hx
        obtain ⟨f1, f2, f3, f4, f5⟩ := parts ra hin
        obtain ⟨z1, z2, z3, z4⟩ := rows_P (hra.mono S9) f3
        have nlen := hra.len
        have hls' := hRv.len
        rw [List.length_take] at hls'
        have hls' : vs.length ≤ 2 := by
          have : vs.length = min i 2 := hls'
          omega
        refine ⟨rfl, ?_⟩
        refine ⟨_, rfl, (by show 0 ≤ sizeLine; decide), fun e he => ?_⟩
        have Ne := same_new (o := .tup []) he
        have sh : SeqAt.shaped (.tuple (ra.map rowT)) = true := (selfP (d := .tuple (ra.map rowT)) z2 (by show PyData.depthAll (ra.map rowT) + 1 ≤ 64; omega)).1
        refine ⟨.tuple (ra.map rowT), .tuple [], .tup (same_t (S9.trans Ne) hsa) (rows_P (hra.mono (S9.trans Ne)) f3).1, .tup (SqT.of upd_same) .nil, sh, by decide +kernel, _, rfl, ?_⟩
        cases ra with
        | nil =>
          refine iteF ?_
          refine ⟨(by show 1 ≤ sizeLine; decide), fun q hq => ?_⟩
          have Nq := same_new (o := .tup [.str ""]) hq
          refine ⟨vs, Nq D0' _ (Ne D0' _ hvs), Nat.lt_of_lt_of_le (by omega) (sl_small (n := 100000) (Nat.le_refl _)), fun b o hb => ?_, vs ++ [.ref q], upd_same, ?_⟩
          · rw [upd_ne (ne_of_none hb hD)]
            exact Nq b o (Ne b o (S9 b o hb))
          · rw [htk]
            exact rows_snocD hRv (Ne.trans Nq) (Nq D0' _ (Ne D0' _ hvs)) (ws := prodW []) (SqT.of upd_same)
        | cons r0 ra' =>
          have hf : Fit (r0 :: ra') := f1.resolve_left (by simp)
          refine iteT ?_
          refine ⟨_, rfl, sa, va, r0 :: ra', rfl, same_t (S9.trans Ne) hsa, hra.mono (S9.trans Ne), hf, Out.of f2 fun q H9 Sq hq => ?_⟩
          have hv9 := Sq D0' _ (Ne D0' _ hvs)
          refine ⟨vs, hv9, Nat.lt_of_lt_of_le (by omega) (sl_small (n := 100000) (Nat.le_refl _)), fun b o hb => ?_, vs ++ [.ref q], upd_same, ?_⟩
          · rw [upd_ne (ne_of_none hb hD)]
            exact Sq b o (Ne b o (S9 b o hb))
          · rw [htk]
            exact rows_snocD hRv (Ne.trans Sq) hv9 hq
      · rintro H' ⟨S9, vs, hvs, hRv⟩
        have hRv := hRv.mono (mask_same D0' H')
        cases hRv with
        | cons a1 b1 =>
        cases b1 with
        | cons a2 b2 =>
        cases b2
        obtain ⟨q1, rfl, hq1⟩ := a1
        obtain ⟨q2, rfl, hq2⟩ := a2
        exact ⟨D0', q1, q2, rfl, hvs, hq1, hq2, S58.trans S9⟩
    rintro σ H6 ⟨lq, q1, q2, rfl, hlq, hq1, hq2, S6⟩
    obtain ⟨_, _, g3, g4, g5⟩ := parts (rs.take c) List.mem_cons_self
    obtain ⟨_, _, k3, k4, k5⟩ := parts (rs.drop c) (List.mem_cons_of_mem _ List.mem_cons_self)
    have hc12 : Bl.cnt (rs.take c) * Bl.cnt (rs.drop c) = Bl.cnt rs := by
      rw [← cnt_app, List.take_append_drop]
    have hpw : prodW [prodW (rs.take c), prodW (rs.drop c)] = pw := by
      rw [prod_two, List.take_append_drop, hW]
    have bl : rs.length * 200 ≤ 4000 := by omega
    have wide : ∀ x y : Nat, x + y ≤ Bl.cnt rs + 1 → (x + y) * (10 * (rs.length * 200) + 4) ≤ 15000000 := fun x y hxy => by
      have e1 : (x + y) * (10 * (rs.length * 200) + 4) ≤ (Bl.cnt rs + 1) * (10 * (rs.length * 200 + 4)) := Nat.mul_le_mul hxy (by omega)
      have e2 : (Bl.cnt rs + 1) * (10 * (rs.length * 200 + 4)) = 10 * (Bl.cnt rs * (rs.length * 200 + 4)) + 10 * (rs.length * 200 + 4) := by
        rw [Nat.succ_mul, Nat.mul_left_comm]
      omega
    have hfit2 : Fit [prodW (rs.take c), prodW (rs.drop c)] := by
      have ok1 : WdsOk (rs.length * 200) (prodW (rs.take c)) := fun x hx => ⟨(prodW_ok g3 x hx).1, Nat.le_trans (prodW_ok g3 x hx).2 (Nat.mul_le_mul_right _ (by rw [List.length_take]; omega))⟩
      have ok2 : WdsOk (rs.length * 200) (prodW (rs.drop c)) := fun x hx => ⟨(prodW_ok k3 x hx).1, Nat.le_trans (prodW_ok k3 x hx).2 (Nat.mul_le_mul_right _ (by rw [List.length_drop]; omega))⟩
      have s12 : Bl.cnt (rs.take c) + Bl.cnt (rs.drop c) ≤ Bl.cnt rs + 1 := by
        rw [← hc12]
        exact add_le_mul g5 k5
      refine fit_two ok1 ok2 bl ?_ ?_ ?_ ?_
      · rw [prodW_len]; exact g5
      · rw [prodW_len]; exact k5
      · rw [prodW_len, prodW_len]; omega
      · rw [prodW_len, prodW_len]; exact wide _ _ s12
    have nil1 : WdsOk (rs.length * 200) [""] := fun x hx => ⟨(one_ok x hx).1, Nat.le_trans (one_ok x hx).2 (Nat.zero_le _)⟩
    have hfitL : Fit [[""], pw] := fit_two nil1 okp bl (by decide) (by omega) (by rw [lp]; show 1 + Bl.cnt rs ≤ 3000; omega) (by rw [lp]; exact wide 1 (Bl.cnt rs) (by omega))
    have hfitR : Fit [pw, [""]] := fit_two okp nil1 bl (by omega) (by decide) (by rw [lp]; show Bl.cnt rs + 1 ≤ 3000; omega) (by rw [lp]; exact wide (Bl.cnt rs) 1 (by omega))
    -- the whole row
    refine ⟨fun σ H7 => σ = [some (.ref t), some (.ref a), some (.str tx), some (.ref d), some (.ref lt), some (.int (c : Int)), some (.ref lq), some (.ref p2), none] ∧ H7 = H6, ?_, ?_⟩
    · exact ⟨_, rfl, lt, _, 1, _, rfl, rfl, SqL.of (S6 lt _ hlt5), rfl, rfl, rfl⟩
    rintro σ H7 ⟨rfl, rfl⟩
    have hp2 := same_t S6 h25
    -- three more
    refine ⟨fun σ H8 => ∃ l8 r1 r2 r3 : Addr, σ = [some (.ref t), some (.ref a), some (.str tx), some (.ref d), some (.ref l8), some (.int (c : Int)), some (.ref lq), some (.ref p2), none] ∧ H8 l8 = some (.lst [.ref r1, .ref r2, .ref r3]) ∧ SqT K H8 r1 (pw.map V.str) ∧ SqT K H8 r2 (pw.map V.str) ∧ SqT K H8 r3 (pw.map V.str) ∧ Same H7 H8, ?_, ?_⟩
    · refine ⟨_, rfl, lq, _, 0, _, rfl, rfl, SqL.of hlq, rfl, _, rfl, lq, _, 1, _, rfl, rfl, SqL.of hlq, rfl, _, .cons ⟨q1, rfl, hq1⟩ (.cons ⟨q2, rfl, hq2⟩ .nil), hfit2, Out.of ?_ fun r1 H8 S8 hr1' => ?_⟩
      · rw [cnt_two, prodW_len, prodW_len, hc12]
        exact hc
      rw [hpw] at hr1'
      refine ⟨(by show 1 ≤ sizeLine; decide), fun e1 he1 => ?_⟩
      have Ne1 := same_new (o := .tup [.str ""]) he1
      refine ⟨_, rfl, _, .cons ⟨e1, rfl, SqT.of (xs := [V.str ""]) upd_same⟩ (.cons ⟨p2, rfl, same_t (S8.trans Ne1) hp2⟩ .nil), hfitL, Out.of ?_ fun r2 H9 S9 hr2' => ?_⟩
      · rw [cnt_two, lp]
        show 1 * Bl.cnt rs ≤ 2000
        omega
      rw [prod_left] at hr2'
      refine ⟨_, rfl, (by show 1 ≤ sizeLine; decide), fun e2 he2 => ?_⟩
      have Ne2 := same_new (o := .tup [.str ""]) he2
      have S79 := S8.trans (Ne1.trans S9)
      refine ⟨_, .cons ⟨p2, rfl, same_t (S79.trans Ne2) hp2⟩ (.cons ⟨e2, rfl, SqT.of (xs := [V.str ""]) upd_same⟩ .nil), hfitR, Out.of ?_ fun r3 H10 S10 hr3' => ?_⟩
      · rw [cnt_two, lp]
        show Bl.cnt rs * 1 ≤ 2000
        omega
      rw [prod_right] at hr3'
      refine ⟨(by show 3 ≤ sizeLine; decide), fun l8 hl8 => ?_⟩
      have N := same_new (o := .lst [.ref r1, .ref r2, .ref r3]) hl8
      exact ⟨l8, r1, r2, r3, rfl, upd_same, same_t (Ne1.trans (S9.trans (Ne2.trans (S10.trans N)))) hr1', same_t (Ne2.trans (S10.trans N)) hr2', same_t N hr3', S79.trans (Ne2.trans (S10.trans N))⟩
    rintro σ H8 ⟨l8, r1, r2, r3, rfl, hl8, hr1', hr2', hr3', S8⟩
    have hd8 := same_t (S6.trans S8) hd5
    obtain ⟨sh3, eq3⟩ := selfP three.1 (by have := three.2.2; omega)
    refine ⟨fun σ H9 => σ = [some (.ref t), some (.ref a), some (.str tx), some (.ref d), some (.ref l8), some (.int (c : Int)), some (.ref lq), some (.ref p2), none] ∧ Same H8 H9, ?_, ?_⟩
    · refine ⟨_, rfl, _, rfl, (by show 1 ≤ sizeLine; decide), fun l1 g1 => ⟨l1, 3, [.ref d], rfl, rfl, upd_same, by decide, by decide, (by show 1 * 3 ≤ sizeLine; decide), fun l2 g2 => ?_⟩⟩
      have N := (same_new (o := .lst [.ref d]) g1).trans (same_new (o := .lst (List.replicate (3 : Int).toNat [V.ref d]).flatten) g2)
      have dd := rowT_dp (same_t N hd8)
      refine ⟨.list [rowT pw, rowT pw, rowT pw], .list [rowT pw, rowT pw, rowT pw], .lst (SqL.of (N l8 _ hl8)) (.cons (rowT_dp (same_t N hr1')) (.cons (rowT_dp (same_t N hr2')) (.cons (rowT_dp (same_t N hr3')) .nil))), .lst (SqL.of (xs := [.ref d, .ref d, .ref d]) upd_same) (.cons dd (.cons dd (.cons dd .nil))), sh3, sh3, ?_⟩
      rw [eq3]
      exact ⟨_, rfl, iteF ⟨rfl, N⟩⟩
    rintro σ H9 ⟨rfl, S9⟩
    have S59 := S6.trans (S8.trans S9)
    have ha9 := same_t S59 ha5
    have hR9 := hR5.mono S59
    obtain ⟨r0, h0⟩ : ∃ r0, rs[0]? = some r0 := ⟨rs[0]'(by omega), List.getElem?_eq_getElem _⟩
    obtain ⟨v0, hv0, w0, rfl, hw0⟩ := hR9.get h0
    have at0 : atI xs (0 : Int) = some (.ref w0) := atI_nat (j := 0) hv0
    obtain ⟨c1, c2, c3⟩ := dr.row r0 (List.mem_of_getElem? h0)
    have hfit1 : Fit [r0] := fit_rows (fun r hr => by rw [List.mem_singleton] at hr; rw [hr]; exact ⟨c1, c2, c3⟩) (by show 1 ≤ 1; decide) (by show 1 ≤ 20; decide)
    have e1 : Bl.cnt [r0] = r0.length := by
      show 1 * r0.length = _
      rw [Nat.one_mul]
    refine ⟨_, rfl, a, xs, 0, .ref w0, rfl, rfl, ha9, at0, _, rfl, [r0], .cons ⟨w0, rfl, hw0⟩ .nil, hfit1, Out.of (by omega) fun q H10 S10 hq => ?_⟩
    rw [prod_one] at hq
    refine ⟨_, rfl, a, xs, 0, .ref w0, rfl, rfl, same_t S10 ha9, at0, ?_⟩
    obtain ⟨b1, b2, b3⟩ := rowT_okP c3
    obtain ⟨shr, eqr⟩ := selfP b1 (by omega)
    refine ⟨rowT r0, rowT r0, rowT_dp hq, rowT_dp (same_t S10 hw0), shr, shr, ?_⟩
    rw [eqr]
    have S := S59.trans S10
    exact k _ (tray_same T5 S) (B1.trans (B15.trans (but_of S)))
end
end K2
namespace K2
open PySem PySem.Spec PyProof.Rows L2 TL Bl
/-- the words of b -/
def bw (n : Nat) : List Str := (List.range n).map fun i => Txt.mul "b" ((i % 3 : Nat) : Int)
theorem bw_len (n : Nat) : (bw n).length = n := by
  unfold bw
  rw [List.length_map, List.length_range]
theorem bw_more (n : Nat) : bw (n + 1) = bw n ++ [Txt.mul "b" ((n % 3 : Nat) : Int)] := by
  unfold bw
  rw [List.range_succ, List.map_append]
  rfl
theorem lets_a : Lets ("a" : Str) := by unfold Lets; decide +kernel
theorem lets_b : Lets ("b" : Str) := by unfold Lets; decide +kernel
theorem rep_ok (n : Nat) : WdsOk 2 (List.replicate n ("a" : Str)) := fun x hx => by
  rw [(List.mem_replicate.mp hx).2]
  exact ⟨lets_a, by decide +kernel⟩
theorem bw_ok (n : Nat) : WdsOk 2 (bw n) := fun x hx => by
  obtain ⟨i, _, rfl⟩ := List.mem_map.mp hx
  refine ⟨lets_mul lets_b _, ?_⟩
  rw [Bl.len_mul]
  have : i % 3 < 3 := Nat.mod_lt _ (by decide)
  show i % 3 * 1 ≤ 2
  omega
theorem fit_pair {hi wi : Nat} (a1 : 1 ≤ hi) (a2 : hi ≤ 60) (a3 : 34 ≤ wi) (a4 : wi ≤ 60) : Fit [List.replicate hi ("a" : Str), bw wi] := by
  refine fit_two (rep_ok hi) (bw_ok wi) (by decide) ?_ ?_ ?_ ?_
  · rw [List.length_replicate]; exact a1
  · rw [bw_len]; omega
  · rw [List.length_replicate, bw_len]; omega
  · rw [List.length_replicate, bw_len]
    have : (hi + wi) * (10 * 2 + 4) ≤ 120 * 24 := Nat.mul_le_mul (by omega) (by omega)
    omega
theorem rows_rep {K : PySem.W.Frag} {H : Hp} {v : V} {r : List Str} (h : RowAt K H v r) : ∀ n, RowsAt K H (List.replicate n v) (List.replicate n r)
  | 0 => .nil
  | n + 1 => .cons h (rows_rep h n)
theorem cnt_rep (r : List Str) : ∀ n, cnt (List.replicate n r) = r.length ^ n
  | 0 => rfl
  | n + 1 => by
    have e := cnt_app [r] (List.replicate n r)
    rw [List.singleton_append] at e
    rw [List.replicate_succ, e, cnt_rep r n, Nat.pow_succ, Nat.mul_comm]
    show _ * (1 * r.length) = _
    rw [Nat.one_mul]
theorem fit_rep {r : List Str} {n : Nat} (h1 : 1 ≤ n) (h2 : n ≤ 100) (r1 : 1 ≤ r.length) (r2 : WdsOk 2 r) (hs : r.length * n ≤ 3000) : Fit (List.replicate n r) := by
  have all : ∀ q ∈ List.replicate n r, q = r := fun q hq => (List.mem_replicate.mp hq).2
  have s := sum_le (b := r.length) (List.replicate n r) fun q hq => by rw [all q hq]; exact Nat.le_refl _
  rw [List.length_replicate] at s
  have z := weight_le (b := 2) (rs := List.replicate n r) fun q hq => by rw [all q hq]; exact r2
  refine ⟨by rw [List.length_replicate]; exact ⟨h1, h2⟩, fun q hq => ?_, by omega, ?_⟩
  · rw [all q hq]
    exact ⟨r1, fun x hx => ⟨(r2 x hx).1, Nat.le_trans (r2 x hx).2 (by decide)⟩⟩
  · omega
theorem fit_big : Fit (List.replicate 40 (List.replicate 60 ("a" : Str))) := fit_rep (by decide) (by decide) (by rw [List.length_replicate]; decide) (rep_ok 60) (by rw [List.length_replicate]; decide)
theorem ab_ok : WdsOk 2 ["a", "b"] := fun x hx => by
  rcases List.mem_cons.mp hx with e | e
  · rw [e]; exact ⟨lets_a, by decide +kernel⟩
  · rw [List.mem_singleton] at e
    rw [e]; exact ⟨lets_b, by decide +kernel⟩
theorem fit_ab (n : Nat) (h1 : 1 ≤ n) (h2 : n ≤ 100) : Fit (List.replicate n (["a", "b"] : List Str)) := fit_rep h1 h2 (by decide) ab_ok (by show 2 * n ≤ 3000; omega)
theorem lim_big : limV ((List.replicate 40 (List.replicate 60 ("a" : Str))).take 20) = .int 2000 ∧ limV (List.replicate 40 (List.replicate 60 ("a" : Str))) = .int 2000 := by
  constructor
  · rw [List.take_replicate]
    refine if_pos ?_
    rw [cnt_rep, List.length_replicate]
    decide
  · refine if_pos ?_
    rw [cnt_rep, List.length_replicate]
    decide
theorem lim_ab : limV ((List.replicate 20 (["a", "b"] : List Str)).take 20) = .int 2000 ∧ limV (List.replicate 20 (["a", "b"] : List Str)) = .int 2000 := by
  constructor
  · rw [List.take_replicate]
    refine if_pos ?_
    rw [cnt_rep]
    decide
  · refine if_pos ?_
    rw [cnt_rep]
    decide
theorem abcd : prodW [["a", "b"], ["c", "d"]] = [("ac" : Str), ("ad" : Str), ("bc" : Str), ("bd" : Str)] := by decide +kernel
theorem abcd_eq : PyData.eqv (rowT ["ac", "ad", "bc", "bd"]) (rowT ["ac", "ad", "bc", "bd"]) = true := by decide +kernel
theorem nil_eq : PyData.eqv (rowT [""]) (rowT [""]) = true := by decide +kernel
section
variable {P : Program} {w : World} {K : PySem.W.Frag} {mg : Str → Option Value} {base : Heap}
def spLaw (K : PySem.W.Frag) : Sp := fun vs H Q _ => ∃ (a : Addr) (ns : List Int), vs = [.ref a] ∧ SqL K H a (ns.map V.int) ∧ ns.length ≤ 63 ∧ ∀ H', Q (.bl true) H'
theorem scLaw : FnScope ["script", "at", "tray", "turn", "high", "wide", "some", "place"] ["script"] (defScope sLaw) := ⟨rfl, rfl, rfl, by decide +kernel, rfl, by decide +kernel, by decide +kernel⟩
set_option maxHeartbeats 8000000 in
theorem ok_law {f ty ri lo li on o m C : Addr} {fd tyd rid lod lid ond od md : FuncData} (F : Fun K "law" "law" sLaw f fd) (T : Names mg)
    (FY : Fun K "_law_tray" "_law_tray" sTray ty tyd) (mY : mg "_law_tray" = some (.ref ty)) (bY : Binds K tyd ["script", "at"] [])
    (FR : Fun K "_law_right" "_law_right" sRight ri rid) (mR : mg "_law_right" = some (.ref ri)) (bR : Binds K rid ["tray"] []) (OR : FnG P w K mg base CX0 6 ri rid ["tray"] spRight)
    (FL : Fun K "_law_long_right" "_law_long_right" sLong lo lod) (mL : mg "_law_long_right" = some (.ref lo)) (bL : Binds K lod ["tray"] []) (OL : FnG P w K mg base CX0 6 lo lod ["tray"] spLong)
    (FI : Fun K "_law_limit" "_law_limit" sLimit li lid) (mI : mg "_law_limit" = some (.ref li)) (bI : Binds K lid ["some"] []) (OI : FnOk P w K mg base CX0 6 li lid ["some"] (spLimit K))
    (FN : Fun K "_law_one_by_one" "_law_one_by_one" sOne on ond) (mN : mg "_law_one_by_one" = some (.ref on)) (bN : Binds K ond [] []) (ON : FnOk P w K mg base CX0 5 on ond [] spOne)
    (M : Fun K "multiply" "multiply" sMul m md) (mM : mg "multiply" = some (.ref m)) (OM : FnR P w K mg base (L2.CX P w) 4 m (spMul K C))
    (W : Fun K "written_out" "written_out" sWrit o od) (mW : mg "written_out" = some (.ref o)) (bW : Binds K od ["product"] []) (OW : FnOk P w K mg base (L2.CX P w) 5 o od ["product"] (spAll K C)) :
    FnG P w K mg base CX0 7 f fd ["script"] (spLaw K) := by
  refine okG F scLaw (fun vs H Q E h => ?_) (fun cdv A outer s H vs Q E hgd hr h => ?_)
  · obtain ⟨a, ns, rfl, _⟩ := h
    rfl
  · obtain ⟨a, ns, rfl, hS, hl, k⟩ := h
    have OY : FnOk P w K mg base CX0 1 ty tyd ["script", "at"] (spTray K) := ok_tray FY T
    have hr1 : Room 1 _ := hr.mono (by decide)
    have hr4 : Room 4 _ := hr.mono (by decide)
    have hr5 : Room 5 _ := hr.mono (by decide)
    have hu := hr.units
    refine ⟨_, Evl.pss_cut (ps_for PassesOwn.never rfl (pi_range1 (by rfl) T.range (pa_cons (pe_callB (call_max2 rfl) (by rfl) T.max boot_max (pa_cons pe_int (pa_cons (pe_callB (call_min2 rfl) (by rfl) T.min boot_min (pa_cons pe_int (pa_cons (pe_callB call_len_seq (by rfl) T.len PySem.boot_len (pa_cons (pv 0) pa_nil)) pa_nil))) pa_nil))) pa_nil)) (pg_name (i := 1) scLaw.nd rfl (Or.inl rfl))
        (pss_cons (ps_set (i := 2) scLaw.nd rfl (Or.inl rfl) (pe_call OY hr1 (by rfl) mY FY.kp bY .nil pass0 (pa_cons (pv 0) (pa_cons (pv 1) pa_nil))))
        (Evl.pss_cut (ps_for PassesOwn.never rfl (pi_range1 (by rfl) T.range (pa_cons pe_int pa_nil)) (pg_name (i := 3) scLaw.nd rfl (Or.inl rfl))
          (pss_one (ps_if (pt_not (pt_val (pe_callG OR hgd hr (by rfl) mR FR.kp bR pass0 (pa_cons (pv 2) pa_nil)))) (pss_one (ps_ret pe_bl)) pss_nil)))
        (Evl.pss_cut (ps_if (pt_not (pt_val (pe_callG OL hgd hr (by rfl) mL FL.kp bL pass0 (pa_cons (pv 2) pa_nil)))) (pss_one (ps_ret pe_bl)) pss_nil)
        (pss_one (ps_for PassesOwn.never rfl (pi_list (pe_lst (pa_cons (pe_tup (pa_cons pe_int (pa_cons pe_int pa_nil))) (pa_cons (pe_tup (pa_cons pe_int (pa_cons pe_int pa_nil))) (pa_cons (pe_tup (pa_cons pe_int (pa_cons pe_int pa_nil))) (pa_cons (pe_tup (pa_cons pe_int (pa_cons pe_int pa_nil)))
              (pa_cons (pe_tup (pa_cons pe_int (pa_cons pe_int pa_nil))) (pa_cons (pe_tup (pa_cons pe_int (pa_cons pe_int pa_nil))) pa_nil))))))))
            (pg_tup rfl (pgs_cons (pg_name (i := 4) scLaw.nd rfl (Or.inl rfl)) (pgs_cons (pg_name (i := 5) scLaw.nd rfl (Or.inl rfl)) pgs_nil)))
          (Evl.pss_cut (ps_set (i := 6) scLaw.nd rfl (Or.inl rfl) (pe_tup (pa_cons (pe_op op_repN (pe_tup (pa_cons pe_str pa_nil)) (pv 4)) (pa_cons (pe_callTy call_tuple_of (by rfl) T.tuple (by decide +kernel)
              (pa_cons (pe_lc (own := [("place", 7)]) (g := gName 7) (tt := tYes) rfl scLaw.nd (pi_range1 (by rfl) T.range (pa_cons (pv 5) pa_nil))
                (blkOk_by (N := ["script", "at", "tray", "turn", "high", "wide", "some", "place"]) (sc := defScope sLaw) (by decide +kernel)) (fun _ _ _ _ _ => pg_name (i := 7) scLaw.nd rfl (Or.inl rfl)) (fun _ _ _ _ _ => pts_nil)
                (fun _ _ _ _ _ => pe_op op_mulS pe_str (pe_op op_mod (pv 7) pe_int))) pa_nil)) pa_nil))))
          (pss_one (ps_if (pt_cmpR (op_neD hu) (pe_call OI hr (by rfl) mI FI.kp bI .nil pass0 (pa_cons (pv 6) pa_nil))
              (pe_op op_rep (pe_lst (pa_cons (pe_ifExp (pt_cmpR op_gt (pe_op op_mul (pv 4) (pv 5)) pe_int (nomark _)) pe_int pe_non) pa_nil)) pe_int) (nomark _)) (pss_one (ps_ret pe_bl)) pss_nil)))))))))
      (Evl.pss_cut (ps_if (PW.pt (pw_or (pt_cmpR (op_neD hu) (pe_call OI hr (by rfl) mI FI.kp bI .nil pass0 (pa_cons (pe_op op_repN (pe_tup (pa_cons (pe_op op_repN (pe_tup (pa_cons pe_str pa_nil)) pe_int) pa_nil)) pe_int) pa_nil)) (pe_op op_rep (pe_lst (pa_cons pe_int pa_nil)) pe_int) (nomark _))
          (pw_or1 (pt_not (pt_val (pe_call0 ON hr5 (by rfl) mN FN.kp bN .nil pass0)))))) (pss_one (ps_ret pe_bl)) pss_nil)
      (Evl.pss_cut (ps_if (PW.pt (pw_or (pt_cmpR (op_neD hu) (pe_call OI hr (by rfl) mI FI.kp bI .nil pass0 (pa_cons (pe_op op_repN (pe_tup (pa_cons (pe_tup (pa_cons pe_str (pa_cons pe_str pa_nil))) pa_nil)) pe_int) pa_nil)) (pe_op op_rep (pe_lst (pa_cons pe_int pa_nil)) pe_int) (nomark _))
          (pw_or1 (pt_cmpR op_ne (pe_callB call_len_seq (by rfl) T.len PySem.boot_len (pa_cons (pe_call OW hr5 (by rfl) mW W.kp bW .nil passX (pa_cons (pe_op op_repN (pe_tup (pa_cons (pe_tup (pa_cons pe_str (pa_cons pe_str pa_nil))) pa_nil)) pe_int) pa_nil)) pa_nil)) pe_int (nomark _))))) (pss_one (ps_ret pe_bl)) pss_nil)
      (pss_one (ps_ret (pe_and (pe_cmpR (op_eqD hu) (pe_callR OM hr4 (by rfl) mM M.kp passX (pa_cons (pe_tup (pa_cons pe_str (pa_cons pe_str pa_nil))) (pa_cons (pe_tup (pa_cons pe_str (pa_cons pe_str pa_nil))) pa_nil)))
            (pe_tup (pa_cons pe_str (pa_cons pe_str (pa_cons pe_str (pa_cons pe_str pa_nil))))) (by rfl))
        (pe_one (pe_cmpR (op_eqD hu) (pe_call OW hr5 (by rfl) mW W.kp bW .nil passX (pa_cons (pe_tup (pa_cons (pe_tup (pa_cons pe_str pa_nil)) pa_nil)) pa_nil)) (pe_tup (pa_cons pe_str pa_nil)) (by rfl)))))))), ?_⟩
    refine ⟨fun σ H1 => ∃ o1 o2 o3 o4 o5 o6 : Option V, σ = [some (.ref a), o1, o2, o3, o4, o5, o6, none] ∧ Same H H1, ?_, ?_⟩
    · refine ⟨_, rfl, a, _, rfl, .inl hS, _, _, rfl, _, _, rfl, ?_⟩
      rw [List.length_map]
      have hb : 1 ≤ (if (if ((ns.length : Nat) : Int) < 6 then ((ns.length : Nat) : Int) else 6) > 1 then (if ((ns.length : Nat) : Int) < 6 then ((ns.length : Nat) : Int) else 6) else 1) ∧ (if (if ((ns.length : Nat) : Int) < 6 then ((ns.length : Nat) : Int) else 6) > 1 then (if ((ns.length : Nat) : Int) < 6 then ((ns.length : Nat) : Int) else 6) else 1) ≤ 6 := by
        split <;> split <;> omega
      refine ⟨_, rfl, ?_, ?_, for_range (lo := 0) (fun _ σ H1 => ∃ o1 o2 o3 o4 o5 o6 : Option V, σ = [some (.ref a), o1, o2, o3, o4, o5, o6, none] ∧ Same H H1) ⟨none, none, none, none, none, none, rfl, Same.refl _⟩ ?_ fun σ H1 z => z⟩
      · omega
      · omega
      rintro i σ H1 hi ⟨o1, o2, o3, o4, o5, o6, rfl, S1⟩
      have hi8 : i ≤ 6 := by omega
      have e0 : (0 : Int) + (i : Int) = (i : Int) := Int.zero_add _
      refine ⟨_, rfl, _, rfl, a, ns, i, by rw [e0]; rfl, S1.seq hS, by omega, by omega, fun t H2 ht T2 S2 => ?_⟩
      refine ⟨fun σ H3 => ∃ o1 o3 o4 o5 o6 : Option V, σ = [some (.ref a), o1, some (.ref t), o3, o4, o5, o6, none] ∧ Tray H3 t 200002 ∧ But t H2 H3, ?_, ?_⟩
      · refine ⟨2, rfl, by decide, by decide, for_range (lo := 0) (n := 2) (fun j σ H3 => ∃ o1 o3 o4 o5 o6 : Option V, σ = [some (.ref a), o1, some (.ref t), o3, o4, o5, o6, none] ∧ Tray H3 t (100001 * j) ∧ But t H2 H3) ⟨_, _, _, _, _, rfl, T2, But.refl _ _⟩ ?_ ?_⟩
        · rintro j σ H3 hj ⟨o1, o3, o4, o5, o6, rfl, T3, B3⟩
          refine ⟨_, rfl, t, 100001 * j, rfl, T3, by omega, fun H4 T4 B4 => ⟨true, rfl, ?_⟩⟩
          exact ⟨_, _, _, _, _, rfl, T4.mono (by omega), B3.trans B4⟩
        · rintro σ H3 ⟨o1, o3, o4, o5, o6, rfl, T3, B3⟩
          exact ⟨_, _, _, _, _, rfl, T3, B3⟩
      clear o1 o3 o4 o5 o6
      rintro σ H3 ⟨o1, o3, o4, o5, o6, rfl, T3, B3⟩
      refine ⟨fun σ H4 => σ = [some (.ref a), o1, some (.ref t), o3, o4, o5, o6, none] ∧ Same H H4, ?_, ?_⟩
      · refine ⟨_, rfl, t, 200002, rfl, T3, by omega, fun H4 T4 B4 => ⟨true, rfl, ?_⟩⟩
        refine ⟨rfl, fun b o hb => ?_⟩
        have hb1 := S1 b o hb
        exact B4 b o (ne_of_none hb1 ht) (B3 b o (ne_of_none hb1 ht) (S2 b o hb1))
      rintro σ H4 ⟨rfl, S4⟩
      clear S1 S2 T2 T3 B3 ht
      refine ⟨(by show 2 ≤ sizeLine; decide), fun p1 h1 => ?_⟩
      refine ⟨(by show 2 ≤ sizeLine; decide), fun p2 h2 => ?_⟩
      refine ⟨(by show 2 ≤ sizeLine; decide), fun p3 h3 => ?_⟩
      refine ⟨(by show 2 ≤ sizeLine; decide), fun p4 h4 => ?_⟩
      refine ⟨(by show 2 ≤ sizeLine; decide), fun p5 h5 => ?_⟩
      refine ⟨(by show 2 ≤ sizeLine; decide), fun p6 h6 => ?_⟩
      refine ⟨(by show 6 ≤ sizeLine; decide), fun l hl0 => ?_⟩
      have N7 := same_new (o := .lst [.ref p1, .ref p2, .ref p3, .ref p4, .ref p5, .ref p6]) hl0
      have N6 := (same_new (o := .tup [.int 1, .int 60]) h6).trans N7
      have N5 := (same_new (o := .tup [.int 44, .int 46]) h5).trans N6
      have N4 := (same_new (o := .tup [.int 42, .int 48]) h4).trans N5
      have N3 := (same_new (o := .tup [.int 50, .int 40]) h3).trans N4
      have N2 := (same_new (o := .tup [.int 60, .int 34]) h2).trans N3
      have N1 := (same_new (o := .tup [.int 40, .int 50]) h1).trans N2
      have S5 := S4.trans N1
      have pairs : ∀ x ∈ [V.ref p1, .ref p2, .ref p3, .ref p4, .ref p5, .ref p6], ∃ (p : Addr) (hi wi : Nat), x = .ref p ∧ SqT K (upd (upd (upd (upd (upd (upd (upd H4 p1 (.tup [.int 40, .int 50])) p2 (.tup [.int 60, .int 34])) p3 (.tup [.int 50, .int 40])) p4 (.tup [.int 42, .int 48])) p5 (.tup [.int 44, .int 46])) p6 (.tup [.int 1, .int 60])) l (.lst [.ref p1, .ref p2, .ref p3, .ref p4, .ref p5, .ref p6])) p [.int (hi : Int), .int (wi : Int)] ∧ 1 ≤ hi ∧ hi ≤ 60 ∧ 34 ≤ wi ∧ wi ≤ 60 := by
        intro x hx
        simp only [List.mem_cons, List.not_mem_nil, or_false] at hx
        rcases hx with rfl | rfl | rfl | rfl | rfl | rfl
        · exact ⟨p1, 40, 50, rfl, SqT.of (N2 p1 _ upd_same), by decide, by decide, by decide, by decide⟩
        · exact ⟨p2, 60, 34, rfl, SqT.of (N3 p2 _ upd_same), by decide, by decide, by decide, by decide⟩
        · exact ⟨p3, 50, 40, rfl, SqT.of (N4 p3 _ upd_same), by decide, by decide, by decide, by decide⟩
        · exact ⟨p4, 42, 48, rfl, SqT.of (N5 p4 _ upd_same), by decide, by decide, by decide, by decide⟩
        · exact ⟨p5, 44, 46, rfl, SqT.of (N6 p5 _ upd_same), by decide, by decide, by decide, by decide⟩
        · exact ⟨p6, 1, 60, rfl, SqT.of (N7 p6 _ upd_same), by decide, by decide, by decide, by decide⟩
      generalize hHl : (upd (upd (upd (upd (upd (upd (upd H4 p1 (.tup [.int 40, .int 50])) p2 (.tup [.int 60, .int 34])) p3 (.tup [.int 50, .int 40])) p4 (.tup [.int 42, .int 48])) p5 (.tup [.int 44, .int 46])) p6 (.tup [.int 1, .int 60])) l (.lst [.ref p1, .ref p2, .ref p3, .ref p4, .ref p5, .ref p6])) = Hl at *
      have hl : Hl l = some (.lst [.ref p1, .ref p2, .ref p3, .ref p4, .ref p5, .ref p6]) := by
        rw [← hHl]
        exact upd_same
      refine ⟨l, rfl, ⟨_, SqL.of hl⟩, for_list (K := K) (a := l) (xs := [.ref p1, .ref p2, .ref p3, .ref p4, .ref p5, .ref p6]) (fun _ σ H' => ∃ o4 o5 o6 : Option V, σ = [some (.ref a), o1, some (.ref t), o3, o4, o5, o6, none] ∧ Same Hl H') ⟨_, _, _, rfl, Same.refl _⟩ (fun _ _ _ _ ⟨_, _, _, _, e⟩ => SqL.of (e l _ hl)) ?_ ?_⟩
      · rintro kk x σ H' hx ⟨o4, o5, o6, rfl, S'⟩
        obtain ⟨p, hi, wi, rfl, hp, a1, a2, a3, a4⟩ := pairs x (List.mem_of_getElem? hx)
        refine ⟨p, _, rfl, same_t S' hp, rfl, _, _, rfl, _, _, rfl, rfl, ?_⟩
        refine ⟨fun σ H6 => ∃ (q : Addr) (vs : List V), σ = [some (.ref a), o1, some (.ref t), o3, some (.int (hi : Int)), some (.int (wi : Int)), some (.ref q), none] ∧ SqT K H6 q vs ∧ RowsAt K H6 vs [List.replicate hi "a", bw wi] ∧ Same H' H6, ?_, ?_⟩
        · refine ⟨(by show 1 ≤ sizeLine; decide), fun e1 he1 => ⟨_, rfl, e1, (hi : Int), [.str "a"], rfl, rfl, SqT.of upd_same, by simp, by omega, by omega, (by show 1 ≤ 1000; decide), fun q1 H7 S7 hq1 => ?_⟩⟩
          have hq1 : SqT K H7 q1 ((List.replicate hi ("a" : Str)).map V.str) := by
            have e : (List.replicate ((hi : Nat) : Int).toNat [V.str "a"]).flatten = (List.replicate hi ("a" : Str)).map V.str := by
              rw [Int.toNat_natCast, List.flatten_replicate_singleton, List.map_replicate]
            rw [← e]
            exact hq1
          have S67 : Same H' H7 := (same_new he1).trans S7
          refine ⟨_, rfl, _, rfl, by omega, by omega, fun D hD => ?_⟩
          refine lc_range (lo := 0) (fun i H8 => Same H7 H8 ∧ H8 D = some (.lst ((bw i).map V.str))) ⟨same_new hD, upd_same⟩ ?_ ?_
          · rintro i H8 hi' ⟨S8, hD8⟩
            have hi' : i < ((wi : Nat) : Int).toNat := hi'
            have e0 : (0 : Int) + (i : Int) = (i : Int) := Int.zero_add _
            have em : ((0 : Int) + (i : Int)) % 3 = ((i % 3 : Nat) : Int) := by
              rw [e0]
              omega
            refine ⟨rfl, ?_⟩
            refine ⟨_, rfl, _, _, rfl, rfl, (by show (0 : Int) < 3; decide), "b", ((i % 3 : Nat) : Int), rfl, congrArg V.int em, by omega, by omega, ?_, _, hD8, ?_, fun b o hb => ?_, ?_⟩
            · rw [Int.toNat_natCast]
              have : i % 3 < 3 := Nat.mod_lt _ (by decide)
              exact sl_small (by show 1 * (i % 3) ≤ 100000; omega)
            · rw [List.length_map, bw_len]
              exact Nat.lt_of_lt_of_le (by omega) (sl_small (n := 100000) (Nat.le_refl _))
            · rw [upd_ne (ne_of_none hb hD)]
              exact S8 b o hb
            · rw [upd_same, bw_more, List.map_append]
              rfl
          · rintro H8 ⟨S8, hD8⟩
            have hD8 : H8 D = some (.lst ((bw ((wi : Nat) : Int).toNat).map V.str)) := hD8
            rw [Int.toNat_natCast] at hD8
            refine ⟨D, _, rfl, .inl ⟨SqL.of hD8, fun q2 hq2 => ?_⟩⟩
            have N9 := same_new (o := .tup ((bw wi).map V.str)) hq2
            refine ⟨(by show 2 ≤ sizeLine; decide), fun q hq => ?_⟩
            have N10 := same_new (o := .tup [.ref q1, .ref q2]) hq
            exact ⟨q, _, rfl, SqT.of upd_same, .cons ⟨q1, rfl, same_t (S8.trans (N9.trans N10)) hq1⟩ (.cons ⟨q2, rfl, SqT.of (N10 q2 _ upd_same)⟩ .nil), S67.trans (S8.trans (N9.trans N10))⟩
        rintro σ H6 ⟨q, vs, rfl, hq, hR, S6⟩
        have fit2 := fit_pair a1 a2 a3 a4
        have c2 : Bl.cnt [List.replicate hi ("a" : Str), bw wi] = hi * wi := by
          rw [cnt_two, List.length_replicate, bw_len]
        refine ⟨_, rfl, q, vs, _, rfl, hq, hR, fit2, .inl ⟨by show 1 ≤ 2; decide, by show 2 ≤ 4; decide⟩, fun l8 H8 S8 h8 => ?_⟩
        have tk2 : [List.replicate hi ("a" : Str), bw wi].take 20 = [List.replicate hi ("a" : Str), bw wi] := rfl
        rw [tk2] at h8
        refine ⟨_, rfl, _, rfl, _, _, rfl, rfl, .inl ⟨by omega, by omega⟩, _, _, rfl, rfl, _, rfl, ite2 (fun z => ?_) (fun z => ?_)⟩
        · have z := of_decide_eq_true z
          have e : limV [List.replicate hi ("a" : Str), bw wi] = .int 2000 := if_pos (by rw [c2]; have e3 : ((hi : Nat) : Int) * ((wi : Nat) : Int) = ((hi * wi : Nat) : Int) := (Int.natCast_mul _ _).symm; omega)
          rw [e] at h8
          refine ⟨(by show 1 ≤ sizeLine; decide), fun l1 g1 => ⟨l1, 2, [.int 2000], rfl, rfl, upd_same, by decide, by decide, (by show 1 * 2 ≤ sizeLine; decide), fun l2 g2 => ?_⟩⟩
          have N := (same_new (o := .lst [.int 2000]) g1).trans (same_new (o := .lst (List.replicate (2 : Int).toNat [(.int 2000 : V)]).flatten) g2)
          refine ⟨.list [.int 2000, .int 2000], .list [.int 2000, .int 2000], .lst (SqL.of (N l8 _ h8)) (.cons (.int _) (.cons (.int _) .nil)), .lst (SqL.of (xs := [.int 2000, .int 2000]) upd_same) (.cons (.int _) (.cons (.int _) .nil)), by decide +kernel, by decide +kernel, _, rfl, iteF ⟨_, _, _, rfl, S'.trans (S6.trans (S8.trans N))⟩⟩
        · have z := of_decide_eq_false (Bool.eq_false_iff.mpr z)
          have e : limV [List.replicate hi ("a" : Str), bw wi] = .non := if_neg (by rw [c2]; have e3 : ((hi : Nat) : Int) * ((wi : Nat) : Int) = ((hi * wi : Nat) : Int) := (Int.natCast_mul _ _).symm; omega)
          rw [e] at h8
          refine ⟨(by show 1 ≤ sizeLine; decide), fun l1 g1 => ⟨l1, 2, [.non], rfl, rfl, upd_same, by decide, by decide, (by show 1 * 2 ≤ sizeLine; decide), fun l2 g2 => ?_⟩⟩
          have N := (same_new (o := .lst [.non]) g1).trans (same_new (o := .lst (List.replicate (2 : Int).toNat [(.non : V)]).flatten) g2)
          refine ⟨.list [.none, .none], .list [.none, .none], .lst (SqL.of (N l8 _ h8)) (.cons .non (.cons .non .nil)), .lst (SqL.of (xs := [.non, .non]) upd_same) (.cons .non (.cons .non .nil)), by decide +kernel, by decide +kernel, _, rfl, iteF ⟨_, _, _, rfl, S'.trans (S6.trans (S8.trans N))⟩⟩
      · rintro σ H' ⟨o4, o5, o6, rfl, S'⟩
        exact ⟨_, _, _, _, _, _, rfl, S5.trans S'⟩
    rintro σ H1 ⟨o1, o2, o3, o4, o5, o6, rfl, S1⟩
    -- far above the limit
    refine ⟨fun σ _ => σ = [some (.ref a), o1, o2, o3, o4, o5, o6, none], ?_, ?_⟩
    · refine ⟨(by show 1 ≤ sizeLine; decide), fun e1 he1 => ⟨e1, 60, [.str "a"], rfl, rfl, SqT.of upd_same, by simp, by decide, by decide, (by show 1 ≤ 1000; decide), fun q1 H2 S2 hq1 => ?_⟩⟩
      refine ⟨(by show 1 ≤ sizeLine; decide), fun e2 he2 => ⟨e2, 40, [.ref q1], rfl, rfl, SqT.of upd_same, by simp, by decide, by decide, (by show 1 ≤ 1000; decide), fun q2 H3 S3 hq2 => ?_⟩⟩
      have r1 : RowAt K H3 (.ref q1) (List.replicate 60 ("a" : Str)) := by
        refine ⟨q1, rfl, same_t ((same_new he2).trans S3) ?_⟩
        have e : (List.replicate (60 : Int).toNat [V.str "a"]).flatten = (List.replicate 60 ("a" : Str)).map V.str := by
          show (List.replicate 60 [V.str "a"]).flatten = _
          rw [List.flatten_replicate_singleton, List.map_replicate]
        rw [← e]
        exact hq1
      have hq2 : SqT K H3 q2 (List.replicate 40 (V.ref q1)) := by
        have e : (List.replicate (40 : Int).toNat [V.ref q1]).flatten = List.replicate 40 (V.ref q1) := by
          show (List.replicate 40 [V.ref q1]).flatten = _
          rw [List.flatten_replicate_singleton]
        rw [← e]
        exact hq2
      refine ⟨q2, _, _, rfl, hq2, rows_rep r1 40, fit_big, .inr (by rw [List.length_replicate]; decide), fun l8 H8 S8 h8 => ?_⟩
      rw [lim_big.1, lim_big.2] at h8
      refine ⟨(by show 1 ≤ sizeLine; decide), fun l1 g1 => ⟨l1, 2, [.int 2000], rfl, rfl, upd_same, by decide, by decide, (by show 1 * 2 ≤ sizeLine; decide), fun l2 g2 => ?_⟩⟩
      have N := (same_new (o := .lst [.int 2000]) g1).trans (same_new (o := .lst (List.replicate (2 : Int).toNat [V.int 2000]).flatten) g2)
      refine ⟨.list [.int 2000, .int 2000], .list [.int 2000, .int 2000], .lst (SqL.of (N l8 _ h8)) (.cons (.int _) (.cons (.int _) .nil)), .lst (SqL.of (xs := [.int 2000, .int 2000]) upd_same) (.cons (.int _) (.cons (.int _) .nil)), by decide +kernel, by decide +kernel, _, rfl, iteF ?_⟩
      refine ⟨rfl, fun H9 _ => ⟨true, rfl, ?_⟩⟩
      exact rfl
    rintro σ H2 rfl
    refine ⟨fun σ _ => σ = [some (.ref a), o1, o2, o3, o4, o5, o6, none], ?_, ?_⟩
    · refine ⟨(by show 2 ≤ sizeLine; decide), fun e1 he1 => ⟨(by show 1 ≤ sizeLine; decide), fun e2 he2 => ⟨e2, 20, [.ref e1], rfl, rfl, SqT.of upd_same, by simp, by decide, by decide, (by show 1 ≤ 1000; decide), fun q2 H3 S3 hq2 => ?_⟩⟩⟩
      have r1 : RowAt K H3 (.ref e1) ["a", "b"] := ⟨e1, rfl, SqT.of (xs := [.str "a", .str "b"]) (S3 e1 _ (same_new he2 e1 _ upd_same))⟩
      have hq2 : SqT K H3 q2 (List.replicate 20 (V.ref e1)) := by
        have e : (List.replicate (20 : Int).toNat [V.ref e1]).flatten = List.replicate 20 (V.ref e1) := by
          show (List.replicate 20 [V.ref e1]).flatten = _
          rw [List.flatten_replicate_singleton]
        rw [← e]
        exact hq2
      refine ⟨q2, _, _, rfl, hq2, rows_rep r1 20, fit_ab 20 (by decide) (by decide), .inr (by rw [List.length_replicate]; decide), fun l8 H8 S8 h8 => ?_⟩
      rw [lim_ab.1, lim_ab.2] at h8
      refine ⟨(by show 1 ≤ sizeLine; decide), fun l1 g1 => ⟨l1, 2, [.int 2000], rfl, rfl, upd_same, by decide, by decide, (by show 1 * 2 ≤ sizeLine; decide), fun l2 g2 => ?_⟩⟩
      have N := (same_new (o := .lst [.int 2000]) g1).trans (same_new (o := .lst (List.replicate (2 : Int).toNat [V.int 2000]).flatten) g2)
      refine ⟨.list [.int 2000, .int 2000], .list [.int 2000, .int 2000], .lst (SqL.of (N l8 _ h8)) (.cons (.int _) (.cons (.int _) .nil)), .lst (SqL.of (xs := [.int 2000, .int 2000]) upd_same) (.cons (.int _) (.cons (.int _) .nil)), by decide +kernel, by decide +kernel, _, rfl, iteF ?_⟩
      refine ⟨(by show 2 ≤ sizeLine; decide), fun e3 he3 => ⟨(by show 1 ≤ sizeLine; decide), fun e4 he4 => ⟨e4, 10, [.ref e3], rfl, rfl, SqT.of upd_same, by simp, by decide, by decide, (by show 1 ≤ 1000; decide), fun q3 H9 S9 hq3 => ?_⟩⟩⟩
      have r3 : RowAt K H9 (.ref e3) ["a", "b"] := ⟨e3, rfl, SqT.of (xs := [.str "a", .str "b"]) (S9 e3 _ (same_new he4 e3 _ upd_same))⟩
      have hq3 : SqT K H9 q3 (List.replicate 10 (V.ref e3)) := by
        have e : (List.replicate (10 : Int).toNat [V.ref e3]).flatten = List.replicate 10 (V.ref e3) := by
          show (List.replicate 10 [V.ref e3]).flatten = _
          rw [List.flatten_replicate_singleton]
        rw [← e]
        exact hq3
      have c10 : Bl.cnt (List.replicate 10 (["a", "b"] : List Str)) = 1024 := cnt_rep _ 10
      refine ⟨q3, _, _, rfl, hq3, rows_rep r3 10, fit_ab 10 (by decide) (by decide), Out.of (by rw [c10]; decide) fun p H10 S10 hp => ?_⟩
      refine ⟨p, _, rfl, .inr hp, ?_⟩
      rw [List.length_map, prodW_len, c10]
      exact ⟨rfl, _, rfl, ne_no rfl⟩
    rintro σ H3 rfl
    refine ⟨(by show 2 ≤ sizeLine; decide), fun e1 he1 => ⟨(by show 2 ≤ sizeLine; decide), fun e2 he2 => ⟨[["a", "b"], ["c", "d"]], .cons ⟨e1, rfl, SqT.of (xs := [.str "a", .str "b"]) (same_new he2 e1 _ upd_same)⟩ (.cons ⟨e2, rfl, SqT.of (xs := [.str "c", .str "d"]) upd_same⟩ .nil), fit_of (by decide +kernel), Out.of (by decide +kernel) fun q H4 S4 hq => ?_⟩⟩⟩
    rw [abcd] at hq
    refine ⟨(by show 4 ≤ sizeLine; decide), fun e3 he3 => ⟨rowT ["ac", "ad", "bc", "bd"], rowT ["ac", "ad", "bc", "bd"], rowT_dp (same_t (same_new he3) hq), .tup (SqT.of upd_same) (wds_dp ["ac", "ad", "bc", "bd"]), by decide +kernel, by decide +kernel, ?_⟩⟩
    rw [abcd_eq]
    refine ⟨true, rfl, iteT ?_⟩
    refine ⟨(by show 1 ≤ sizeLine; decide), fun e4 he4 => ⟨(by show 1 ≤ sizeLine; decide), fun e5 he5 => ⟨e5, [.ref e4], [[""]], rfl, SqT.of upd_same, .cons ⟨e4, rfl, SqT.of (xs := [.str ""]) (same_new he5 e4 _ upd_same)⟩ .nil, fit_of (by decide +kernel), Out.of (by decide +kernel) fun q5 H5 S5 hq5 => ?_⟩⟩⟩
    rw [prod_one] at hq5
    refine ⟨(by show 1 ≤ sizeLine; decide), fun e6 he6 => ⟨rowT [""], rowT [""], rowT_dp (same_t (same_new he6) hq5), .tup (SqT.of upd_same) (wds_dp [""]), by decide +kernel, by decide +kernel, ?_⟩⟩
    rw [nil_eq]
    exact k _
end
end K2
namespace K2
open PySem PySem.Spec PyProof.Rows L2 TL Bl
theorem exm_self {K : PySem.W.Frag} {S : Addr} (h1 : PySem.W.subIn K (.ref S) (.type "BaseException") = some true) (h2 : PySem.W.isClsIn K S = true) (h3 : PySem.W.typeIn K (.ref S) = some (.type "type")) (h4 : PySem.W.subIn K (.ref S) (.ref S) = some true) :
    PySem.W.exmOne K (.ref S) (.ref S) = some true := by
  have e1 : (PySem.W.subIn K (.ref S) (.type "BaseException") == some true) = true := by rw [h1] <;> rfl
  have e2 : ((PySem.W.clsIn K S).isSome && PySem.W.typeIn K (.ref S) == some (.type "type")) = true := by
    have h2' : (PySem.W.clsIn K S).isSome = true := h2
    rw [h2', h3] <;> rfl
  show (if (PySem.W.subIn K (.ref S) (.type "BaseException") == some true) = true then (if ((PySem.W.clsIn K S).isSome && PySem.W.typeIn K (.ref S) == some (.type "type")) = true then PySem.W.subIn K (.ref S) (.ref S) else none) else none) = some true
  rw [if_pos e1, if_pos e2]
  exact h4
theorem all_mk {l : PySem.W.OpenLaw} {w : World} {K : PySem.W.Frag} {h : Heap} {mg : Str → Option Value} {fa f1 f2 f3 f4 f5 f6 f7 f8 f9 f10 f11 f12 f13 f14 f15 f16 f17 f18 f19 f20 f21 C fI : Addr} (X : K.In h) (G : h.Ns mainGlobals mg) (hfa : mg "law" = some (.ref fa))
    {nm q : Str} {N : Addr} {bs bm : List Value} {sn : List Str} {sub : List Value} {ab : Bool} {col : Option Bool} {dd : Option Addr} {v0 v1 v2 v3 v5 : Option Value} {odI anI : Option Addr} {slI : Array (Option Value)} {ocI kVI dcI pmI cdI ctI : Value} {tkM : Tok} {od1 an1 od2 an2 od3 an3 od4 an4 od5 an5 od6 an6 od7 an7 od8 an8 od9 an9 od10 an10 od11 an11 od12 an12 od13 an13 od14 an14 od15 an15 od16 an16 od17 an17 od18 an18 od19 an19 od20 an20 od21 an21 : Option Addr} {sl1 sl2 sl3 sl4 sl5 sl6 sl7 sl8 sl9 sl10 sl11 sl12 sl13 sl14 sl15 sl16 sl17 sl18 sl19 sl20 sl21 : Array (Option Value)} {oc1 kV1 dc1 pm1 cd1 ct1 oc2 kV2 dc2 pm2 cd2 ct2 oc3 kV3 dc3 pm3 cd3 ct3 oc4 kV4 dc4 pm4 cd4 ct4 oc5 kV5 dc5 pm5 cd5 ct5 oc6 kV6 dc6 pm6 cd6 ct6 oc7 kV7 dc7 pm7 cd7 ct7 oc8 kV8 dc8 pm8 cd8 ct8 oc9 kV9 dc9 pm9 cd9 ct9 oc10 kV10 dc10 pm10 cd10 ct10 oc11 kV11 dc11 pm11 cd11 ct11 oc12 kV12 dc12 pm12 cd12 ct12 oc13 kV13 dc13 pm13 cd13 ct13 oc14 kV14 dc14 pm14 cd14 ct14 oc15 kV15 dc15 pm15 cd15 ct15 oc16 kV16 dc16 pm16 cd16 ct16 oc17 kV17 dc17 pm17 cd17 ct17 oc18 kV18 dc18 pm18 cd18 ct18 oc19 kV19 dc19 pm19 cd19 ct19 oc20 kV20 dc20 pm20 cd20 ct20 oc21 kV21 dc21 pm21 cd21 ct21 : Value}
    (a1 : PySem.W.nsIn K mainGlobals "is_word" = some (some (.ref f1))) (l1 : K.lookup f1 = some ⟨oc1, od1, .func (PySem.W.fnOf "is_word" "is_word" (defArgs sIsWord) (defBody sIsWord) (defScope sIsWord) .none kV1 dc1 pm1 an1 cd1 ct1), sl1⟩) (c1 : PySem.W.codeIn K cd1 "is_word" = true) (k1 : PySem.W.keepIn K (.ref f1) = true)
    (a2 : PySem.W.nsIn K mainGlobals "is_row" = some (some (.ref f2))) (l2 : K.lookup f2 = some ⟨oc2, od2, .func (PySem.W.fnOf "is_row" "is_row" (defArgs sIsRow) (defBody sIsRow) (defScope sIsRow) .none kV2 dc2 pm2 an2 cd2 ct2), sl2⟩) (c2 : PySem.W.codeIn K cd2 "is_row" = true) (k2 : PySem.W.keepIn K (.ref f2) = true)
    (a3 : PySem.W.nsIn K mainGlobals "is_product" = some (some (.ref f3))) (l3 : K.lookup f3 = some ⟨oc3, od3, .func (PySem.W.fnOf "is_product" "is_product" (defArgs sIsProd) (defBody sIsProd) (defScope sIsProd) .none kV3 dc3 pm3 an3 cd3 ct3), sl3⟩) (c3 : PySem.W.codeIn K cd3 "is_product" = true) (k3 : PySem.W.keepIn K (.ref f3) = true)
    (a4 : PySem.W.nsIn K mainGlobals "check_row" = some (some (.ref f4))) (l4 : K.lookup f4 = some ⟨oc4, od4, .func (PySem.W.fnOf "check_row" "check_row" (defArgs sCkRow) (defBody sCkRow) (defScope sCkRow) .none kV4 dc4 pm4 an4 cd4 ct4), sl4⟩) (c4 : PySem.W.codeIn K cd4 "check_row" = true) (k4 : PySem.W.keepIn K (.ref f4) = true)
    (a5 : PySem.W.nsIn K mainGlobals "check_product" = some (some (.ref f5))) (l5 : K.lookup f5 = some ⟨oc5, od5, .func (PySem.W.fnOf "check_product" "check_product" (defArgs sCkProd) (defBody sCkProd) (defScope sCkProd) .none kV5 dc5 pm5 an5 cd5 ct5), sl5⟩) (c5 : PySem.W.codeIn K cd5 "check_product" = true) (k5 : PySem.W.keepIn K (.ref f5) = true)
    (a6 : PySem.W.nsIn K mainGlobals "size_of" = some (some (.ref f6))) (l6 : K.lookup f6 = some ⟨oc6, od6, .func (PySem.W.fnOf "size_of" "size_of" (defArgs sSize) (defBody sSize) (defScope sSize) .none kV6 dc6 pm6 an6 cd6 ct6), sl6⟩) (c6 : PySem.W.codeIn K cd6 "size_of" = true) (k6 : PySem.W.keepIn K (.ref f6) = true)
    (a7 : PySem.W.nsIn K mainGlobals "all_words" = some (some (.ref f7))) (l7 : K.lookup f7 = some ⟨oc7, od7, .func (PySem.W.fnOf "all_words" "all_words" (defArgs sAll) (defBody sAll) (defScope sAll) .none kV7 dc7 pm7 an7 cd7 ct7), sl7⟩) (c7 : PySem.W.codeIn K cd7 "all_words" = true) (k7 : PySem.W.keepIn K (.ref f7) = true)
    (a8 : PySem.W.nsIn K mainGlobals "multiply" = some (some (.ref f8))) (l8 : K.lookup f8 = some ⟨oc8, od8, .func (PySem.W.fnOf "multiply" "multiply" (defArgs sMul) (defBody sMul) (defScope sMul) .none kV8 dc8 pm8 an8 cd8 ct8), sl8⟩) (c8 : PySem.W.codeIn K cd8 "multiply" = true) (k8 : PySem.W.keepIn K (.ref f8) = true)
    (a9 : PySem.W.nsIn K mainGlobals "written_out" = some (some (.ref f9))) (l9 : K.lookup f9 = some ⟨oc9, od9, .func (PySem.W.fnOf "written_out" "written_out" (defArgs sWrit) (defBody sWrit) (defScope sWrit) .none kV9 dc9 pm9 an9 cd9 ct9), sl9⟩) (c9 : PySem.W.codeIn K cd9 "written_out" = true) (k9 : PySem.W.keepIn K (.ref f9) = true)
    (a10 : PySem.W.nsIn K mainGlobals "_law_tray" = some (some (.ref f10))) (l10 : K.lookup f10 = some ⟨oc10, od10, .func (PySem.W.fnOf "_law_tray" "_law_tray" (defArgs sTray) (defBody sTray) (defScope sTray) .none kV10 dc10 pm10 an10 cd10 ct10), sl10⟩) (c10 : PySem.W.codeIn K cd10 "_law_tray" = true) (k10 : PySem.W.keepIn K (.ref f10) = true)
    (a11 : PySem.W.nsIn K mainGlobals "_law_take" = some (some (.ref f11))) (l11 : K.lookup f11 = some ⟨oc11, od11, .func (PySem.W.fnOf "_law_take" "_law_take" (defArgs sTake) (defBody sTake) (defScope sTake) .none kV11 dc11 pm11 an11 cd11 ct11), sl11⟩) (c11 : PySem.W.codeIn K cd11 "_law_take" = true) (k11 : PySem.W.keepIn K (.ref f11) = true)
    (a12 : PySem.W.nsIn K mainGlobals "_law_letters" = some (some (.ref f12))) (l12 : K.lookup f12 = some ⟨oc12, od12, .func (PySem.W.fnOf "_law_letters" "_law_letters" (defArgs sLetters) (defBody sLetters) (defScope sLetters) .none kV12 dc12 pm12 an12 cd12 ct12), sl12⟩) (c12 : PySem.W.codeIn K cd12 "_law_letters" = true) (k12 : PySem.W.keepIn K (.ref f12) = true)
    (a13 : PySem.W.nsIn K mainGlobals "_law_row" = some (some (.ref f13))) (l13 : K.lookup f13 = some ⟨oc13, od13, .func (PySem.W.fnOf "_law_row" "_law_row" (defArgs sRow) (defBody sRow) (defScope sRow) .none kV13 dc13 pm13 an13 cd13 ct13), sl13⟩) (c13 : PySem.W.codeIn K cd13 "_law_row" = true) (k13 : PySem.W.keepIn K (.ref f13) = true)
    (a14 : PySem.W.nsIn K mainGlobals "_law_words" = some (some (.ref f14))) (l14 : K.lookup f14 = some ⟨oc14, od14, .func (PySem.W.fnOf "_law_words" "_law_words" (defArgs sWords) (defBody sWords) (defScope sWords) .none kV14 dc14 pm14 an14 cd14 ct14), sl14⟩) (c14 : PySem.W.codeIn K cd14 "_law_words" = true) (k14 : PySem.W.keepIn K (.ref f14) = true)
    (a15 : PySem.W.nsIn K mainGlobals "_law_multiplied" = some (some (.ref f15))) (l15 : K.lookup f15 = some ⟨oc15, od15, .func (PySem.W.fnOf "_law_multiplied" "_law_multiplied" (defArgs sMuld) (defBody sMuld) (defScope sMuld) .none kV15 dc15 pm15 an15 cd15 ct15), sl15⟩) (c15 : PySem.W.codeIn K cd15 "_law_multiplied" = true) (k15 : PySem.W.keepIn K (.ref f15) = true)
    (a16 : PySem.W.nsIn K mainGlobals "_law_limit" = some (some (.ref f16))) (l16 : K.lookup f16 = some ⟨oc16, od16, .func (PySem.W.fnOf "_law_limit" "_law_limit" (defArgs sLimit) (defBody sLimit) (defScope sLimit) .none kV16 dc16 pm16 an16 cd16 ct16), sl16⟩) (c16 : PySem.W.codeIn K cd16 "_law_limit" = true) (k16 : PySem.W.keepIn K (.ref f16) = true)
    (a17 : PySem.W.nsIn K mainGlobals "_law_rows" = some (some (.ref f17))) (l17 : K.lookup f17 = some ⟨oc17, od17, .func (PySem.W.fnOf "_law_rows" "_law_rows" (defArgs sRows) (defBody sRows) (defScope sRows) .none kV17 dc17 pm17 an17 cd17 ct17), sl17⟩) (c17 : PySem.W.codeIn K cd17 "_law_rows" = true) (k17 : PySem.W.keepIn K (.ref f17) = true)
    (a18 : PySem.W.nsIn K mainGlobals "_law_one_by_one" = some (some (.ref f18))) (l18 : K.lookup f18 = some ⟨oc18, od18, .func (PySem.W.fnOf "_law_one_by_one" "_law_one_by_one" (defArgs sOne) (defBody sOne) (defScope sOne) .none kV18 dc18 pm18 an18 cd18 ct18), sl18⟩) (c18 : PySem.W.codeIn K cd18 "_law_one_by_one" = true) (k18 : PySem.W.keepIn K (.ref f18) = true)
    (a19 : PySem.W.nsIn K mainGlobals "_law_long_right" = some (some (.ref f19))) (l19 : K.lookup f19 = some ⟨oc19, od19, .func (PySem.W.fnOf "_law_long_right" "_law_long_right" (defArgs sLong) (defBody sLong) (defScope sLong) .none kV19 dc19 pm19 an19 cd19 ct19), sl19⟩) (c19 : PySem.W.codeIn K cd19 "_law_long_right" = true) (k19 : PySem.W.keepIn K (.ref f19) = true)
    (a20 : PySem.W.nsIn K mainGlobals "_law_right" = some (some (.ref f20))) (l20 : K.lookup f20 = some ⟨oc20, od20, .func (PySem.W.fnOf "_law_right" "_law_right" (defArgs sRight) (defBody sRight) (defScope sRight) .none kV20 dc20 pm20 an20 cd20 ct20), sl20⟩) (c20 : PySem.W.codeIn K cd20 "_law_right" = true) (k20 : PySem.W.keepIn K (.ref f20) = true)
    (a21 : PySem.W.nsIn K mainGlobals "law" = some (some (.ref f21))) (l21 : K.lookup f21 = some ⟨oc21, od21, .func (PySem.W.fnOf "law" "law" (defArgs sLaw) (defBody sLaw) (defScope sLaw) .none kV21 dc21 pm21 an21 cd21 ct21), sl21⟩) (c21 : PySem.W.codeIn K cd21 "law" = true) (k21 : PySem.W.keepIn K (.ref f21) = true)
    (z1 : PySem.W.nsIn K mainGlobals "isinstance" = some none)
    (z2 : PySem.W.nsIn K mainGlobals "str" = some none)
    (z3 : PySem.W.nsIn K mainGlobals "tuple" = some none)
    (z4 : PySem.W.nsIn K mainGlobals "len" = some none)
    (z5 : PySem.W.nsIn K mainGlobals "min" = some none)
    (z6 : PySem.W.nsIn K mainGlobals "max" = some none)
    (z7 : PySem.W.nsIn K mainGlobals "abs" = some none)
    (z8 : PySem.W.nsIn K mainGlobals "range" = some none)
    (z9 : PySem.W.nsIn K mainGlobals "repr" = some none)
    (z10 : PySem.W.nsIn K mainGlobals "all" = some none)
    (z11 : PySem.W.nsIn K mainGlobals "int" = some none)
    (aM : PySem.W.nsIn K mainGlobals "MOST_WORDS" = some (some (.int 2000 tkM)))
    (aC : PySem.W.nsIn K mainGlobals "TooMany" = some (some (.ref C)))
    (xL : K.lookup C = some (excClassObj nm q C N bs bm true sn sub ab col dd v0 v1 v2 v3 v5 "ValueError.__new__")) (xR : PySem.HandSPX.refsVE bm = true)
    (sa : PySem.W.findIn K (.ref C) "__setattr__" = some (some (.builtin "object.__setattr__"))) (ga : PySem.W.findIn K (.ref C) "__getattribute__" = some (some (.builtin "BaseException.__getattribute__"))) (gg : PySem.W.findIn K (.ref C) "__getattr__" = some none) (nb : PySem.W.findIn K (.ref C) "limit" = some none)
    (aI : PySem.W.findIn K (.ref C) "__init__" = some (some (.ref fI))) (tI : PySem.W.typeIn K (.ref fI) = some (.type "function"))
    (lI : K.lookup fI = some ⟨ocI, odI, .func (PySem.W.fnOf "__init__" "TooMany.__init__" (defArgs sInit) (defBody sInit) (defScope sInit) .none kVI dcI pmI anI cdI ctI), slI⟩) (cI : PySem.W.codeIn K cdI "TooMany.__init__" = true) (kI : PySem.W.keepIn K (.ref fI) = true)
    (kC : PySem.W.keepIn K (.ref C) = true) (eC : PySem.W.subIn K (.ref C) (.type "BaseException") = some true) (tC : PySem.W.typeIn K (.ref C) = some (.type "type")) (hC : PySem.W.hasDictIn K C = true) (iC : PySem.W.isClsIn K C = true) (sC : PySem.W.subIn K (.ref C) (.ref C) = some true)
    : ∃ fd : FuncData, (∀ (s : Shared) (v : Value), BindsTo s fd ⟨[v], []⟩ [("script", v)]) ∧ ∀ base : Heap, K.In base → base.Ns mainGlobals mg → FnG l.prog w K mg base CX0 7 fa fd ["script"] (spLaw K) := by
  have e := hfa.symm.trans (PySem.W.mg_of X G a21)
  cases e
  have T : Names mg := ⟨PySem.W.mg_none_of X G z1, PySem.W.mg_none_of X G z2, PySem.W.mg_none_of X G z3, PySem.W.mg_none_of X G z4, PySem.W.mg_none_of X G z5, PySem.W.mg_none_of X G z6, PySem.W.mg_none_of X G z7, PySem.W.mg_none_of X G z8, PySem.W.mg_none_of X G z9, PySem.W.mg_none_of X G z10, PySem.W.mg_none_of X G z11⟩
  have F1 := fun_mk (st := sIsWord) l1 c1 k1
  have m1 := PySem.W.mg_of X G a1
  have b1 := F1.binds (ps := ["value"]) fun _ _ _ _ _ _ us hl => match us, hl with | [_], _ => rfl
  have F2 := fun_mk (st := sIsRow) l2 c2 k2
  have m2 := PySem.W.mg_of X G a2
  have b2 := F2.binds (ps := ["value"]) fun _ _ _ _ _ _ us hl => match us, hl with | [_], _ => rfl
  have F3 := fun_mk (st := sIsProd) l3 c3 k3
  have m3 := PySem.W.mg_of X G a3
  have b3 := F3.binds (ps := ["value"]) fun _ _ _ _ _ _ us hl => match us, hl with | [_], _ => rfl
  have F4 := fun_mk (st := sCkRow) l4 c4 k4
  have m4 := PySem.W.mg_of X G a4
  have b4 := F4.binds (ps := ["row"]) fun _ _ _ _ _ _ us hl => match us, hl with | [_], _ => rfl
  have F5 := fun_mk (st := sCkProd) l5 c5 k5
  have m5 := PySem.W.mg_of X G a5
  have b5 := F5.binds (ps := ["product"]) fun _ _ _ _ _ _ us hl => match us, hl with | [_], _ => rfl
  have F6 := fun_mk (st := sSize) l6 c6 k6
  have m6 := PySem.W.mg_of X G a6
  have b6 := F6.binds (ps := ["product"]) fun _ _ _ _ _ _ us hl => match us, hl with | [_], _ => rfl
  have F7 := fun_mk (st := sAll) l7 c7 k7
  have m7 := PySem.W.mg_of X G a7
  have b7 := F7.binds (ps := ["product"]) fun _ _ _ _ _ _ us hl => match us, hl with | [_], _ => rfl
  have F8 := fun_mk (st := sMul) l8 c8 k8
  have m8 := PySem.W.mg_of X G a8
  have F9 := fun_mk (st := sWrit) l9 c9 k9
  have m9 := PySem.W.mg_of X G a9
  have b9 := F9.binds (ps := ["product"]) fun _ _ _ _ _ _ us hl => match us, hl with | [_], _ => rfl
  have F10 := fun_mk (st := sTray) l10 c10 k10
  have m10 := PySem.W.mg_of X G a10
  have b10 := F10.binds (ps := ["script", "at"]) fun _ _ _ _ _ _ us hl => match us, hl with | [_, _], _ => rfl
  have F11 := fun_mk (st := sTake) l11 c11 k11
  have m11 := PySem.W.mg_of X G a11
  have b11 := F11.binds (ps := ["tray", "many"]) fun _ _ _ _ _ _ us hl => match us, hl with | [_, _], _ => rfl
  have F12 := fun_mk (st := sLetters) l12 c12 k12
  have m12 := PySem.W.mg_of X G a12
  have b12 := F12.binds (ps := ["tray", "signs", "most"]) fun _ _ _ _ _ _ us hl => match us, hl with | [_, _, _], _ => rfl
  have F13 := fun_mk (st := sRow) l13 c13 k13
  have m13 := PySem.W.mg_of X G a13
  have b13 := F13.binds (ps := ["tray", "most"]) fun _ _ _ _ _ _ us hl => match us, hl with | [_, _], _ => rfl
  have F14 := fun_mk (st := sWords) l14 c14 k14
  have m14 := PySem.W.mg_of X G a14
  have b14 := F14.binds (ps := ["some"]) fun _ _ _ _ _ _ us hl => match us, hl with | [_], _ => rfl
  have F15 := fun_mk (st := sMuld) l15 c15 k15
  have m15 := PySem.W.mg_of X G a15
  have b15 := F15.binds (ps := ["some"]) fun _ _ _ _ _ _ us hl => match us, hl with | [_], _ => rfl
  have F16 := fun_mk (st := sLimit) l16 c16 k16
  have m16 := PySem.W.mg_of X G a16
  have b16 := F16.binds (ps := ["some"]) fun _ _ _ _ _ _ us hl => match us, hl with | [_], _ => rfl
  have F17 := fun_mk (st := sRows) l17 c17 k17
  have m17 := PySem.W.mg_of X G a17
  have b17 := F17.binds (ps := ["tray"]) fun _ _ _ _ _ _ us hl => match us, hl with | [_], _ => rfl
  have F18 := fun_mk (st := sOne) l18 c18 k18
  have m18 := PySem.W.mg_of X G a18
  have b18 := F18.binds (ps := []) fun _ _ _ _ _ _ us hl => match us, hl with | [], _ => rfl
  have F19 := fun_mk (st := sLong) l19 c19 k19
  have m19 := PySem.W.mg_of X G a19
  have b19 := F19.binds (ps := ["tray"]) fun _ _ _ _ _ _ us hl => match us, hl with | [_], _ => rfl
  have F20 := fun_mk (st := sRight) l20 c20 k20
  have m20 := PySem.W.mg_of X G a20
  have b20 := F20.binds (ps := ["tray"]) fun _ _ _ _ _ _ us hl => match us, hl with | [_], _ => rfl
  have F21 := fun_mk (st := sLaw) l21 c21 k21
  have m21 := PySem.W.mg_of X G a21
  refine ⟨PySem.W.fnOf "law" "law" (defArgs sLaw) (defBody sLaw) (defScope sLaw) .none kV21 dc21 pm21 an21 cd21 ct21, fun s v => .of_eq rfl, fun base _ _ => ?_⟩
  have FI := fun_mk (x := "__init__") (qual := "TooMany.__init__") (st := sInit) lI cI kI
  have M : TM K mg C fI _ := ⟨PySem.W.mg_of X G aC, ⟨⟨nm, q, N, bs, bm, sn, sub, ab, col, dd, v0, v1, v2, v3, v5, xL, xR⟩, sa, eC, tC, kC⟩, ⟨ga, gg, eC, hC⟩, nb, aI, tI, exm_self eC iC tC sC, FI, FI.binds (ps := ["self", "limit"]) fun _ _ _ _ _ _ us hl => match us, hl with | [_, _], _ => rfl, ⟨_, PySem.W.mg_of X G aM, ⟨_, rfl⟩⟩⟩
  have OIR := ok_isRow (P := l.prog) (w := w) (base := base) F2 T F1 m1 b1
  have OIP := ok_isProd (P := l.prog) (w := w) (base := base) F3 T F2 m2 b2 F1 m1 b1
  have OC4 := ok_ckRow F4 F2 m2 b2 OIR
  have OC5 := ok_ckProd F5 F3 m3 b3 OIP
  have OA := ok_all (P := l.prog) (w := w) (base := base) F7 T M F6 m6 b6
  have OW := ok_writ F9 F5 m5 b5 OC5 F7 m7 b7 OA
  have OM := mul_all (P := l.prog) (w := w) (base := base) F8 (C := C) (fun cdv A outer s H vs Q E hr h => mul_body F4 m4 b4 OC4 F7 m7 b7 OA cdv A outer s H vs Q E hr h)
  have OMK := mul_kw (P := l.prog) (w := w) (base := base) F8 (C := C) (fun cdv A outer s H vs Q E hr h => mul_body F4 m4 b4 OC4 F7 m7 b7 OA cdv A outer s H vs Q E hr h)
  have ORw := ok_row (P := l.prog) (w := w) (base := base) F13 T F11 m11 b11 F12 m12 b12
  have OU := ok_muld F15 T F8 m8 OM
  have OL := ok_limit F16 T M F15 m15 b15 OU F9 m9 b9 OW
  have ORs := ok_rows F17 T F11 m11 b11 F13 m13 b13 ORw
  have ON := ok_one F18 F8 m8 OM
  have OLg := ok_long F19 T F11 m11 b11 F14 m14 b14 F9 m9 b9 OW
  have ORt := ok_right F20 T F11 m11 b11 F17 m17 b17 ORs F14 m14 b14 F15 m15 b15 OU F8 m8 OM OMK F9 m9 b9 OW
  exact ok_law F21 T F10 m10 b10 F20 m20 b20 ORt F19 m19 b19 OLg F16 m16 b16 OL F18 m18 b18 ON F8 m8 OM F9 m9 b9 OW
theorem walk {l : PySem.W.OpenLaw} {q : Program} {loose : List Str} {XP : (Str → Option Value) → Heap → Prop} {YP : World → Heap → Prop} {d : DefRec} {K : Params → PySem.W.Frag} (hn : l.most = some 63) (hdf : d.params.defaults = [])
    (hY : ∀ (w : World) (h : Heap), YP w h → (K w.params).In h)
    (F : ∀ (w : World) (mg : Str → Option Value) (fa : Addr) (h : Heap), (K w.params).In h → h.Ns mainGlobals mg → mg d.name = some (.ref fa) →
      ∃ fd : FuncData, (∀ (s : Shared) (u : Value), BindsTo s fd ⟨[u], []⟩ [("script", u)]) ∧ ∀ base : Heap, (K w.params).In base → base.Ns mainGlobals mg → FnG l.prog w (K w.params) mg base CX0 7 fa fd ["script"] (spLaw (K w.params))) :
    PySem.W.WalkO q loose XP YP l.row.toRowW d [] (fun f vs => PySem.call f vs) :=
  Bl.walkG (n := 63) (k := 7) (x := "script") (sp := spLaw) hn (by decide) hdf ⟨rfl, by decide, by decide⟩ hY F fun _ _ a ns hl hS => ⟨a, ns, rfl, hS, hl, fun _ => rfl⟩
end K2
open PySem PySem.W PyProof.Rows
set_option maxRecDepth 100000 in
set_option maxHeartbeats 0 in
theorem PySem.Challenge.cw_braceloops_k02_rows_multiplied_holds : PySem.Challenge.rw_braceloops_k02_rows_multiplied.Holds := by
  w_on; o_law; k_head; (case hw => w_witness2)
  k_fill
  refine K2.walk (l := PySem.Challenge.rw_braceloops_k02_rows_multiplied) rfl rfl (fun w h Y => PySem.W.kIn_of Y) ?F
  case F =>
    intro w mg fa h KX G hmg
    refine' K2.all_mk KX G hmg ?a1 ?l1 ?c1 ?k1 ?a2 ?l2 ?c2 ?k2 ?a3 ?l3 ?c3 ?k3 ?a4 ?l4 ?c4 ?k4 ?a5 ?l5 ?c5 ?k5 ?a6 ?l6 ?c6 ?k6 ?a7 ?l7 ?c7 ?k7 ?a8 ?l8 ?c8 ?k8 ?a9 ?l9 ?c9 ?k9 ?a10 ?l10 ?c10 ?k10 ?a11 ?l11 ?c11 ?k11 ?a12 ?l12 ?c12 ?k12 ?a13 ?l13 ?c13 ?k13 ?a14 ?l14 ?c14 ?k14 ?a15 ?l15 ?c15 ?k15 ?a16 ?l16 ?c16 ?k16 ?a17 ?l17 ?c17 ?k17 ?a18 ?l18 ?c18 ?k18 ?a19 ?l19 ?c19 ?k19 ?a20 ?l20 ?c20 ?k20 ?a21 ?l21 ?c21 ?k21 ?z1 ?z2 ?z3 ?z4 ?z5 ?z6 ?z7 ?z8 ?z9 ?z10 ?z11 ?aM ?aC ?xL ?xR ?sa ?ga ?gg ?nb ?aI ?tI ?lI ?cI ?kI ?kC ?eC ?tC ?hC ?iC ?sC
    (case a1 => k_is)
    (case l1 => k_is)
    (case c1 => k_is)
    (case k1 => k_is)
    (case a2 => k_is)
    (case l2 => k_is)
    (case c2 => k_is)
    (case k2 => k_is)
    (case a3 => k_is)
    (case l3 => k_is)
    (case c3 => k_is)
    (case k3 => k_is)
    (case a4 => k_is)
    (case l4 => k_is)
    (case c4 => k_is)
    (case k4 => k_is)
    (case a5 => k_is)
    (case l5 => k_is)
    (case c5 => k_is)
    (case k5 => k_is)
    (case a6 => k_is)
    (case l6 => k_is)
    (case c6 => k_is)
    (case k6 => k_is)
    (case a7 => k_is)
    (case l7 => k_is)
    (case c7 => k_is)
    (case k7 => k_is)
    (case a8 => k_is)
    (case l8 => k_is)
    (case c8 => k_is)
    (case k8 => k_is)
    (case a9 => k_is)
    (case l9 => k_is)
    (case c9 => k_is)
    (case k9 => k_is)
    (case a10 => k_is)
    (case l10 => k_is)
    (case c10 => k_is)
    (case k10 => k_is)
    (case a11 => k_is)
    (case l11 => k_is)
    (case c11 => k_is)
    (case k11 => k_is)
    (case a12 => k_is)
    (case l12 => k_is)
    (case c12 => k_is)
    (case k12 => k_is)
    (case a13 => k_is)
    (case l13 => k_is)
    (case c13 => k_is)
    (case k13 => k_is)
    (case a14 => k_is)
    (case l14 => k_is)
    (case c14 => k_is)
    (case k14 => k_is)
    (case a15 => k_is)
    (case l15 => k_is)
    (case c15 => k_is)
    (case k15 => k_is)
    (case a16 => k_is)
    (case l16 => k_is)
    (case c16 => k_is)
    (case k16 => k_is)
    (case a17 => k_is)
    (case l17 => k_is)
    (case c17 => k_is)
    (case k17 => k_is)
    (case a18 => k_is)
    (case l18 => k_is)
    (case c18 => k_is)
    (case k18 => k_is)
    (case a19 => k_is)
    (case l19 => k_is)
    (case c19 => k_is)
    (case k19 => k_is)
    (case a20 => k_is)
    (case l20 => k_is)
    (case c20 => k_is)
    (case k20 => k_is)
    (case a21 => k_is)
    (case l21 => k_is)
    (case c21 => k_is)
    (case k21 => k_is)
    (case z1 => k_is)
    (case z2 => k_is)
    (case z3 => k_is)
    (case z4 => k_is)
    (case z5 => k_is)
    (case z6 => k_is)
    (case z7 => k_is)
    (case z8 => k_is)
    (case z9 => k_is)
    (case z10 => k_is)
    (case z11 => k_is)
    (case aM => k_is)
    (case aC => k_is)
    (case xL => k_is)
    (case xR => first | rfl | decide +kernel)
    (case sa => k_is)
    (case ga => k_is)
    (case gg => k_is)
    (case nb => k_is)
    (case aI => k_is)
    (case tI => k_is)
    (case lI => k_is)
    (case cI => k_is)
    (case kI => k_is)
    (case kC => k_is)
    (case eC => k_is)
    (case tC => k_is)
    (case hC => k_is)
    (case iC => k_is)
    (case sC => first | rfl | k_is)
