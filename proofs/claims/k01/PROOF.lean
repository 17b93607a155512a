import PyProof.Rows.All
import Wide.All
import OpenK.AllK
import Wide.FinOn
import HandS.ForMost
import HandS.Wide
import HandS.Style
import HandS.Small
import HandS.TupAny
import HandS.IsInst
import HandS.CallLocal
import HandS.Evl
import HandS.More
import HandS.WrittenGet
import PySem.Challenge.RW_restitch_k01_results_and_conditions
set_option Elab.async false
set_option linter.all false
set_option maxRecDepth 100000
set_option maxHeartbeats 4000000
namespace Co
open PySem PySem.Spec PyProof.Rows L2
def rIntQ : List V → Hp → VK → Prop := fun xs H Q => (∃ i, xs = [.int i] ∧ Q (.int i) H) ∨ ∃ k, xs = [.bl k] ∧ Q (.int (if k then 1 else 0)) H
theorem call_intQ {X : Cx} : CallR X (.type "int") rIntQ := call_int1
def rAbsQ : List V → Hp → VK → Prop := fun xs H Q => ∃ i, xs = [.int i] ∧ Q (.int (if i < 0 then -i else i)) H
theorem call_absQ {X : Cx} : CallR X (.builtin "abs") rAbsQ := call_abs
def rLenQ (K : PySem.W.Frag) : List V → Hp → VK → Prop := fun xs H Q => ∃ p ys, xs = [.ref p] ∧ (SqL K H p ys ∨ SqT K H p ys) ∧ Q (.int (ys.length : Int)) H
theorem call_lenQ {X : Cx} : CallR X (.builtin "len") (rLenQ X.K) := call_len_seq
structure Cd (P : Program) (w : World) (K : PySem.W.Frag) (mg : Str → Option Value) (base : Heap) (k : Nat) (x : Str) (sp : Sp) : Prop where
  ex : ∃ (f : Addr) (fd : FuncData) (ps : List Str), FnOk P w K mg base CX0 k f fd ps sp ∧ mg x = some (.ref f) ∧ PySem.W.keepIn K (.ref f) = true ∧ Binds K fd ps []
def GV (mg : Str → Option Value) (x : Str) (v : V) : Prop := ∃ u, mg x = some u ∧ RelV v u
def tC1 (sp : Sp) (t : TA) : TE := fun σ H Q => t σ H fun vs H1 => sp vs H1 Q E0
section
variable {X : Cx} {k j : Nat} {x : Str} {sp : Sp} {p pos : Pos} {e : Expr} {es : List Expr} {t : TA}
theorem pe_gv {v : V} (hg : Gl X x) (h : GV X.mg x v) (hd : (x == ("__debug__" : Str)) = false := by decide) : PE X (.Name x pos) (tC v) := by
  obtain ⟨u, hm, r⟩ := h
  exact pe_glob hg hm r hd
theorem pe_cd (c : Cd X.prog X.w X.K X.mg X.base k x sp) (hr : Room j X.A) (hk : k ≤ j) (hg : Gl X x) (ha : PA X (e :: es) t)
    (hdb : (x == ("__debug__" : Str)) = false := by decide) (he : starEach (e :: es) X.env = (false, eval e X.env) :: starEach es X.env := by rfl) (hpl : (backTo pos (starEach es X.env)).any (·.1) = false := by rfl) :
    PE X (.Call (.Name x p) (e :: es) [] pos) (tC1 sp t) := by
  obtain ⟨f, fd, ps, F, hm, kp, b⟩ := c.ex
  have z := pe_call (dvs := []) (pos := pos) (p := p) F (hr.mono hk) hg hm kp b .nil pass0 ha hdb he hpl
  refine ⟨fun pins s σ H Q I h => z.run pins s σ H Q I ?_⟩
  show t σ H fun vs H1 => sp (vs ++ []) H1 Q E0
  simp only [List.append_nil]
  exact h
theorem pe_cd0 (c : Cd X.prog X.w X.K X.mg X.base k x sp) (hr : Room j X.A) (hk : k ≤ j) (hg : Gl X x)
    (hdb : (x == ("__debug__" : Str)) = false := by decide) :
    PE X (.Call (.Name x p) [] [] pos) (tC1 sp tNil) := by
  obtain ⟨f, fd, ps, F, hm, kp, b⟩ := c.ex
  exact pe_call0 (dvs := []) (pos := pos) (p := p) F (hr.mono hk) hg hm kp b .nil pass0 hdb
end

/-! ### readings, step by step, from behind -/
def kTup (Q : VK) : List V → Hp → Prop := fun xs H1 => xs.length ≤ sizeLine ∧ ∀ p, H1 p = none → Q (.ref p) (upd H1 p (.tup xs))
def kLst (Q : VK) : List V → Hp → Prop := fun xs H1 => xs.length ≤ sizeLine ∧ ∀ p, H1 p = none → Q (.ref p) (upd H1 p (.lst xs))
def kFor (g : TG) (tb : TS) (D : Ends) (σ : L2.St) : It → Hp → Prop := fun J H1 => ∃ W : Nat → Nat → L2.St → Hp → Prop, (∃ m, W 0 m σ H1) ∧ ∀ i m σ H, W i m σ H →
  (J.stop i H ∧ D.nx σ H) ∨ (J.go i H ∧ ∃ N : L2.St → Hp → Prop, (∀ σ' H', N σ' H' → ∃ m', m' < m ∧ W (i + 1) m' σ' H') ∧ ∀ x H', J.yld i H x H' → g x σ H' fun σ2 H2 => tb { D with nx := N, ct := N, bk := D.nx } σ2 H2)
def kIL (K : PySem.W.Frag) (R : It → Hp → Prop) : V → Hp → Prop := fun x H1 => ∃ a, x = .ref a ∧ (∃ xs, SqL K H1 a xs) ∧ R (Itl K a) H1
def kIT (K : PySem.W.Frag) (R : It → Hp → Prop) : V → Hp → Prop := fun x H1 => ∃ a, x = .ref a ∧ (∃ xs, SqT K H1 a xs) ∧ R (Itt K a) H1
def kR1 (R : It → Hp → Prop) : List V → Hp → Prop := fun vs H1 => ∃ j : Int, vs = [.int j] ∧ -(2 ^ 62) ≤ j ∧ j < 2 ^ 62 ∧ R (Itr 0 j.toNat) H1
def kR2 (R : It → Hp → Prop) : List V → Hp → Prop := fun vs H1 => ∃ i j : Int, vs = [.int i, .int j] ∧ (-(2 ^ 62) ≤ i ∧ i < 2 ^ 62 ∧ -(2 ^ 62) ≤ j ∧ j < 2 ^ 62) ∧ R (Itr i (j - i).toNat) H1
def kLc (g : TG) (tt : TT) (te : TE) (vs : List Nat) (σ : L2.St) (Q : VK) : It → Hp → Prop := fun J H1 => ∀ D, H1 D = none → ∃ W : Nat → Nat → Hp → Prop, (∃ m, W 0 m (upd H1 D (.lst []))) ∧ ∀ i m H, W i m H →
  (J.stop i H ∧ Q (.ref D) H) ∨ (J.go i H ∧ ∃ Nx : Hp → Prop, (∀ H', Nx H' → ∃ m', m' < m ∧ W (i + 1) m' H') ∧ ∀ x H', J.yld i H x H' → g x (wipe σ vs) H' fun σ2 H2 => wipe σ2 vs = wipe σ vs ∧ tt σ2 H2 fun b H3 =>
    if b = true then te σ2 H3 fun y H4 => ∃ acc, H4 D = some (.lst acc) ∧ acc.length < sizeLine ∧ Nx (upd H4 D (.lst (acc ++ [y]))) else Nx H3)
section
variable {σ : L2.St} {H : Hp} {Q : VK} {D : Ends} {ta tb te : TE} {tt tu : TT} {t u : TS} {g : TG} {v x y : V} {i j : Int} {n : Nat} {E : XK}
theorem w_var (h : σ[n]? = some (some v)) (q : Q v H) : tVar n σ H Q := ⟨v, h, q⟩
theorem w_c (q : Q v H) : tC v σ H Q := q
theorem w_op {r : R2} (q : ta σ H fun x H1 => tb σ H1 fun y H2 => r x y H2 Q) : tOp r ta tb σ H Q := q
theorem w_un {r : V → Hp → VK → Prop} (q : ta σ H fun x H1 => r x H1 Q) : tUn r ta σ H Q := q
theorem w_I0 {f : Int → Int → V} (q : Q (f i j) H) : rI0 f (.int i) (.int j) H Q := ⟨i, j, rfl, rfl, q⟩
theorem w_I {C : Int → Int → Prop} {f : Int → Int → V} (c : C i j) (q : Q (f i j) H) : rI C f (.int i) (.int j) H Q := ⟨i, j, rfl, rfl, c, q⟩
theorem w_U {f : Int → V} (q : Q (f i) H) : rU f (.int i) H Q := ⟨i, rfl, q⟩
theorem w_eq (h : scal x y = true) (q : Q (.bl (decide (x = y))) H) : rEq x y H Q := ⟨h, q⟩
theorem w_ne (h : scal x y = true) (q : Q (.bl (!decide (x = y))) H) : rNe x y H Q := ⟨h, q⟩
theorem w_eqI (q : Q (.bl (decide (i = j))) H) : rEq (.int i) (.int j) H Q := ⟨rfl, by
  have e : (decide (V.int i = V.int j)) = decide (i = j) := by
    by_cases h : i = j
    · subst h; simp
    · rw [decide_eq_false h, decide_eq_false (fun z => h (V.int.inj z))]
  rw [e]; exact q⟩
theorem w_neI (q : Q (.bl (!decide (i = j))) H) : rNe (.int i) (.int j) H Q := ⟨rfl, by
  have e : (decide (V.int i = V.int j)) = decide (i = j) := by
    by_cases h : i = j
    · subst h; simp
    · rw [decide_eq_false h, decide_eq_false (fun z => h (V.int.inj z))]
  rw [e]; exact q⟩
theorem w_test {Q : Bool → Hp → Prop} (q : ta σ H fun x H' => ∃ k, x = .bl k ∧ Q k H') : tTest ta σ H Q := q
theorem w_B {Q : Bool → Hp → Prop} (q : ta σ H fun x H' => ∃ k, x = .bl k ∧ Q k H') : tB ta σ H Q := q
theorem w_bl {b : Bool} {Q : Bool → Prop} (q : Q b) : ∃ k, V.bl b = .bl k ∧ Q k := ⟨b, rfl, q⟩
theorem w_if (q : tt σ H fun c H1 => if c = true then ta σ H1 Q else tb σ H1 Q) : tIf tt ta tb σ H Q := q
theorem w_andT {Q : Bool → Hp → Prop} (q : tt σ H fun c H1 => if c = true then tu σ H1 Q else Q false H1) : tAnd tt tu σ H Q := q
theorem w_orT {Q : Bool → Hp → Prop} (q : tt σ H fun c H1 => if c = true then Q true H1 else tu σ H1 Q) : tOr tt tu σ H Q := q
theorem w_notT {Q : Bool → Hp → Prop} (q : tt σ H fun c H1 => Q (!c) H1) : tNot tt σ H Q := q
theorem w_andV (q : ta σ H fun x H1 => ∃ c, x = .bl c ∧ if c = true then tb σ H1 Q else Q (.bl false) H1) : tAndV ta tb σ H Q := q
theorem w_orV (q : ta σ H fun x H1 => ∃ c, x = .bl c ∧ if c = true then Q (.bl true) H1 else tb σ H1 Q) : tOrV ta tb σ H Q := q
theorem w_notV (q : ta σ H fun x H1 => ∃ c, x = .bl c ∧ Q (.bl (!c)) H1) : tNotV ta σ H Q := q
theorem w_chain {r r' : R2} {tc : TE} (q : ta σ H fun x H1 => tb σ H1 fun y H2 => r x y H2 fun z H3 => ∃ k, z = .bl k ∧ if k = true then tc σ H3 fun c H4 => r' y c H4 Q else Q (.bl false) H3) : tChain r r' ta tb tc σ H Q := q
theorem w_seq (q : t { D with nx := u D } σ H) : tSeq t u D σ H := q
theorem w_next (q : D.nx σ H) : tNext D σ H := q
theorem w_ret (q : te σ H D.rt) : tRet te D σ H := q
theorem w_retN (q : D.rt .non H) : tRetN D σ H := q
theorem w_ifS (q : tt σ H fun b H1 => if b = true then t D σ H1 else u D σ H1) : tIfS tt t u D σ H := q
theorem w_asg (q : te σ H fun x H1 => g x σ H1 D.nx) : tAsg te g D σ H := q
theorem w_name {Q : L2.St → Hp → Prop} (q : Q (σ.set n (some v)) H) : gName n v σ H Q := q
theorem w_drop (q : te σ H fun _ H1 => D.nx σ H1) : tDrop te D σ H := q
theorem w_nil {Q : List V → Hp → Prop} (q : Q [] H) : tNil σ H Q := q
theorem w_cons {ta : TE} {tr : TA} {Q : List V → Hp → Prop} (q : ta σ H fun x H1 => tr σ H1 fun xs H2 => Q (x :: xs) H2) : tCons ta tr σ H Q := q
theorem w_call {sp : Sp} {t : TA} (q : t σ H fun vs H1 => sp vs H1 Q E0) : tC1 sp t σ H Q := q
theorem w_cb {r : List V → Hp → VK → Prop} {t : TA} (q : t σ H fun vs H1 => r vs H1 Q) : tCB r t σ H Q := q
theorem w_dec {c : Prop} [Decidable c] {A B : Prop} (h1 : c → A) (h2 : ¬ c → B) : if decide c = true then A else B := by
  by_cases h : c
  · rw [if_pos (decide_eq_true h)]; exact h1 h
  · rw [if_neg (by rw [decide_eq_false h]; exact Bool.false_ne_true)]; exact h2 h
theorem w_ndec {c : Prop} [Decidable c] {A B : Prop} (h1 : ¬ c → A) (h2 : c → B) : if (!decide c) = true then A else B := by
  by_cases h : c
  · rw [if_neg (by rw [decide_eq_true h]; decide)]; exact h2 h
  · rw [if_pos (by rw [decide_eq_false h]; decide)]; exact h1 h
theorem w_itT {A B : Prop} (h : A) : if true = true then A else B := iteT h
theorem w_itF {A B : Prop} (h : B) : if false = true then A else B := iteF h
theorem w_bool {b : Bool} {A B : Prop} (h1 : b = true → A) (h2 : b = false → B) : if b = true then A else B := by
  cases b
  · exact iteF (h2 rfl)
  · exact iteT (h1 rfl)
theorem w_tup {ta : TA} (q : ta σ H (kTup Q)) : tTup ta σ H Q := q
theorem w_lst {ta : TA} (q : ta σ H (kLst Q)) : tLst ta σ H Q := q
theorem w_kTup {xs : List V} (h : xs.length ≤ sizeLine) (q : ∀ p H', H p = none → Same H H' → H' p = some (.tup xs) → Q (.ref p) H') : kTup Q xs H := ⟨h, fun p np => q p _ np (fun b x e => by rw [upd_ne (ne_of_none e np)]; exact e) upd_same⟩
theorem w_kLst {xs : List V} (h : xs.length ≤ sizeLine) (q : ∀ p H', H p = none → Same H H' → H' p = some (.lst xs) → Q (.ref p) H') : kLst Q xs H := ⟨h, fun p np => q p _ np (fun b x e => by rw [upd_ne (ne_of_none e np)]; exact e) upd_same⟩
end
section
variable {K : PySem.W.Frag} {σ : L2.St} {H : Hp} {Q : VK} {p : Addr} {xs : List V} {i : Int} {v x : V} {n : Nat}
theorem w_ixL (h : H p = some (.lst xs)) (ha : atI xs i = some v) (q : Q v H) : rIxL K (.ref p) (.int i) H Q := ⟨p, xs, i, v, rfl, rfl, .inl (.inl h), ha, q⟩
theorem w_ixLs (h : SqL K H p xs) (ha : atI xs i = some v) (q : Q v H) : rIxL K (.ref p) (.int i) H Q := ⟨p, xs, i, v, rfl, rfl, h, ha, q⟩
theorem w_ixT (h : H p = some (.tup xs)) (ha : atI xs i = some v) (q : Q v H) : rIxT K (.ref p) (.int i) H Q := ⟨p, xs, i, v, rfl, rfl, .inl (.inl h), ha, q⟩
theorem w_ixTs (h : SqT K H p xs) (ha : atI xs i = some v) (q : Q v H) : rIxT K (.ref p) (.int i) H Q := ⟨p, xs, i, v, rfl, rfl, h, ha, q⟩
theorem w_sub {to ti : TE} {t : TSet} {Q : L2.St → Hp → Prop} (q : to σ H fun o H1 => ti σ H1 fun i H2 => t o i v H2 fun H3 => Q σ H3) : gSub to ti t v σ H Q := q
theorem w_lenL (h : H p = some (.lst xs)) (q : Q (.int (xs.length : Int)) H) : rLenQ K [.ref p] H Q := ⟨p, xs, rfl, .inl (.inl (.inl h)), q⟩
theorem w_lenLs (h : SqL K H p xs) (q : Q (.int (xs.length : Int)) H) : rLenQ K [.ref p] H Q := ⟨p, xs, rfl, .inl h, q⟩
theorem w_lenT (h : H p = some (.tup xs)) (q : Q (.int (xs.length : Int)) H) : rLenQ K [.ref p] H Q := ⟨p, xs, rfl, .inr (.inl (.inl h)), q⟩
theorem w_int1 (q : Q (.int i) H) : rIntQ [.int i] H Q := .inl ⟨i, rfl, q⟩
theorem w_abs (q : Q (.int (if i < 0 then -i else i)) H) : rAbsQ [.int i] H Q := ⟨i, rfl, q⟩
theorem ixN_lit {n : Nat} {j : Nat} (h : j < n) : ixN n (j : Int) = some j := by
  unfold ixN
  rw [if_pos (Int.natCast_nonneg _), if_pos (by omega)]
  simp
theorem atI_of {α : Type} {xs : List α} {i : Int} {v : α} (h0 : 0 ≤ i) (h : xs[i.toNat]? = some v) : atI xs i = some v := by
  have e : ((i.toNat : Nat) : Int) = i := Int.toNat_of_nonneg h0
  have z := atI_nat (j := i.toNat) h
  rw [e] at z
  exact z
end
section
variable {K : PySem.W.Frag} {σ : L2.St} {H : Hp} {D : Ends} {g : TG} {tb : TS} {wi : TI} {tl : TE} {R : It → Hp → Prop}
theorem w_for (q : wi σ H (kFor g tb D σ)) : tFor wi g tb D σ H := q
theorem w_iL (q : tl σ H (kIL K R)) : iList K tl σ H R := q
theorem w_iT (q : tl σ H (kIT K R)) : iTup K tl σ H R := q
theorem w_rng1 {ta : TA} (q : ta σ H (kR1 R)) : iRng1 ta σ H R := q
theorem w_rng2 {ta : TA} (q : ta σ H (kR2 R)) : iRng2 ta σ H R := q
theorem w_kR1 {j : Int} (h0 : -(2 ^ 62) ≤ j) (h1 : j < 2 ^ 62) (q : R (Itr 0 j.toNat) H) : kR1 R [.int j] H := ⟨j, rfl, h0, h1, q⟩
theorem w_forL {a : Addr} (xs : List V) (Pv : Nat → L2.St → Hp → Prop) (hS : SqL K H a xs) (h0 : Pv 0 σ H) (hl : ∀ i σ H, i ≤ xs.length → Pv i σ H → SqL K H a xs)
    (hs : ∀ i x σ H, xs[i]? = some x → Pv i σ H → g x σ H fun σ2 H2 => tb { D with nx := Pv (i + 1), ct := Pv (i + 1), bk := D.nx } σ2 H2) (hd : ∀ σ H, Pv xs.length σ H → D.nx σ H) : kIL K (kFor g tb D σ) (.ref a) H :=
  ⟨a, rfl, ⟨_, hS⟩, for_list (K := K) (a := a) (xs := xs) Pv h0 hl hs hd⟩
theorem w_forT {a : Addr} (xs : List V) (Pv : Nat → L2.St → Hp → Prop) (hS : SqT K H a xs) (h0 : Pv 0 σ H) (hl : ∀ i σ H, i ≤ xs.length → Pv i σ H → SqT K H a xs)
    (hs : ∀ i x σ H, xs[i]? = some x → Pv i σ H → g x σ H fun σ2 H2 => tb { D with nx := Pv (i + 1), ct := Pv (i + 1), bk := D.nx } σ2 H2) (hd : ∀ σ H, Pv xs.length σ H → D.nx σ H) : kIT K (kFor g tb D σ) (.ref a) H :=
  ⟨a, rfl, ⟨_, hS⟩, for_tup (K := K) (a := a) (xs := xs) Pv h0 hl hs hd⟩
theorem w_forR {j : Int} (n : Nat) (Pv : Nat → L2.St → Hp → Prop) (hn : j.toNat = n) (hj : n < 4611686018427387904 ∧ -4611686018427387904 ≤ j) (h0 : Pv 0 σ H)
    (hs : ∀ i σ H, i < n → Pv i σ H → g (.int (i : Int)) σ H fun σ2 H2 => tb { D with nx := Pv (i + 1), ct := Pv (i + 1), bk := D.nx } σ2 H2) (hd : ∀ σ H, Pv n σ H → D.nx σ H) : kR1 (kFor g tb D σ) [.int j] H := by
  refine ⟨j, rfl, by show -4611686018427387904 ≤ j; omega, by show j < 4611686018427387904; omega, ?_⟩
  subst hn
  refine for_range (lo := 0) (n := j.toNat) Pv h0 (fun i σ H hi p => ?_) hd
  rw [Int.zero_add]
  exact hs i σ H hi p
theorem w_yes {Q : Bool → Hp → Prop} (q : Q true H) : tYes σ H Q := q
theorem w_lc {tt : TT} {te : TE} {vs : List Nat} {Q : VK} (q : wi σ H (kLc g tt te vs σ Q)) : tLc wi g tt te vs σ H Q := q
theorem w_lcL {tt : TT} {te : TE} {vs : List Nat} {Q : VK} {a : Addr} (xs : List V) (Pv : Addr → Nat → Hp → Prop) (hS : SqL K H a xs) (h0 : ∀ D, H D = none → Pv D 0 (upd H D (.lst []))) (hl : ∀ D i H, i ≤ xs.length → Pv D i H → SqL K H a xs)
    (hs : ∀ D i x H, xs[i]? = some x → Pv D i H → g x (wipe σ vs) H fun σ2 H2 => wipe σ2 vs = wipe σ vs ∧ tt σ2 H2 fun b H3 =>
      if b = true then te σ2 H3 fun y H4 => ∃ acc, H4 D = some (.lst acc) ∧ acc.length < sizeLine ∧ Pv D (i + 1) (upd H4 D (.lst (acc ++ [y]))) else Pv D (i + 1) H3) (hd : ∀ D H', H D = none → Pv D xs.length H' → Q (.ref D) H') : kIL K (kLc g tt te vs σ Q) (.ref a) H :=
  ⟨a, rfl, ⟨_, hS⟩, fun D nD => lc_list (K := K) (a := a) (xs := xs) (Pv D) (h0 D nD) (hl D) (hs D) (fun H' p => hd D H' nD p)⟩
theorem w_lcT {tt : TT} {te : TE} {vs : List Nat} {Q : VK} {a : Addr} (xs : List V) (Pv : Addr → Nat → Hp → Prop) (hS : SqT K H a xs) (h0 : ∀ D, H D = none → Pv D 0 (upd H D (.lst []))) (hl : ∀ D i H, i ≤ xs.length → Pv D i H → SqT K H a xs)
    (hs : ∀ D i x H, xs[i]? = some x → Pv D i H → g x (wipe σ vs) H fun σ2 H2 => wipe σ2 vs = wipe σ vs ∧ tt σ2 H2 fun b H3 =>
      if b = true then te σ2 H3 fun y H4 => ∃ acc, H4 D = some (.lst acc) ∧ acc.length < sizeLine ∧ Pv D (i + 1) (upd H4 D (.lst (acc ++ [y]))) else Pv D (i + 1) H3) (hd : ∀ D H', H D = none → Pv D xs.length H' → Q (.ref D) H') : kIT K (kLc g tt te vs σ Q) (.ref a) H :=
  ⟨a, rfl, ⟨_, hS⟩, fun D nD => lc_tup (K := K) (a := a) (xs := xs) (Pv D) (h0 D nD) (hl D) (hs D) (fun H' p => hd D H' nD p)⟩
theorem w_lcR {tt : TT} {te : TE} {vs : List Nat} {Q : VK} {j : Int} (n : Nat) (Pv : Addr → Nat → Hp → Prop) (hn : j.toNat = n) (hj : n < 4611686018427387904 ∧ -4611686018427387904 ≤ j) (h0 : ∀ D, H D = none → Pv D 0 (upd H D (.lst [])))
    (hs : ∀ D i H, i < n → Pv D i H → g (.int (i : Int)) (wipe σ vs) H fun σ2 H2 => wipe σ2 vs = wipe σ vs ∧ tt σ2 H2 fun b H3 =>
      if b = true then te σ2 H3 fun y H4 => ∃ acc, H4 D = some (.lst acc) ∧ acc.length < sizeLine ∧ Pv D (i + 1) (upd H4 D (.lst (acc ++ [y]))) else Pv D (i + 1) H3) (hd : ∀ D H', H D = none → Pv D n H' → Q (.ref D) H') : kR1 (kLc g tt te vs σ Q) [.int j] H := by
  refine ⟨j, rfl, by show -4611686018427387904 ≤ j; omega, by show j < 4611686018427387904; omega, ?_⟩
  subst hn
  refine fun D nD => lc_range (lo := 0) (n := j.toNat) (Pv D) (h0 D nD) (fun i H hi p => ?_) (fun H' p => hd D H' nD p)
  rw [Int.zero_add]
  exact hs D i H hi p
end
theorem take_more {α : Type} : ∀ {l : List α} {i : Nat} {x : α}, l[i]? = some x → l.take (i + 1) = l.take i ++ [x]
  | [], i, x, h => by simp at h
  | a :: l, 0, x, h => by
    have e : a = x := Option.some.inj h
    subst e
    rfl
  | a :: l, i + 1, x, h => by
    have ih := take_more (l := l) (i := i) (x := x) h
    show a :: l.take (i + 1) = a :: l.take i ++ [x]
    rw [ih]
    rfl
theorem map_get {ns : List Int} {i : Nat} {x : V} (h : (ns.map V.int)[i]? = some x) : ∃ n, ns[i]? = some n ∧ x = .int n := by
  rw [List.getElem?_map] at h
  cases e : ns[i]? with
  | none => rw [e] at h; cases h
  | some z => rw [e] at h; exact ⟨z, rfl, (Option.some.inj h).symm⟩
theorem w_p32 {H : Hp} {Q : VK} (q : Q (.int 4294967296) H) : rI CPow (fun i j => .int (i ^ j.toNat)) (.int 2) (.int 32) H Q := ⟨2, 32, rfl, rfl, ⟨by decide, by decide, by decide⟩, q⟩
theorem w_p31 {H : Hp} {Q : VK} (q : Q (.int 2147483648) H) : rI CPow (fun i j => .int (i ^ j.toNat)) (.int 2) (.int 31) H Q := ⟨2, 31, rfl, rfl, ⟨by decide, by decide, by decide⟩, q⟩
theorem w_p26 {H : Hp} {Q : VK} (q : Q (.int 67108864) H) : rI CPow (fun i j => .int (i ^ j.toNat)) (.int 2) (.int 26) H Q := ⟨2, 26, rfl, rfl, ⟨by decide, by decide, by decide⟩, q⟩
theorem w_p22 {H : Hp} {Q : VK} (q : Q (.int 4194304) H) : rI CPow (fun i j => .int (i ^ j.toNat)) (.int 2) (.int 22) H Q := ⟨2, 22, rfl, rfl, ⟨by decide, by decide, by decide⟩, q⟩
theorem w_p20 {H : Hp} {Q : VK} (q : Q (.int 1048576) H) : rI CPow (fun i j => .int (i ^ j.toNat)) (.int 2) (.int 20) H Q := ⟨2, 20, rfl, rfl, ⟨by decide, by decide, by decide⟩, q⟩
theorem w_p18 {H : Hp} {Q : VK} (q : Q (.int 262144) H) : rI CPow (fun i j => .int (i ^ j.toNat)) (.int 2) (.int 18) H Q := ⟨2, 18, rfl, rfl, ⟨by decide, by decide, by decide⟩, q⟩
theorem w_p17 {H : Hp} {Q : VK} (q : Q (.int 131072) H) : rI CPow (fun i j => .int (i ^ j.toNat)) (.int 2) (.int 17) H Q := ⟨2, 17, rfl, rfl, ⟨by decide, by decide, by decide⟩, q⟩
theorem w_p16 {H : Hp} {Q : VK} (q : Q (.int 65536) H) : rI CPow (fun i j => .int (i ^ j.toNat)) (.int 2) (.int 16) H Q := ⟨2, 16, rfl, rfl, ⟨by decide, by decide, by decide⟩, q⟩
theorem w_p14 {H : Hp} {Q : VK} (q : Q (.int 16384) H) : rI CPow (fun i j => .int (i ^ j.toNat)) (.int 2) (.int 14) H Q := ⟨2, 14, rfl, rfl, ⟨by decide, by decide, by decide⟩, q⟩
theorem w_p13 {H : Hp} {Q : VK} (q : Q (.int 8192) H) : rI CPow (fun i j => .int (i ^ j.toNat)) (.int 2) (.int 13) H Q := ⟨2, 13, rfl, rfl, ⟨by decide, by decide, by decide⟩, q⟩
/-- all but d stays -/
def But (d : Addr) (H H' : Hp) : Prop := ∀ b o, b ≠ d → H b = some o → H' b = some o
theorem But.refl (d : Addr) (H : Hp) : But d H H := fun _ _ _ h => h
theorem But.trans {d : Addr} {H H1 H2 : Hp} (a : But d H H1) (b : But d H1 H2) : But d H H2 := fun c o n h => b c o n (a c o n h)
theorem But.of {d : Addr} {H H' : Hp} (s : Same H H') : But d H H' := fun b o _ h => s b o h
theorem But.set {d : Addr} {H : Hp} {o : HO} : But d H (upd H d o) := fun b u n h => by rw [upd_ne n]; exact h
theorem But.tup {d : Addr} {H H' : Hp} {xs ys : List V} {a : Addr} (b : But d H H') (hd : H d = some (.lst ys)) (h : H a = some (.tup xs)) : H' a = some (.tup xs) := b a _ (ne_of h hd (by intro z; cases z)) h
theorem Same.new {H : Hp} {p : Addr} {o : HO} (h : H p = none) : Same H (upd H p o) := fun b x e => by rw [upd_ne (ne_of_none e h)]; exact e
theorem But.new {d : Addr} {H : Hp} {p : Addr} {o : HO} (h : H p = none) : But d H (upd H p o) := .of (Same.new h)
theorem w_setL {p : Addr} {xs : List V} {i : Int} {v : V} {H : Hp} {j : Nat} {Q : Hp → Prop} (h : H p = some (.lst xs)) (hj : ixN xs.length i = some j) (q : ∀ H', H' p = some (.lst (xs.set j v)) → But p H H' → Q H') : rSetL (.ref p) (.int i) v H Q := ⟨p, xs, i, j, rfl, rfl, h, hj, q _ upd_same But.set⟩
section
variable {X : Cx} {k i : Nat} {x : Str} {p pos : Pos} {e : Expr} {es : List Expr} {t : TA}
/-- a local that holds a def, called -/
def tCallZ (P : Program) (w : World) (K : PySem.W.Frag) (mg : Str → Option Value) (base : Heap) (k i : Nat) (t : TA) : TE := fun σ H Q => ∃ f sp, σ[i]? = some (some (.ref f)) ∧ Held P w K mg base k f sp ∧ t σ H fun vs H1 => sp vs H1 Q E0
theorem pe_callZ (hr : Room k X.A) (hN : X.N[i]? = some x) (hv : Vis X.env.scope x) (ha : PA X (e :: es) t)
    (hdb : (x == ("__debug__" : Str)) = false := by decide) (hcd : (x == ("__classdict__" : Str)) = false := by decide)
    (he : starEach (e :: es) X.env = (false, eval e X.env) :: starEach es X.env := by rfl) (hpl : (backTo pos (starEach es X.env)).any (·.1) = false := by rfl) : PE X (.Call (.Name x p) (e :: es) [] pos) (tCallZ X.prog X.w X.K X.mg X.base k i t) := by
  refine ⟨fun pins s σ H Q I h => ?_⟩
  obtain ⟨f, sp, hs, hd, ht⟩ := h
  obtain ⟨fd, ps, F, hk, hb⟩ := hd.ex
  refine (pe_callL (i := i) (f := f) (sp := sp) (dvs := []) (E := E0) F hr hN hv hk hb .nil pass0 ha hdb hcd he hpl).run pins s σ H Q I ⟨hs, ?_⟩
  show t σ H (fun vs H1 => sp (vs ++ []) H1 Q E0)
  simp only [List.append_nil]
  exact ht
end
theorem w_callZ {P : Program} {w : World} {K : PySem.W.Frag} {mg : Str → Option Value} {base : Heap} {k i : Nat} {t : TA} {σ : L2.St} {H : Hp} {Q : VK} {f : Addr} {sp : Sp} (hs : σ[i]? = some (some (.ref f))) (h : Held P w K mg base k f sp) (q : t σ H fun vs H1 => sp vs H1 Q E0) : tCallZ P w K mg base k i t σ H Q := ⟨f, sp, hs, h, q⟩
theorem w_ixD {K : PySem.W.Frag} {w : World} {p : Addr} {z : Str} {v : V} {H : Hp} {Q : VK} (h : KDct K w p z v) (q : Q v H) : rIxD K w (.ref p) (.str z) H Q := ⟨p, z, v, rfl, rfl, h, q⟩
theorem w_eqS {a b : Str} {H : Hp} {Q : VK} (q : Q (.bl (decide (a = b))) H) : rEq (.str a) (.str b) H Q := ⟨rfl, by
  have e : (decide (V.str a = V.str b)) = decide (a = b) := by
    by_cases h : a = b
    · subst h; simp
    · rw [decide_eq_false h, decide_eq_false (fun z => h (V.str.inj z))]
  rw [e]; exact q⟩
theorem w_decT {c : Prop} [Decidable c] {A B : Prop} (h : c) (q : A) : if decide c = true then A else B := by
  rw [if_pos (decide_eq_true h)]; exact q
theorem w_decF {c : Prop} [Decidable c] {A B : Prop} (h : ¬ c) (q : B) : if decide c = true then A else B := by
  rw [if_neg (by rw [decide_eq_false h]; exact Bool.false_ne_true)]; exact q
theorem w_inL {K : PySem.W.Frag} {x : V} {p : Addr} {xs : List V} {H : Hp} {Q : VK} {b : Bool} (h : H p = some (.lst xs)) (hx : flatV x = true) (ha : xs.all flatV = true) (hb : inV x xs = b) (q : Q (.bl b) H) : rIn K false x (.ref p) H Q := ⟨p, xs, rfl, .inl (.inl (.inl h)), hx, ha, by rw [hb]; exact q⟩
def rAddSQ : R2 := fun x y H Q => ∃ i j, x = .str i ∧ y = .str j ∧ i.length + j.length ≤ sizeLine ∧ Q (.str (i ++ j)) H
theorem op_addSQ {X : Cx} : OpR X (binaryOp .Add) rAddSQ := op_add_str
theorem w_addS {a b : Str} {H : Hp} {Q : VK} (h : a.length + b.length ≤ sizeLine) (q : Q (.str (a ++ b)) H) : rAddSQ (.str a) (.str b) H Q := ⟨a, b, rfl, rfl, h, q⟩
section
variable {X : Cx} {c a b : Expr} {tc ta tb : TT} {pos : Pos}
/-- a if c else b, as a test -/
def tIfB (tc ta tb : TT) : TT := fun σ H Q => tc σ H fun k H1 => if k = true then ta σ H1 Q else tb σ H1 Q
theorem pt_ifExp (hc : PT X c tc) (ha : PT X a ta) (hb : PT X b tb) : PT X (.IfExp c a b pos) (tIfB tc ta tb) := by
  refine ⟨fun pins s σ H Q I h => ?_⟩
  refine isTrue_IfExp (thn (hc.run pins s σ H _ I h) fun k s1 ⟨H1, I1, q⟩ => ?_)
  cases k with
  | true => exact ha.run pins s1 σ H1 Q I1 (by simpa using q)
  | false => exact hb.run pins s1 σ H1 Q I1 (by simpa using q)
theorem w_ifB {σ : L2.St} {H : Hp} {Q : Bool → Hp → Prop} (q : tc σ H fun k H1 => if k = true then ta σ H1 Q else tb σ H1 Q) : tIfB tc ta tb σ H Q := q
end
theorem w_gTup {K : PySem.W.Frag} {n : Nat} {t : TGs} {a : Addr} {xs : List V} {σ : L2.St} {H : Hp} {Q : L2.St → Hp → Prop} (h : H a = some (.tup xs)) (hn : xs.length = n) (q : t xs σ H Q) : gTup K n t (.ref a) σ H Q := ⟨a, xs, rfl, .inl (.inl h), hn, q⟩
theorem w_gNil {σ : L2.St} {H : Hp} {Q : L2.St → Hp → Prop} (q : Q σ H) : gNil [] σ H Q := ⟨rfl, q⟩
theorem w_gCons {t : TG} {u : TGs} {v : V} {r : List V} {σ : L2.St} {H : Hp} {Q : L2.St → Hp → Prop} (q : t v σ H fun σ' H' => u r σ' H' Q) : gCons t u (v :: r) σ H Q := ⟨v, r, rfl, q⟩
theorem w_isB {a b : Bool} {H : Hp} {Q : VK} (q : Q (.bl (decide (a = b))) H) : rIsB (.bl a) (.bl b) H Q := ⟨a, b, rfl, rfl, q⟩
theorem w_notB {a b : Bool} {H : Hp} {Q : VK} (q : Q (.bl (!decide (a = b))) H) : rNotB (.bl a) (.bl b) H Q := ⟨a, b, rfl, rfl, q⟩
theorem w_isiInt {K : PySem.W.Frag} {i : Int} {H : Hp} {Q : VK} (q : Q (.bl true) H) : rIsi K [.int i, .ty "int"] H Q := ⟨.int i, .ty "int", .type "int", .type "int", true, rfl, .ty _, .base (.int _), kit_ty (by decide +kernel), q⟩
theorem w_isiIntB {K : PySem.W.Frag} {i : Int} {H : Hp} {Q : VK} (q : Q (.bl false) H) : rIsi K [.int i, .ty "bool"] H Q := ⟨.int i, .ty "bool", .type "int", .type "bool", false, rfl, .ty _, .base (.int _), kit_ty (by decide +kernel), q⟩
theorem w_ndecF {c : Prop} [Decidable c] {A B : Prop} (h : c) (q : B) : if (!decide c) = true then A else B := by
  rw [if_neg (by rw [decide_eq_true h]; decide)]; exact q
theorem w_ndecT {c : Prop} [Decidable c] {A B : Prop} (h : ¬ c) (q : A) : if (!decide c) = true then A else B := by
  rw [if_pos (by rw [decide_eq_false h]; rfl)]; exact q
theorem w_nT {A B : Prop} (q : B) : if (!true) = true then A else B := by rw [if_neg (by decide)]; exact q
theorem w_nF {A B : Prop} (q : A) : if (!false) = true then A else B := by rw [if_pos (by decide)]; exact q
theorem map_get' {α : Type} {f : α → V} {ns : List α} {i : Nat} {x : V} (h : (ns.map f)[i]? = some x) : ∃ n, n ∈ ns ∧ ns[i]? = some n ∧ x = f n := by
  rw [List.getElem?_map] at h
  cases e : ns[i]? with
  | none => rw [e] at h; cases h
  | some z => rw [e] at h; exact ⟨z, List.mem_of_getElem? e, rfl, (Option.some.inj h).symm⟩
/-- pure functions of ints -/
def spI1 (C : Int → Prop) (f : Int → V) : Sp := fun vs H Q _ => ∃ x, vs = [.int x] ∧ C x ∧ Q (f x) H
def spI2 (C : Int → Int → Prop) (f : Int → Int → V) : Sp := fun vs H Q _ => ∃ x y, vs = [.int x, .int y] ∧ C x y ∧ Q (f x y) H
theorem w_spI1 {C : Int → Prop} {f : Int → V} {x : Int} {H : Hp} {Q : VK} {E : XK} (c : C x) (q : Q (f x) H) : spI1 C f [.int x] H Q E := ⟨x, rfl, c, q⟩
theorem w_spI2 {C : Int → Int → Prop} {f : Int → Int → V} {x y : Int} {H : Hp} {Q : VK} {E : XK} (c : C x y) (q : Q (f x y) H) : spI2 C f [.int x, .int y] H Q E := ⟨x, y, rfl, c, q⟩
theorem len_spI1 {C : Int → Prop} {f : Int → V} {s : Str} (vs : List V) (H : Hp) (Q : VK) (E : XK) (h : spI1 C f vs H Q E) : vs.length = [s].length := by
  obtain ⟨x, rfl, _⟩ := h; rfl
theorem len_spI2 {C : Int → Int → Prop} {f : Int → Int → V} {s r : Str} (vs : List V) (H : Hp) (Q : VK) (E : XK) (h : spI2 C f vs H Q E) : vs.length = [s, r].length := by
  obtain ⟨x, y, rfl, _⟩ := h; rfl
/-- a Cd from a def that stands -/
theorem mkCd {P : Program} {w : World} {K : PySem.W.Frag} {mg : Str → Option Value} {base : Heap} {x qual : Str} {st : Stmt} {f : Addr} {fd : FuncData} {k : Nat} {ps : List Str} {sp : Sp} (F : Fun K x qual st f fd) (b : Binds K fd ps []) (m : mg x = some (.ref f)) (ok : FnOk P w K mg base CX0 k f fd ps sp) : Cd P w K mg base k x sp :=
  ⟨f, fd, ps, ok, m, F.kp, b⟩
/-- what stands: the def, how its arguments bind, its name -/
structure St1 (K : PySem.W.Frag) (mg : Str → Option Value) (x : Str) (st : Stmt) (ps : List Str) : Prop where
  ex : ∃ f fd, Fun K x x st f fd ∧ Binds K fd ps [] ∧ mg x = some (.ref f)
theorem St1.cd {P : Program} {w : World} {K : PySem.W.Frag} {mg : Str → Option Value} {base : Heap} {x : Str} {st : Stmt} {k : Nat} {N ps : List Str} {sp : Sp} (Z : St1 K mg x st ps) (S : FnScope N ps (defScope st)) (len : ∀ vs H Q E, sp vs H Q E → vs.length = ps.length)
    (hbody : ∀ (f : Addr) (cdv : Value) (A : Around) (outer : List Env) (s : Shared) (H : Hp) (vs : List V) (Q : VK) (E : XK), Room k (A.deeper (envOfC x (defScope st) s.heap.objs.size f cdv)) → sp vs H Q E →
      ∃ t, PSs (cxOf CX0 P w K mg base N x (defScope st) f cdv A outer s H E).nox (defBody st) t ∧ t { nx := fun _ H' => Q .non H', rt := Q } (start N vs) H) : Cd P w K mg base (k + 1) x sp := by
  obtain ⟨f, fd, F, b, m⟩ := Z.ex
  exact mkCd F b m (F.ok S len (hbody f))
theorem mkSt1 {K : PySem.W.Frag} {mg : Str → Option Value} {x : Str} {st : Stmt} {ps : List Str} {h : Heap} {f : Addr} {oc : Value} {od an : Option Addr} {osl : Array (Option Value)} {kV doc pm cdv ct : Value} (X : K.In h) (G : h.Ns mainGlobals mg)
    (a : PySem.W.nsIn K mainGlobals x = some (some (.ref f))) (l : K.lookup f = some ⟨oc, od, .func (PySem.W.fnOf x x (defArgs st) (defBody st) (defScope st) .none kV doc pm an cdv ct), osl⟩) (c : PySem.W.codeIn K cdv x = true) (k : PySem.W.keepIn K (.ref f) = true)
    (hb : ∀ (kV doc pm : Value) (an : Option Addr) (cdv ct : Value) (us : List Value), us.length = ps.length → bindArgs (PySem.W.fnOf x x (defArgs st) (defBody st) (defScope st) .none kV doc pm an cdv ct) ⟨us, []⟩ = pure (ps.zip us)) : St1 K mg x st ps :=
  ⟨f, _, fun_mk (st := st) l c k, (fun_mk (st := st) l c k).binds hb, PySem.W.mg_of X G a⟩
/-- a def among others that a local may hold -/
theorem Cd.held {P : Program} {w : World} {K : PySem.W.Frag} {mg : Str → Option Value} {base : Heap} {k : Nat} {x : Str} {sp : Sp} {f : Addr} (c : Cd P w K mg base k x sp) (m : mg x = some (.ref f)) : Held P w K mg base k f sp := by
  obtain ⟨f', fd, ps, F, m', kp, b⟩ := c.ex
  cases m'.symm.trans m
  exact ⟨⟨fd, ps, F, kp, b⟩⟩
end Co

set_option Elab.async false
set_option linter.all false
set_option maxRecDepth 100000
set_option maxHeartbeats 4000000
open PySem PySem.Spec PyProof.Rows L2 Co
local macro_rules | `(tactic| walk_at "side") => `(tactic| first | assumption | (refine wide_div (b := 40) ?_ (show _ < 1099511627776 from ?_) (by decide) (by decide) <;> omega) | (dsimp only [CDiv, CPow, CMul, CDivW, CMulW]; omega) | omega | decide)
local macro_rules | `(tactic| walk_at "w1") => `(tactic| first
  | ((with_reducible refine' w_var ?hv ?_); (case hv => exact rfl))
  | (with_reducible refine w_c ?_)
  | (with_reducible refine w_op ?_)
  | (with_reducible refine w_un ?_)
  | (with_reducible refine w_I0 ?_)
  | (with_reducible refine w_p32 ?_)
  | (with_reducible refine w_p31 ?_)
  | (with_reducible refine w_p26 ?_)
  | (with_reducible refine w_p22 ?_)
  | (with_reducible refine w_p20 ?_)
  | (with_reducible refine w_p18 ?_)
  | (with_reducible refine w_p17 ?_)
  | (with_reducible refine w_p16 ?_)
  | (with_reducible refine w_p14 ?_)
  | (with_reducible refine w_p13 ?_)
  | ((with_reducible refine w_I ?hc ?_); (case hc => walk_at "side"))
  | (with_reducible refine w_U ?_)
  | (with_reducible refine w_eqI ?_)
  | (with_reducible refine w_neI ?_)
  | (with_reducible refine w_eqS ?_)
  | ((with_reducible refine w_eq ?hc ?_); (case hc => exact rfl))
  | ((with_reducible refine w_ne ?hc ?_); (case hc => exact rfl))
  | (with_reducible refine w_test ?_)
  | (with_reducible refine w_B ?_)
  | (with_reducible refine w_bl ?_)
  | (with_reducible refine w_if ?_)
  | (with_reducible refine w_ifB ?_)
  | (with_reducible refine w_isB ?_)
  | (with_reducible refine w_notB ?_)
  | (with_reducible refine w_isiInt ?_)
  | (with_reducible refine w_isiIntB ?_)
  | (with_reducible refine w_andT ?_)
  | (with_reducible refine w_orT ?_)
  | (with_reducible refine w_notT ?_)
  | (with_reducible refine w_andV ?_)
  | (with_reducible refine w_orV ?_)
  | (with_reducible refine w_notV ?_)
  | (with_reducible refine w_chain ?_)
  | (with_reducible refine w_seq ?_)
  | (with_reducible refine w_next ?_)
  | (with_reducible refine w_ret ?_)
  | (with_reducible refine w_retN ?_)
  | (with_reducible refine w_ifS ?_)
  | (with_reducible refine w_asg ?_)
  | (with_reducible refine w_name ?_)
  | (with_reducible refine w_drop ?_)
  | (with_reducible refine w_nil ?_)
  | (with_reducible refine w_cons ?_)
  | (with_reducible refine w_call ?_)
  | (with_reducible refine w_cb ?_)
  | (with_reducible refine w_sub ?_)
  | (with_reducible refine w_gNil ?_)
  | (with_reducible refine w_gCons ?_)
  | ((with_reducible refine' w_gTup ?hh ?hn ?_); (case hh => assumption); (case hn => exact rfl))
  | (with_reducible refine w_for ?_)
  | (with_reducible refine w_iL ?_)
  | (with_reducible refine w_iT ?_)
  | (with_reducible refine w_rng1 ?_)
  | (with_reducible refine w_rng2 ?_)
  | (with_reducible refine w_lc ?_)
  | (with_reducible refine w_yes ?_)
  | (with_reducible refine w_tup ?_)
  | (with_reducible refine w_lst ?_)
  | ((with_reducible refine' w_ixL ?hh ?ha ?_); (case hh => assumption); (case ha => exact rfl))
  | ((with_reducible refine' w_ixT ?hh ?ha ?_); (case hh => assumption); (case ha => exact rfl))
  | ((with_reducible refine' w_setL ?hh ?ha ?_); (case hh => assumption); (case ha => exact rfl))
  | ((with_reducible refine' w_lenL ?hh ?_); (case hh => assumption))
  | (with_reducible refine w_int1 ?_)
  | (with_reducible refine w_abs ?_)
  | (with_reducible refine w_nT ?_)
  | (with_reducible refine w_nF ?_)
  | (with_reducible refine w_itT ?_)
  | (with_reducible refine w_itF ?_)
  | ((with_reducible refine w_spI1 ?hc ?_); (case hc => walk_at "side"))
  | ((with_reducible refine w_spI2 ?hc ?_); (case hc => walk_at "side")))
local macro_rules | `(tactic| walk_at "ws") => `(tactic| repeat (walk_at "w1"))
local macro_rules | `(tactic| walk_at "wd") => `(tactic| repeat (first | walk_at "w1" | (refine w_decT ?hd ?_; (case hd => decide)) | (refine w_decF ?hd ?_; (case hd => decide))))
local macro_rules | `(tactic| walk_at "wr") => `(tactic| repeat (first | walk_at "w1" | (refine w_ndecF rfl ?_)))

namespace K01
def topS (i : Nat) : Stmt := PySem.Challenge.pw_restitch_k01_results_and_conditions.main.body.getD i (.Pass ⟨0, 0, 0, 0⟩)
abbrev s_signed : Stmt := topS 4
abbrev s_add : Stmt := topS 5
abbrev s_sub : Stmt := topS 6
abbrev s_mul : Stmt := topS 7
abbrev s_and : Stmt := topS 8
abbrev s_or : Stmt := topS 9
abbrev s_xor : Stmt := topS 10
abbrev s_shl : Stmt := topS 11
abbrev s_shr : Stmt := topS 12
abbrev s_sar : Stmt := topS 13
abbrev s_slt : Stmt := topS 14
abbrev s_sltu : Stmt := topS 15
abbrev s_divu : Stmt := topS 16
abbrev s_remu : Stmt := topS 17
abbrev s_compute : Stmt := topS 19
abbrev s_holds : Stmt := topS 20
abbrev s_law_draw : Stmt := topS 22
abbrev s_law_take : Stmt := topS 23
abbrev s_law_value : Stmt := topS 24
abbrev s_law_signed : Stmt := topS 25
abbrev s_law_bits : Stmt := topS 26
abbrev s_law_due : Stmt := topS 27
abbrev s_law : Stmt := topS 28
structure Txt (K : PySem.W.Frag) (mg : Str → Option Value) : Prop where
  g_MASK : GV mg "MASK" (.int 4294967295)
  g_HALF : GV mg "HALF" (.int 2147483648)
  g_WORDS_IN_ALL : GV mg "WORDS_IN_ALL" (.int 4294967296)
  b_int : mg "int" = none
  b_abs : mg "abs" = none
  b_len : mg "len" = none
theorem sc_law_draw : FnScope ["script", "seed", "cell"] ["script"] (defScope s_law_draw) := ⟨rfl, rfl, rfl, by decide +kernel, rfl, by decide +kernel, by decide +kernel⟩
theorem sc_law_take : FnScope ["draw", "many", "found"] ["draw", "many"] (defScope s_law_take) := ⟨rfl, rfl, rfl, by decide +kernel, rfl, by decide +kernel, by decide +kernel⟩
/-! drawing -/
def mabs (n : Int) : Int := if n < 0 then -n else n
theorem mabs_nn (n : Int) : 0 ≤ mabs n := by unfold mabs; split <;> omega
def DrawAt (H : Hp) (d : Addr) : Prop := ∃ (c : Addr) (cs : List Int) (i cur seed : Int), H d = some (.lst [.ref c, .int i, .int cur, .int seed]) ∧ H c = some (.lst (cs.map V.int)) ∧ c ≠ d ∧ -1 ≤ i ∧ 0 ≤ cur ∧ 0 ≤ seed ∧ seed < 2147483647 ∧ ∀ x ∈ cs, 0 ≤ x
theorem DrawAt.same {H H' : Hp} {d : Addr} (h : DrawAt H d) (s : Same H H') : DrawAt H' d := by
  obtain ⟨c, cs, i, cur, seed, hd, hc, r⟩ := h
  exact ⟨c, cs, i, cur, seed, s _ _ hd, s _ _ hc, r⟩
def spDraw (K : PySem.W.Frag) : Sp := fun vs H Q _ => ∃ (a : Addr) (ns : List Int), vs = [.ref a] ∧ SqL K H a (ns.map V.int) ∧ ns.length ≤ 63 ∧ ∀ (d : Addr) H', H d = none → Same H H' → DrawAt H' d → Q (.ref d) H'
def spTake : Sp := fun vs H Q _ => ∃ (d : Addr) (m : Int), vs = [.ref d, .int m] ∧ DrawAt H d ∧ 0 < m ∧ m ≤ 4294967296 ∧ ∀ (r : Int) H', 0 ≤ r → r < m → DrawAt H' d → But d H H' → Q (.int r) H'
section
variable {P : Program} {w : World} {K : PySem.W.Frag} {mg : Str → Option Value} {base : Heap}
theorem ok_take (T : Txt K mg) (Z : St1 K mg "_law_take" s_law_take ["draw", "many"]) : Cd P w K mg base 1 "_law_take" spTake := by
  obtain ⟨g_MASK, g_HALF, g_WORDS_IN_ALL, b_int, b_abs, b_len⟩ := T
  refine Z.cd sc_law_take (fun vs H Q E h => by obtain ⟨d, m, rfl, _⟩ := h; rfl) (fun f cdv A outer s H vs Q E hr h => ?_)
  obtain ⟨d, m, rfl, ⟨c, cs, i, cur, seed, hd, hc, ncd, hi, hcur, hs0, hs1, hcs⟩, hm0, hm1, q⟩ := h
  refine ⟨_, (Evl.pss_cut (ps_if (pt_cmpR op_eq (pe_ix ix_list (pv 0) pe_int (fun _ _ => rfl)) pe_int (nomark _)) (pss_cons (ps_asg (pe_op op_add (pe_ix ix_list (pv 0) pe_int (fun _ _ => rfl)) pe_int) (pg_sub (pv 0) pe_int set_list))
      (Evl.pss_cut (ps_if (pt_cmpR op_lt (pe_ix ix_list (pv 0) pe_int (fun _ _ => rfl)) (pe_callB call_lenQ (by rfl) b_len PySem.boot_len (pa_cons (pe_ix ix_list (pv 0) pe_int (fun _ _ => rfl)) pa_nil)) (nomark _)) (pss_one (ps_asg (pe_ix ix_list (pe_ix ix_list (pv 0) pe_int (fun _ _ => rfl)) (pe_ix ix_list (pv 0) pe_int (fun _ _ => rfl)) (fun _ _ => rfl)) (pg_sub (pv 0) pe_int set_list))) pss_nil)
      (pss_one (ps_if (pt_cmpR op_eq (pe_ix ix_list (pv 0) pe_int (fun _ _ => rfl)) pe_int (nomark _)) (pss_cons (ps_asg (pe_op op_mod (pe_callTy call_intQ (by rfl) b_int (by decide +kernel) (pa_cons (pe_op op_add (pe_op op_mul (pe_ix ix_list (pv 0) pe_int (fun _ _ => rfl)) pe_int) pe_int) pa_nil)) pe_int) (pg_sub (pv 0) pe_int set_list))
      (pss_one (ps_asg (pe_ix ix_list (pv 0) pe_int (fun _ _ => rfl)) (pg_sub (pv 0) pe_int set_list)))) pss_nil)))) pss_nil)
      (pss_cons (ps_set (i := 2) sc_law_take.nd rfl (.inl rfl) (pe_op op_mod (pe_callTy call_intQ (by rfl) b_int (by decide +kernel) (pa_cons (pe_ix ix_list (pv 0) pe_int (fun _ _ => rfl)) pa_nil)) (pv 1)))
      (pss_cons (ps_asg (pe_op op_fdivW (pe_ix ix_list (pv 0) pe_int (fun _ _ => rfl)) (pv 1)) (pg_sub (pv 0) pe_int set_list))
      (pss_one (ps_ret (pv 2)))))), ?_⟩
  refine Evl.q_cut (M := fun σ' H' => σ' = [some (.ref d), some (.int m), none] ∧ But d H H' ∧ ∃ i' cur' seed', H' d = some (.lst [.ref c, .int i', .int cur', .int seed']) ∧ H' c = some (.lst (cs.map V.int)) ∧ -1 ≤ i' ∧ 0 ≤ cur' ∧ 0 ≤ seed' ∧ seed' < 2147483647) ?_ ?_
  · walk_at "ws"
    refine w_dec (fun e => ?_) (fun e => ?_)
    · walk_at "ws"
      intro H1 hd1 bt1
      replace hd1 : H1 d = some (.lst [.ref c, .int (i + 1), .int cur, .int seed]) := hd1
      have hc1 : H1 c = some (.lst (cs.map V.int)) := bt1 c _ ncd hc
      walk_at "ws"
      refine Evl.q_cut (M := fun σ' H' => σ' = [some (.ref d), some (.int m), none] ∧ But d H H' ∧ ∃ cur', H' d = some (.lst [.ref c, .int (i + 1), .int cur', .int seed]) ∧ 0 ≤ cur') ?_ ?_
      · walk_at "ws"
        refine w_dec (fun e2 => ?_) (fun e2 => ?_)
        · walk_at "ws"
          have l1 : (cs.map V.int).length = cs.length := List.length_map ..
          have hlt : (i + 1).toNat < cs.length := by omega
          refine w_ixL (v := .int cs[(i + 1).toNat]) hc1 (atI_of (by omega) ?_) ?_
          · rw [List.getElem?_map, List.getElem?_eq_getElem hlt]; rfl
          walk_at "ws"
          intro H2 hd2 bt2
          walk_at "ws"
          exact ⟨rfl, bt1.trans bt2, _, hd2, hcs _ (List.getElem_mem hlt)⟩
        · walk_at "ws"
          exact ⟨rfl, bt1, cur, hd1, hcur⟩
      · rintro σ' H2 ⟨rfl, bt2, cur2, hd2, hcur2⟩
        walk_at "ws"
        have hc2 : H2 c = some (.lst (cs.map V.int)) := bt2 c _ ncd hc
        refine w_dec (fun e2 => ?_) (fun e2 => ?_)
        · walk_at "ws"
          intro H3 hd3 bt3
          replace hd3 : H3 d = some (.lst [.ref c, .int (i + 1), .int cur2, .int ((seed * 48271 + 11) % 2147483647)]) := hd3
          walk_at "ws"
          intro H4 hd4 bt4
          replace hd4 : H4 d = some (.lst [.ref c, .int (i + 1), .int ((seed * 48271 + 11) % 2147483647), .int ((seed * 48271 + 11) % 2147483647)]) := hd4
          have g1 : 0 ≤ (seed * 48271 + 11) % 2147483647 := Int.emod_nonneg _ (by omega)
          have g2 : (seed * 48271 + 11) % 2147483647 < 2147483647 := Int.emod_lt_of_pos _ (by omega)
          exact ⟨rfl, bt2.trans (bt3.trans bt4), _, _, _, hd4, bt4 c _ ncd (bt3 c _ ncd hc2), by omega, g1, g1, g2⟩
        · walk_at "ws"
          exact ⟨rfl, bt2, _, _, _, hd2, hc2, by omega, hcur2, hs0, hs1⟩
    · walk_at "ws"
      exact ⟨rfl, But.refl _ _, i, cur, seed, hd, hc, hi, hcur, hs0, hs1⟩
  · rintro σ' H' ⟨rfl, bt, i', cur', seed', hd', hc', hi', hcur', hs0', hs1'⟩
    walk_at "ws"
    intro H1 hd1 bt1
    replace hd1 : H1 d = some (.lst [.ref c, .int i', .int (cur' / m), .int seed']) := hd1
    walk_at "ws"
    refine q (cur' % m) H1 (Int.emod_nonneg _ (by omega)) (Int.emod_lt_of_pos _ hm0) ⟨c, cs, i', cur' / m, seed', hd1, bt1 c _ ncd hc', ncd, hi', Int.ediv_nonneg hcur' (by omega), hs0', hs1', hcs⟩ (bt.trans bt1)
theorem ok_draw (T : Txt K mg) (Z : St1 K mg "_law_draw" s_law_draw ["script"]) : Cd P w K mg base 1 "_law_draw" (spDraw K) := by
  obtain ⟨g_MASK, g_HALF, g_WORDS_IN_ALL, b_int, b_abs, b_len⟩ := T
  refine Z.cd sc_law_draw (fun vs H Q E h => by obtain ⟨d, m, rfl, _⟩ := h; rfl) (fun f cdv A outer s H vs Q E hr h => ?_)
  obtain ⟨a, ns, rfl, hS, hlen, q⟩ := h
  refine ⟨_, (pss_cons (ps_set (i := 1) sc_law_draw.nd rfl (.inl rfl) pe_int)
      (pss_cons (ps_for PassesOwn.never rfl (pi_list (pv 0)) (pg_name (i := 2) sc_law_draw.nd rfl (.inl rfl))
      (pss_one (ps_set (i := 1) sc_law_draw.nd rfl (.inl rfl) (pe_op op_mod (pe_callTy call_intQ (by rfl) b_int (by decide +kernel) (pa_cons (pe_op op_add (pe_op op_add (pe_op op_mul (pv 1) pe_int) (pe_op op_mod (pe_callB call_absQ (by rfl) b_abs (by decide +kernel) (pa_cons (pe_callTy call_intQ (by rfl) b_int (by decide +kernel) (pa_cons (pv 2) pa_nil)) pa_nil)) pe_int)) pe_int) pa_nil)) pe_int))))
      (pss_one (ps_ret (pe_lst (pa_cons (pe_lc (own := [("cell", 2)]) rfl sc_law_draw.nd (pi_list (pv 0)) (blkOk_by (own := [("cell", 2)]) (N := ["script", "seed", "cell"]) (sc := (defScope s_law_draw)) (by decide +kernel)) (fun _ _ _ _ _ => (pg_name (i := 2) sc_law_draw.nd rfl (.inl rfl))) (fun _ _ _ _ _ => pts_nil) (fun _ _ _ _ _ => (pe_callB call_absQ (by rfl) b_abs (by decide +kernel) (pa_cons (pe_callTy call_intQ (by rfl) b_int (by decide +kernel) (pa_cons (pv 2) pa_nil)) pa_nil)))) (pa_cons (pe_un un_neg pe_int) (pa_cons pe_int (pa_cons (pv 1) pa_nil))))))))), ?_⟩
  walk_at "ws"
  refine w_forL (ns.map V.int) (fun i σ' H' => H' = H ∧ ∃ (y : Option V) (seed : Int), σ' = [some (.ref a), some (.int seed), y] ∧ 0 ≤ seed ∧ seed < 2147483647) hS ⟨rfl, none, 7, rfl, by decide, by decide⟩ (fun i σ' H' _ ⟨e, _⟩ => by rw [e]; exact hS) ?_ ?_
  · rintro i x σ' H' hx ⟨rfl, y, seed, rfl, h0, h1⟩
    obtain ⟨n, _, rfl⟩ := map_get hx
    walk_at "ws"
    refine ⟨rfl, _, _, rfl, Int.emod_nonneg _ (by omega), Int.emod_lt_of_pos _ (by omega)⟩
  · rintro σ' H' ⟨rfl, y, seed, rfl, h0, h1⟩
    walk_at "ws"
    refine w_lcL (ns.map V.int) (fun c i H2 => H' c = none ∧ Same H' H2 ∧ H2 c = some (.lst (((ns.take i).map mabs).map V.int))) hS (fun c nc => ⟨nc, Same.new nc, upd_same⟩) (fun c i H2 _ ⟨_, e, _⟩ => e.seq hS) ?_ ?_
    · rintro c i x H2 hx ⟨nc, sm, hc⟩
      obtain ⟨n, hn, rfl⟩ := map_get hx
      walk_at "ws"
      refine ⟨rfl, ?_⟩
      walk_at "ws"
      have hi : i < ns.length := (List.getElem?_eq_some_iff.mp hn).1
      refine ⟨_, hc, by simp only [List.length_map, List.length_take]; exact small1000 (by omega), nc, ?_, ?_⟩
      · exact fun b o e => by rw [upd_ne (ne_of_none e nc)]; exact sm b o e
      · rw [upd_same, take_more hn, List.map_append, List.map_append]; rfl
    · rintro c H2 nc ⟨_, sm, hc⟩
      walk_at "ws"
      refine w_kLst (by show 4 ≤ sizeLine; decide) fun d H3 nd sm3 hd => ?_
      have hdc : c ≠ d := ne_of_none hc nd
      rw [List.length_map, List.take_length] at hc
      refine q d _ (sm.free nd) (sm.trans sm3) ⟨c, ns.map mabs, -1, 0, seed, hd, sm3 _ _ hc, hdc, by decide, by decide, h0, h1, fun x hx => ?_⟩
      obtain ⟨n, _, rfl⟩ := List.mem_map.mp hx
      exact mabs_nn n
end
end K01

namespace K01
def W (x : Int) : Prop := 0 ≤ x ∧ x < 4294967296
def W2 (x y : Int) : Prop := W x ∧ W y
def sgn (x : Int) : Int := if 2147483648 ≤ x then x - 4294967296 else x
def dAdd (x y : Int) : Int := (x + y) % 4294967296
def dSub (x y : Int) : Int := (x - y) % 4294967296
def dMul (x y : Int) : Int := (x * y) % 4294967296
def dAnd (x y : Int) : Int := Builtin.bitAnd x y
def dOr (x y : Int) : Int := Builtin.bitOr x y
def dXor (x y : Int) : Int := Builtin.bitXor x y
def dShl (x y : Int) : Int := (x * 2 ^ (y % 32).toNat) % 4294967296
def dShr (x y : Int) : Int := x / 2 ^ (y % 32).toNat
def dSar (x y : Int) : Int := (sgn x / 2 ^ (y % 32).toNat) % 4294967296
def dSlt (x y : Int) : Int := if sgn x < sgn y then 1 else 0
def dSltu (x y : Int) : Int := if x < y then 1 else 0
def dDivu (x y : Int) : Int := if y = 0 then 4294967295 else x / y
def dRemu (x y : Int) : Int := if y = 0 then x else x % y
abbrev spOp (g : Int → Int → Int) : Sp := spI2 W2 fun x y => .int (g x y)
theorem sc_signed : FnScope ["word"] ["word"] (defScope s_signed) := ⟨rfl, rfl, rfl, by decide +kernel, rfl, by decide +kernel, by decide +kernel⟩
theorem sc_add : FnScope ["x", "y"] ["x", "y"] (defScope s_add) := ⟨rfl, rfl, rfl, by decide +kernel, rfl, by decide +kernel, by decide +kernel⟩
theorem sc_sub : FnScope ["x", "y"] ["x", "y"] (defScope s_sub) := ⟨rfl, rfl, rfl, by decide +kernel, rfl, by decide +kernel, by decide +kernel⟩
theorem sc_mul : FnScope ["x", "y"] ["x", "y"] (defScope s_mul) := ⟨rfl, rfl, rfl, by decide +kernel, rfl, by decide +kernel, by decide +kernel⟩
theorem sc_and : FnScope ["x", "y"] ["x", "y"] (defScope s_and) := ⟨rfl, rfl, rfl, by decide +kernel, rfl, by decide +kernel, by decide +kernel⟩
theorem sc_or : FnScope ["x", "y"] ["x", "y"] (defScope s_or) := ⟨rfl, rfl, rfl, by decide +kernel, rfl, by decide +kernel, by decide +kernel⟩
theorem sc_xor : FnScope ["x", "y"] ["x", "y"] (defScope s_xor) := ⟨rfl, rfl, rfl, by decide +kernel, rfl, by decide +kernel, by decide +kernel⟩
theorem sc_shl : FnScope ["x", "y"] ["x", "y"] (defScope s_shl) := ⟨rfl, rfl, rfl, by decide +kernel, rfl, by decide +kernel, by decide +kernel⟩
theorem sc_shr : FnScope ["x", "y"] ["x", "y"] (defScope s_shr) := ⟨rfl, rfl, rfl, by decide +kernel, rfl, by decide +kernel, by decide +kernel⟩
theorem sc_sar : FnScope ["x", "y"] ["x", "y"] (defScope s_sar) := ⟨rfl, rfl, rfl, by decide +kernel, rfl, by decide +kernel, by decide +kernel⟩
theorem sc_slt : FnScope ["x", "y"] ["x", "y"] (defScope s_slt) := ⟨rfl, rfl, rfl, by decide +kernel, rfl, by decide +kernel, by decide +kernel⟩
theorem sc_sltu : FnScope ["x", "y"] ["x", "y"] (defScope s_sltu) := ⟨rfl, rfl, rfl, by decide +kernel, rfl, by decide +kernel, by decide +kernel⟩
theorem sc_divu : FnScope ["x", "y"] ["x", "y"] (defScope s_divu) := ⟨rfl, rfl, rfl, by decide +kernel, rfl, by decide +kernel, by decide +kernel⟩
theorem sc_remu : FnScope ["x", "y"] ["x", "y"] (defScope s_remu) := ⟨rfl, rfl, rfl, by decide +kernel, rfl, by decide +kernel, by decide +kernel⟩
theorem sc_law_signed : FnScope ["x"] ["x"] (defScope s_law_signed) := ⟨rfl, rfl, rfl, by decide +kernel, rfl, by decide +kernel, by decide +kernel⟩
abbrev spSgn : Sp := spI1 W fun x => .int (sgn x)
section
variable {P : Program} {w : World} {K : PySem.W.Frag} {mg : Str → Option Value} {base : Heap}
theorem ok_signed (T : Txt K mg) (Z : St1 K mg "_signed" s_signed ["word"]) : Cd P w K mg base 1 "_signed" spSgn := by
  obtain ⟨g_MASK, g_HALF, g_WORDS_IN_ALL, b_int, b_abs, b_len⟩ := T
  refine Z.cd sc_signed len_spI1 (fun f cdv A outer s H vs Q E hr h => ?_)
  obtain ⟨x, rfl, _, q⟩ := h
  refine ⟨_, (pss_one (ps_ret (pe_ifExp (pt_cmpR op_ge (pv 0) (pe_gv (by rfl) g_HALF) (nomark _)) (pe_op op_sub (pv 0) (pe_gv (by rfl) g_WORDS_IN_ALL)) (pv 0)))), ?_⟩
  walk_at "ws"
  refine w_dec (fun e => ?_) (fun e => ?_)
  · walk_at "ws"
    simpa only [sgn, if_pos e] using q
  · walk_at "ws"
    simpa only [sgn, if_neg e] using q
theorem ok_law_signed (Z : St1 K mg "_law_signed" s_law_signed ["x"]) : Cd P w K mg base 1 "_law_signed" spSgn := by
  refine Z.cd sc_law_signed len_spI1 (fun f cdv A outer s H vs Q E hr h => ?_)
  obtain ⟨x, rfl, _, q⟩ := h
  refine ⟨_, (pss_one (ps_ret (pe_ifExp (pt_cmpR op_ge (pv 0) (pe_op op_pow pe_int pe_int) (nomark _)) (pe_op op_sub (pv 0) (pe_op op_pow pe_int pe_int)) (pv 0)))), ?_⟩
  walk_at "ws"
  refine w_dec (fun e => ?_) (fun e => ?_)
  · walk_at "ws"
    simpa only [sgn, if_pos e] using q
  · walk_at "ws"
    simpa only [sgn, if_neg e] using q
theorem ok_add (T : Txt K mg) (Z : St1 K mg "_add" s_add ["x", "y"]) : Cd P w K mg base 2 "_add" (spOp dAdd) := by
  obtain ⟨g_MASK, g_HALF, g_WORDS_IN_ALL, b_int, b_abs, b_len⟩ := T
  refine Z.cd sc_add len_spI2 (fun f cdv A outer s H vs Q E hr h => ?_)
  obtain ⟨x, y, rfl, ⟨hx, hy⟩, q⟩ := h
  refine ⟨_, (pss_one (ps_ret (pe_op op_and (pe_op op_add (pv 0) (pv 1)) (pe_gv (by rfl) g_MASK)))), ?_⟩
  walk_at "ws"
  rw [bitAnd_m32]; exact q
theorem ok_sub (T : Txt K mg) (Z : St1 K mg "_sub" s_sub ["x", "y"]) : Cd P w K mg base 2 "_sub" (spOp dSub) := by
  obtain ⟨g_MASK, g_HALF, g_WORDS_IN_ALL, b_int, b_abs, b_len⟩ := T
  refine Z.cd sc_sub len_spI2 (fun f cdv A outer s H vs Q E hr h => ?_)
  obtain ⟨x, y, rfl, ⟨hx, hy⟩, q⟩ := h
  refine ⟨_, (pss_one (ps_ret (pe_op op_and (pe_op op_sub (pv 0) (pv 1)) (pe_gv (by rfl) g_MASK)))), ?_⟩
  walk_at "ws"
  rw [bitAnd_m32]; exact q
theorem ok_mul (T : Txt K mg) (Z : St1 K mg "_mul" s_mul ["x", "y"]) : Cd P w K mg base 2 "_mul" (spOp dMul) := by
  obtain ⟨g_MASK, g_HALF, g_WORDS_IN_ALL, b_int, b_abs, b_len⟩ := T
  refine Z.cd sc_mul len_spI2 (fun f cdv A outer s H vs Q E hr h => ?_)
  obtain ⟨x, y, rfl, ⟨⟨hx, hx'⟩, hy, hy'⟩, q⟩ := h
  refine ⟨_, (pss_one (ps_ret (pe_op op_and (pe_op op_mul (pv 0) (pv 1)) (pe_gv (by rfl) g_MASK)))), ?_⟩
  walk_at "ws"
  rw [bitAnd_m32]; exact q
theorem ok_and (Z : St1 K mg "_and" s_and ["x", "y"]) : Cd P w K mg base 2 "_and" (spOp dAnd) := by
  refine Z.cd sc_and len_spI2 (fun f cdv A outer s H vs Q E hr h => ?_)
  obtain ⟨x, y, rfl, ⟨⟨hx, hx'⟩, hy, hy'⟩, q⟩ := h
  refine ⟨_, (pss_one (ps_ret (pe_op op_and (pv 0) (pv 1)))), ?_⟩
  walk_at "ws"
  exact q
theorem ok_or (Z : St1 K mg "_or" s_or ["x", "y"]) : Cd P w K mg base 2 "_or" (spOp dOr) := by
  refine Z.cd sc_or len_spI2 (fun f cdv A outer s H vs Q E hr h => ?_)
  obtain ⟨x, y, rfl, ⟨⟨hx, hx'⟩, hy, hy'⟩, q⟩ := h
  refine ⟨_, (pss_one (ps_ret (pe_op op_or (pv 0) (pv 1)))), ?_⟩
  walk_at "ws"
  exact q
theorem ok_xor (Z : St1 K mg "_xor" s_xor ["x", "y"]) : Cd P w K mg base 2 "_xor" (spOp dXor) := by
  refine Z.cd sc_xor len_spI2 (fun f cdv A outer s H vs Q E hr h => ?_)
  obtain ⟨x, y, rfl, ⟨⟨hx, hx'⟩, hy, hy'⟩, q⟩ := h
  refine ⟨_, (pss_one (ps_ret (pe_op op_xor (pv 0) (pv 1)))), ?_⟩
  walk_at "ws"
  exact q
theorem ok_shl (T : Txt K mg) (Z : St1 K mg "_shl" s_shl ["x", "y"]) : Cd P w K mg base 2 "_shl" (spOp dShl) := by
  obtain ⟨g_MASK, g_HALF, g_WORDS_IN_ALL, b_int, b_abs, b_len⟩ := T
  refine Z.cd sc_shl len_spI2 (fun f cdv A outer s H vs Q E hr h => ?_)
  obtain ⟨x, y, rfl, ⟨⟨hx, hx'⟩, hy, hy'⟩, q⟩ := h
  refine ⟨_, (pss_one (ps_ret (pe_op op_and (pe_op op_shl (pv 0) (pe_op op_and (pv 1) pe_int)) (pe_gv (by rfl) g_MASK)))), ?_⟩
  walk_at "ws"
  rw [bitAnd_m5]
  refine w_I ⟨by omega, by omega, by show x.natAbs < 18446744073709551616; omega⟩ ?_
  walk_at "ws"
  rw [bitAnd_m32]; exact q
theorem ok_shr (Z : St1 K mg "_shr" s_shr ["x", "y"]) : Cd P w K mg base 2 "_shr" (spOp dShr) := by
  refine Z.cd sc_shr len_spI2 (fun f cdv A outer s H vs Q E hr h => ?_)
  obtain ⟨x, y, rfl, ⟨⟨hx, hx'⟩, hy, hy'⟩, q⟩ := h
  refine ⟨_, (pss_one (ps_ret (pe_op op_shr (pv 0) (pe_op op_and (pv 1) pe_int)))), ?_⟩
  walk_at "ws"
  rw [bitAnd_m5]
  walk_at "ws"
  exact q
theorem ok_sar (T : Txt K mg) (c_signed : Cd P w K mg base 1 "_signed" spSgn) (Z : St1 K mg "_sar" s_sar ["x", "y"]) : Cd P w K mg base 2 "_sar" (spOp dSar) := by
  obtain ⟨g_MASK, g_HALF, g_WORDS_IN_ALL, b_int, b_abs, b_len⟩ := T
  refine Z.cd sc_sar len_spI2 (fun f cdv A outer s H vs Q E hr h => ?_)
  obtain ⟨x, y, rfl, ⟨hx, hy⟩, q⟩ := h
  refine ⟨_, (pss_one (ps_ret (pe_op op_and (pe_op op_shr (pe_cd c_signed hr (by decide) (by rfl) (pa_cons (pv 0) pa_nil)) (pe_op op_and (pv 1) pe_int)) (pe_gv (by rfl) g_MASK)))), ?_⟩
  walk_at "ws"
  rw [bitAnd_m5]
  walk_at "ws"
  rw [bitAnd_m32]; exact q
theorem ok_slt (c_signed : Cd P w K mg base 1 "_signed" spSgn) (Z : St1 K mg "_slt" s_slt ["x", "y"]) : Cd P w K mg base 2 "_slt" (spOp dSlt) := by
  refine Z.cd sc_slt len_spI2 (fun f cdv A outer s H vs Q E hr h => ?_)
  obtain ⟨x, y, rfl, ⟨hx, hy⟩, q⟩ := h
  refine ⟨_, (pss_one (ps_ret (pe_ifExp (pt_cmpR op_lt (pe_cd c_signed hr (by decide) (by rfl) (pa_cons (pv 0) pa_nil)) (pe_cd c_signed hr (by decide) (by rfl) (pa_cons (pv 1) pa_nil)) (nomark _)) pe_int pe_int))), ?_⟩
  walk_at "ws"
  refine w_dec (fun e => ?_) (fun e => ?_)
  · walk_at "ws"
    simpa only [dSlt, if_pos e] using q
  · walk_at "ws"
    simpa only [dSlt, if_neg e] using q
theorem ok_sltu (Z : St1 K mg "_sltu" s_sltu ["x", "y"]) : Cd P w K mg base 2 "_sltu" (spOp dSltu) := by
  refine Z.cd sc_sltu len_spI2 (fun f cdv A outer s H vs Q E hr h => ?_)
  obtain ⟨x, y, rfl, ⟨hx, hy⟩, q⟩ := h
  refine ⟨_, (pss_one (ps_ret (pe_ifExp (pt_cmpR op_lt (pv 0) (pv 1) (nomark _)) pe_int pe_int))), ?_⟩
  walk_at "ws"
  refine w_dec (fun e => ?_) (fun e => ?_)
  · walk_at "ws"
    simpa only [dSltu, if_pos e] using q
  · walk_at "ws"
    simpa only [dSltu, if_neg e] using q
theorem ok_divu (T : Txt K mg) (Z : St1 K mg "_divu" s_divu ["x", "y"]) : Cd P w K mg base 2 "_divu" (spOp dDivu) := by
  obtain ⟨g_MASK, g_HALF, g_WORDS_IN_ALL, b_int, b_abs, b_len⟩ := T
  refine Z.cd sc_divu len_spI2 (fun f cdv A outer s H vs Q E hr h => ?_)
  obtain ⟨x, y, rfl, ⟨⟨hx, hx'⟩, hy, hy'⟩, q⟩ := h
  refine ⟨_, (pss_one (ps_ret (pe_ifExp (pt_cmpR op_eq (pv 1) pe_int (nomark _)) (pe_gv (by rfl) g_MASK) (pe_op op_fdivW (pv 0) (pv 1))))), ?_⟩
  walk_at "ws"
  refine w_dec (fun e => ?_) (fun e => ?_)
  · walk_at "ws"
    simpa only [dDivu, if_pos e] using q
  · walk_at "ws"
    simpa only [dDivu, if_neg e] using q
theorem ok_remu (Z : St1 K mg "_remu" s_remu ["x", "y"]) : Cd P w K mg base 2 "_remu" (spOp dRemu) := by
  refine Z.cd sc_remu len_spI2 (fun f cdv A outer s H vs Q E hr h => ?_)
  obtain ⟨x, y, rfl, ⟨⟨hx, hx'⟩, hy, hy'⟩, q⟩ := h
  refine ⟨_, (pss_one (ps_ret (pe_ifExp (pt_cmpR op_eq (pv 1) pe_int (nomark _)) (pv 0) (pe_op op_mod (pv 0) (pv 1))))), ?_⟩
  walk_at "ws"
  refine w_dec (fun e => ?_) (fun e => ?_)
  · walk_at "ws"
    simpa only [dRemu, if_pos e] using q
  · walk_at "ws"
    simpa only [dRemu, if_neg e] using q
end
end K01

namespace K01
theorem sc_compute : FnScope ["op", "x", "y", "result_of"] ["op", "x", "y"] (defScope s_compute) := ⟨rfl, rfl, rfl, by decide +kernel, rfl, by decide +kernel, by decide +kernel⟩
theorem sc_holds : FnScope ["op", "x", "y"] ["op", "x", "y"] (defScope s_holds) := ⟨rfl, rfl, rfl, by decide +kernel, rfl, by decide +kernel, by decide +kernel⟩
theorem sc_law_value : FnScope ["draw", "k"] ["draw"] (defScope s_law_value) := ⟨rfl, rfl, rfl, by decide +kernel, rfl, by decide +kernel, by decide +kernel⟩
theorem sc_law_bits : FnScope ["op", "x", "y", "due", "k", "both"] ["op", "x", "y"] (defScope s_law_bits) := ⟨rfl, rfl, rfl, by decide +kernel, rfl, by decide +kernel, by decide +kernel⟩
theorem sc_law_due : FnScope ["op", "x", "y", "n"] ["op", "x", "y"] (defScope s_law_due) := ⟨rfl, rfl, rfl, by decide +kernel, rfl, by decide +kernel, by decide +kernel⟩
def tab13 : List (Str × (Int → Int → Int)) := [("add", dAdd), ("sub", dSub), ("mul", dMul), ("and", dAnd), ("or", dOr), ("xor", dXor), ("shl", dShl), ("shr", dShr), ("sar", dSar), ("slt", dSlt), ("sltu", dSltu), ("divu", dDivu), ("remu", dRemu)]
def tab8 : List (Str × (Int → Int → Int)) := [("addi", dAdd), ("andi", dAnd), ("ori", dOr), ("xori", dXor), ("shli", dShl), ("shri", dShr), ("sari", dSar), ("slti", dSlt)]
def tab6 : List (Str × (Int → Int → Bool)) := [("beq", fun x y => decide (x = y)), ("bne", fun x y => !decide (x = y)), ("blt", fun x y => decide (sgn x < sgn y)), ("bge", fun x y => decide (sgn y ≤ sgn x)), ("bltu", fun x y => decide (x < y)), ("bgeu", fun x y => decide (y ≤ x))]
def spComp : Sp := fun vs H Q _ => ∃ (op : Str) (g : Int → Int → Int) (x y : Int), vs = [.str op, .int x, .int y] ∧ (op, g) ∈ tab13 ++ tab8 ∧ W x ∧ W y ∧ Q (.int (g x y)) H
def spDue : Sp := fun vs H Q _ => ∃ (op : Str) (g : Int → Int → Int) (x y : Int), vs = [.str op, .int x, .int y] ∧ (op, g) ∈ tab13 ∧ W x ∧ W y ∧ ∀ H', Same H H' → Q (.int (g x y)) H'
def spHolds : Sp := fun vs H Q _ => ∃ (op : Str) (g : Int → Int → Bool) (x y : Int), vs = [.str op, .int x, .int y] ∧ (op, g) ∈ tab6 ∧ W x ∧ W y ∧ Q (.bl (g x y)) H
section
variable {P : Program} {w : World} {K : PySem.W.Frag} {mg : Str → Option Value} {base : Heap}
theorem ok_compute {R : Addr} (gR : GV mg "RESULTS" (.ref R)) (rows : ∀ p ∈ tab13 ++ tab8, ∃ f, KDct K w R p.1 (.ref f) ∧ Held P w K mg base 2 f (spOp p.2)) (Z : St1 K mg "compute" s_compute ["op", "x", "y"]) : Cd P w K mg base 3 "compute" spComp := by
  refine Z.cd sc_compute (fun vs H Q E h => by obtain ⟨op, g, x, y, rfl, _⟩ := h; rfl) (fun f cdv A outer s H vs Q E hr h => ?_)
  obtain ⟨op, g, x, y, rfl, hm, hx, hy, q⟩ := h
  obtain ⟨f, hk, hf⟩ := rows _ hm
  refine ⟨_, (pss_cons (ps_set (i := 3) sc_compute.nd rfl (.inl rfl) (pe_ix ix_kdict (pe_gv (by rfl) gR) (pv 0) (fun _ _ => rfl)))
      (pss_one (ps_ret (pe_callZ (i := 3) hr rfl (Or.inl rfl) (pa_cons (pv 1) (pa_cons (pv 2) pa_nil)))))), ?_⟩
  walk_at "ws"
  refine w_ixD hk ?_
  walk_at "ws"
  refine w_callZ rfl hf ?_
  walk_at "ws"
  exact ⟨x, y, rfl, ⟨hx, hy⟩, q⟩
theorem ok_holds (c_signed : Cd P w K mg base 1 "_signed" spSgn) (Z : St1 K mg "holds" s_holds ["op", "x", "y"]) : Cd P w K mg base 2 "holds" spHolds := by
  refine Z.cd sc_holds (fun vs H Q E h => by obtain ⟨op, g, x, y, rfl, _⟩ := h; rfl) (fun f cdv A outer s H vs Q E hr h => ?_)
  obtain ⟨op, g, x, y, rfl, hm, hx, hy, q⟩ := h
  refine ⟨_, (pss_cons (ps_if (pt_cmpR op_eq (pv 0) pe_str (nomark _)) (pss_one (ps_ret (pe_cmpR op_eq (pv 1) (pv 2) (nomark _)))) pss_nil)
      (pss_cons (ps_if (pt_cmpR op_eq (pv 0) pe_str (nomark _)) (pss_one (ps_ret (pe_cmpR op_ne (pv 1) (pv 2) (nomark _)))) pss_nil)
      (pss_cons (ps_if (pt_cmpR op_eq (pv 0) pe_str (nomark _)) (pss_one (ps_ret (pe_cmpR op_lt (pe_cd c_signed hr (by decide) (by rfl) (pa_cons (pv 1) pa_nil)) (pe_cd c_signed hr (by decide) (by rfl) (pa_cons (pv 2) pa_nil)) (nomark _)))) pss_nil)
      (pss_cons (ps_if (pt_cmpR op_eq (pv 0) pe_str (nomark _)) (pss_one (ps_ret (pe_cmpR op_ge (pe_cd c_signed hr (by decide) (by rfl) (pa_cons (pv 1) pa_nil)) (pe_cd c_signed hr (by decide) (by rfl) (pa_cons (pv 2) pa_nil)) (nomark _)))) pss_nil)
      (pss_cons (ps_if (pt_cmpR op_eq (pv 0) pe_str (nomark _)) (pss_one (ps_ret (pe_cmpR op_lt (pv 1) (pv 2) (nomark _)))) pss_nil)
      (pss_one (ps_ret (pe_cmpR op_ge (pv 1) (pv 2) (nomark _))))))))), ?_⟩
  simp only [tab6, List.mem_cons, Prod.mk.injEq, List.not_mem_nil, or_false] at hm
  rcases hm with ⟨rfl, rfl⟩ | ⟨rfl, rfl⟩ | ⟨rfl, rfl⟩ | ⟨rfl, rfl⟩ | ⟨rfl, rfl⟩ | ⟨rfl, rfl⟩
  all_goals
    walk_at "wd"
    exact q
theorem pow2_lt {n : Nat} (h : n < 32) : (0 : Int) < 2 ^ n ∧ (2 : Int) ^ n < 4294967296 := (by decide : ∀ n : _root_.Fin 32, (0 : Int) < 2 ^ n.val ∧ (2 : Int) ^ n.val < 4294967296) ⟨n, h⟩
def spVal : Sp := fun vs H Q _ => ∃ (d : Addr), vs = [.ref d] ∧ DrawAt H d ∧ ∀ (r : Int) H', W r → DrawAt H' d → But d H H' → Q (.int r) H'
theorem w_take {H : Hp} {Q : VK} {E : XK} {d : Addr} {m : Int} (hd : DrawAt H d) (h0 : 0 < m) (h1 : m ≤ 4294967296) (q : ∀ (r : Int) H', 0 ≤ r → r < m → DrawAt H' d → But d H H' → Q (.int r) H') : spTake [.ref d, .int m] H Q E := ⟨d, m, rfl, hd, h0, h1, q⟩
theorem ok_value (c_law_take : Cd P w K mg base 1 "_law_take" spTake) (Z : St1 K mg "_law_value" s_law_value ["draw"]) : Cd P w K mg base 2 "_law_value" spVal := by
  refine Z.cd sc_law_value (fun vs H Q E h => by obtain ⟨d, rfl, _⟩ := h; rfl) (fun f cdv A outer s H vs Q E hr h => ?_)
  obtain ⟨d, rfl, hd, q⟩ := h
  refine ⟨_, (pss_cons (ps_set (i := 1) sc_law_value.nd rfl (.inl rfl) (pe_cd c_law_take hr (by decide) (by rfl) (pa_cons (pv 0) (pa_cons pe_int pa_nil))))
      (pss_cons (ps_if (pt_cmpR op_lt (pv 1) pe_int (nomark _)) (pss_one (ps_ret (pe_ix ix_list (pe_lst (pa_cons pe_int (pa_cons pe_int (pa_cons (pe_op op_sub (pe_op op_pow pe_int pe_int) pe_int) (pa_cons (pe_op op_pow pe_int pe_int) (pa_cons (pe_op op_sub (pe_op op_pow pe_int pe_int) pe_int) (pa_cons (pe_op op_add (pe_op op_pow pe_int pe_int) pe_int) pa_nil))))))) (pv 1) (fun _ _ => rfl)))) pss_nil)
      (pss_cons (ps_if (pt_cmpR op_eq (pv 1) pe_int (nomark _)) (pss_one (ps_ret (pe_cd c_law_take hr (by decide) (by rfl) (pa_cons (pv 0) (pa_cons pe_int pa_nil))))) pss_nil)
      (pss_cons (ps_if (pt_cmpR op_eq (pv 1) pe_int (nomark _)) (pss_one (ps_ret (pe_op op_shl pe_int (pe_cd c_law_take hr (by decide) (by rfl) (pa_cons (pv 0) (pa_cons pe_int pa_nil)))))) pss_nil)
      (pss_one (ps_ret (pe_cd c_law_take hr (by decide) (by rfl) (pa_cons (pv 0) (pa_cons (pe_op op_pow pe_int pe_int) pa_nil))))))))), ?_⟩
  walk_at "ws"
  refine w_take hd (by decide) (by decide) fun k H1 k0 k1 hd1 b1 => ?_
  walk_at "ws"
  refine w_dec (fun e => ?_) (fun e => ?_)
  · walk_at "ws"
    refine w_kLst (by decide) fun p H2 np sm hp => ?_
    walk_at "ws"
    have hd2 := hd1.same sm
    have hk : k = 0 ∨ k = 1 ∨ k = 2 ∨ k = 3 ∨ k = 4 ∨ k = 5 := by omega
    rcases hk with rfl | rfl | rfl | rfl | rfl | rfl
    all_goals
      refine w_ixL hp rfl ?_
      exact q _ _ (by constructor <;> decide) hd2 (b1.trans (.of sm))
  · walk_at "ws"
    refine w_dec (fun e => ?_) (fun e => ?_)
    · walk_at "ws"
      refine w_take hd1 (by decide) (by decide) fun r H2 r0 r1 hd2 b2 => ?_
      exact q r H2 ⟨r0, by omega⟩ hd2 (b1.trans b2)
    · walk_at "ws"
      refine w_dec (fun e => ?_) (fun e => ?_)
      · walk_at "ws"
        refine w_take hd1 (by decide) (by decide) fun r H2 r0 r1 hd2 b2 => ?_
        walk_at "ws"
        have z := pow2_lt (n := r.toNat) (by omega)
        exact q _ H2 ⟨by omega, by omega⟩ hd2 (b1.trans b2)
      · walk_at "ws"
        refine w_take hd1 (by decide) (by decide) fun r H2 r0 r1 hd2 b2 => ?_
        exact q r H2 ⟨r0, r1⟩ hd2 (b1.trans b2)
end
end K01

namespace K01
theorem tbI (a i : Nat) : (a : Int) / (1 * 2 ^ (i : Int).toNat) % 2 = ((a.testBit i).toNat : Int) := by
  have e : (1 * 2 ^ (i : Int).toNat : Int) = ((2 ^ i : Nat) : Int) := by simp
  rw [e, Nat.toNat_testBit]
  norm_cast
theorem mod_step (z i : Nat) : z % 2 ^ (i + 1) = z % 2 ^ i + (if z.testBit i then 2 ^ i else 0) := by
  rw [Nat.testBit_eq_decide_div_mod_eq]
  have h : z % (2 ^ i * 2) = z % 2 ^ i + 2 ^ i * (z / 2 ^ i % 2) := Nat.mod_mul
  rw [Nat.pow_succ, h]
  have h2 : z / 2 ^ i % 2 < 2 := Nat.mod_lt _ (by decide)
  by_cases c : z / 2 ^ i % 2 = 1
  · rw [c]; simp
  · have c0 : z / 2 ^ i % 2 = 0 := by omega
    rw [c0]; simp
def bitTab : List (Str × (Int → Int → Int)) := [("and", dAnd), ("or", dOr), ("xor", dXor)]
def bcond (op : Str) (b : Int) : Bool := (decide (op = "and") && decide (b = 2)) || (decide (op = "or") && decide (0 < b)) || (decide (op = "xor") && decide (b = 1))
theorem bAnd (a b : Nat) : Builtin.bitAnd (a : Int) (b : Int) = ((a &&& b : Nat) : Int) := bitAnd_pp (Int.natCast_nonneg _) (Int.natCast_nonneg _)
theorem bOr (a b : Nat) : Builtin.bitOr (a : Int) (b : Int) = ((a ||| b : Nat) : Int) := by
  rw [bitOr_and, bAnd]
  have := nat_or_add_and a b
  omega
theorem nat_xor_and (a : Nat) : ∀ b : Nat, (a ^^^ b) + 2 * (a &&& b) = a + b := by
  induction a using Nat.strongRecOn with
  | ind a ih =>
    intro b
    by_cases h : a = 0
    · subst h; simp
    · have e1 := ih (a / 2) (by omega) (b / 2)
      have x1 : (a ^^^ b) / 2 = a / 2 ^^^ b / 2 := Nat.xor_div_two
      have x2 : (a &&& b) / 2 = a / 2 &&& b / 2 := Nat.and_div_two
      have m1 : (a ^^^ b) % 2 = (a + b) % 2 := by
        have t0 := Nat.testBit_xor a b 0
        simp only [Nat.testBit_zero] at t0
        have ha : a % 2 = 0 ∨ a % 2 = 1 := by omega
        have hb : b % 2 = 0 ∨ b % 2 = 1 := by omega
        have hx : (a ^^^ b) % 2 = 0 ∨ (a ^^^ b) % 2 = 1 := by omega
        rcases ha with ha | ha <;> rcases hb with hb | hb <;> rcases hx with hx | hx <;> rw [ha, hb, hx] at t0 <;> first | omega | exact absurd t0 (by decide)
      have m2 : (a &&& b) % 2 = if a % 2 = 1 ∧ b % 2 = 1 then 1 else 0 := by
        by_cases c : a % 2 = 1 ∧ b % 2 = 1
        · rw [if_pos c]; exact Nat.and_mod_two_eq_one.mpr c
        · rw [if_neg c]
          have := mt Nat.and_mod_two_eq_one.mp c
          omega
      split at m2 <;> omega
theorem bXor (a b : Nat) : Builtin.bitXor (a : Int) (b : Int) = ((a ^^^ b : Nat) : Int) := by
  rw [bitXor_and, bAnd]
  have := nat_xor_and a b
  omega
theorem bc_and (n : Int) : bcond "and" n = decide (n = 2) := by
  unfold bcond
  rw [show decide (("and" : Str) = "and") = true from by decide, show decide (("and" : Str) = "or") = false from by decide, show decide (("and" : Str) = "xor") = false from by decide]
  simp
theorem bc_or (n : Int) : bcond "or" n = decide (0 < n) := by
  unfold bcond
  rw [show decide (("or" : Str) = "and") = false from by decide, show decide (("or" : Str) = "or") = true from by decide, show decide (("or" : Str) = "xor") = false from by decide]
  simp
theorem bc_xor (n : Int) : bcond "xor" n = decide (n = 1) := by
  unfold bcond
  rw [show decide (("xor" : Str) = "and") = false from by decide, show decide (("xor" : Str) = "or") = false from by decide, show decide (("xor" : Str) = "xor") = true from by decide]
  simp
theorem bit_case {op : Str} {g : Int → Int → Int} (h : (op, g) ∈ bitTab) {x y : Int} (hx : W x) (hy : W y) : ∃ a b z : Nat, x = a ∧ y = b ∧ g x y = z ∧ z < 2 ^ 32 ∧ ∀ i, bcond op (((a.testBit i).toNat : Int) + ((b.testBit i).toNat : Int)) = z.testBit i := by
  obtain ⟨a, rfl⟩ := Int.eq_ofNat_of_zero_le hx.1
  obtain ⟨b, rfl⟩ := Int.eq_ofNat_of_zero_le hy.1
  have ha : a < 2 ^ 32 := by have := hx.2; omega
  have hb : b < 2 ^ 32 := by have := hy.2; omega
  simp only [bitTab, List.mem_cons, Prod.mk.injEq, List.not_mem_nil, or_false] at h
  rcases h with ⟨rfl, rfl⟩ | ⟨rfl, rfl⟩ | ⟨rfl, rfl⟩
  · refine ⟨a, b, a &&& b, rfl, rfl, bAnd a b, Nat.and_lt_two_pow _ hb, fun i => ?_⟩
    rw [Nat.testBit_and]
    cases a.testBit i <;> cases b.testBit i <;> decide
  · refine ⟨a, b, a ||| b, rfl, rfl, bOr a b, Nat.or_lt_two_pow ha hb, fun i => ?_⟩
    rw [Nat.testBit_or]
    cases a.testBit i <;> cases b.testBit i <;> decide
  · refine ⟨a, b, a ^^^ b, rfl, rfl, bXor a b, Nat.xor_lt_two_pow ha hb, fun i => ?_⟩
    rw [Nat.testBit_xor]
    cases a.testBit i <;> cases b.testBit i <;> decide
def spBits : Sp := fun vs H Q _ => ∃ (op : Str) (g : Int → Int → Int) (x y : Int), vs = [.str op, .int x, .int y] ∧ (op, g) ∈ bitTab ∧ W x ∧ W y ∧ Q (.int (g x y)) H
section
variable {P : Program} {w : World} {K : PySem.W.Frag} {mg : Str → Option Value} {base : Heap}
theorem ok_bits (b_range : mg "range" = none) (Z : St1 K mg "_law_bits" s_law_bits ["op", "x", "y"]) : Cd P w K mg base 1 "_law_bits" spBits := by
  have T : mg "range" = none := b_range
  refine Z.cd sc_law_bits (fun vs H Q E h => by obtain ⟨op, g, x, y, rfl, _⟩ := h; rfl) (fun f cdv A outer s H vs Q E hr h => ?_)
  obtain ⟨op, g, x, y, rfl, hm, hx, hy, q⟩ := h
  obtain ⟨a, b, z, rfl, rfl, hz, hz2, hb⟩ := bit_case hm hx hy
  refine ⟨_, (pss_cons (ps_set (i := 3) sc_law_bits.nd rfl (.inl rfl) pe_int)
      (pss_cons (ps_for PassesOwn.never rfl (pi_range1 (by rfl) b_range (pa_cons pe_int pa_nil)) (pg_name (i := 4) sc_law_bits.nd rfl (.inl rfl))
      (pss_cons (ps_set (i := 5) sc_law_bits.nd rfl (.inl rfl) (pe_op op_add (pe_op op_mod (pe_op op_fdivW (pv 1) (pe_op op_shl pe_int (pv 4))) pe_int) (pe_op op_mod (pe_op op_fdivW (pv 2) (pe_op op_shl pe_int (pv 4))) pe_int)))
      (pss_one (ps_if (PW.pt (pw_or (PW.pt (pw_and (pt_cmpR op_eq (pv 0) pe_str (nomark _)) (pw_and1 (pt_cmpR op_eq (pv 5) pe_int (nomark _))))) (pw_or (PW.pt (pw_and (pt_cmpR op_eq (pv 0) pe_str (nomark _)) (pw_and1 (pt_cmpR op_gt (pv 5) pe_int (nomark _))))) (pw_or1 (PW.pt (pw_and (pt_cmpR op_eq (pv 0) pe_str (nomark _)) (pw_and1 (pt_cmpR op_eq (pv 5) pe_int (nomark _))))))))) (pss_one (ps_set (i := 3) sc_law_bits.nd rfl (.inl rfl) (pe_op op_add (pv 3) (pe_op op_shl pe_int (pv 4))))) pss_nil))))
      (pss_one (ps_ret (pv 3))))), ?_⟩
  walk_at "ws"
  refine w_forR 32 (fun i σ' H' => H' = H ∧ ∃ v1 v2, σ' = [some (.str op), some (.int (a : Int)), some (.int (b : Int)), some (.int ((z % 2 ^ i : Nat) : Int)), v1, v2]) rfl (by decide) ⟨rfl, none, none, by simp [Nat.mod_one]; rfl⟩ ?_ ?_
  · rintro i σ' H' hi ⟨rfl, v1, v2, rfl⟩
    have p2 := pow2_lt (n := (i : Int).toNat) (by omega)
    have bi := hb i
    have ms := mod_step z i
    have ei : (1 * 2 ^ (i : Int).toNat : Int) = ((2 ^ i : Nat) : Int) := by simp
    simp only [bitTab, List.mem_cons, Prod.mk.injEq, List.not_mem_nil, or_false] at hm
    have fin : ∀ v1 v2 : Option V, ∀ n : Int, n = ((z % 2 ^ (i + 1) : Nat) : Int) → ∃ v1' v2' : Option V, ([some (.str op), some (.int (a : Int)), some (.int (b : Int)), some (.int n), v1, v2] : L2.St) = [some (.str op), some (.int (a : Int)), some (.int (b : Int)), some (.int ((z % 2 ^ (i + 1) : Nat) : Int)), v1', v2'] := fun v1 v2 n e => ⟨v1, v2, by rw [e]⟩
    have cy : bcond op (((a.testBit i).toNat : Int) + ((b.testBit i).toNat : Int)) = true → ((z % 2 ^ i : Nat) : Int) + 1 * 2 ^ (i : Int).toNat = ((z % 2 ^ (i + 1) : Nat) : Int) := fun c => by
      rw [c] at bi
      rw [← bi, if_pos rfl] at ms
      rw [ms, ei]
      omega
    have cn : bcond op (((a.testBit i).toNat : Int) + ((b.testBit i).toNat : Int)) = false → ((z % 2 ^ i : Nat) : Int) = ((z % 2 ^ (i + 1) : Nat) : Int) := fun c => by
      rw [c] at bi
      rw [← bi, if_neg Bool.false_ne_true] at ms
      rw [ms]
      omega
    have ba := tbI a i
    have bb := tbI b i
    walk_at "ws"
    rw [ba, bb]
    rcases hm with ⟨rfl, _⟩ | ⟨rfl, _⟩ | ⟨rfl, _⟩
    all_goals
      walk_at "wd"
      refine w_dec (fun e => ?_) (fun e => ?_)
      · walk_at "wd"
        exact ⟨rfl, fin _ _ _ (cy (by first | rw [bc_and] | rw [bc_or] | rw [bc_xor]
                                      exact decide_eq_true e))⟩
      · walk_at "wd"
        exact ⟨rfl, fin _ _ _ (cn (by first | rw [bc_and] | rw [bc_or] | rw [bc_xor]
                                      exact decide_eq_false e))⟩
  · rintro σ' H' ⟨rfl, v1, v2, rfl⟩
    walk_at "ws"
    rw [Nat.mod_eq_of_lt hz2, ← hz]
    exact q
def tab10 : List (Str × (Int → Int → Int)) := [("shl", dShl), ("shr", dShr), ("sar", dSar), ("slt", dSlt), ("sltu", dSltu), ("divu", dDivu), ("remu", dRemu), ("add", dAdd), ("sub", dSub), ("mul", dMul)]
theorem ok_due (b_int : mg "int" = none) (c_law_signed : Cd P w K mg base 1 "_law_signed" spSgn) (c_law_bits : Cd P w K mg base 1 "_law_bits" spBits) (Z : St1 K mg "_law_due" s_law_due ["op", "x", "y"]) : Cd P w K mg base 2 "_law_due" spDue := by
  refine Z.cd sc_law_due (fun vs H Q E h => by obtain ⟨op, g, x, y, rfl, _⟩ := h; rfl) (fun f cdv A outer s H vs Q E hr h => ?_)
  obtain ⟨op, g, x, y, rfl, hm, hx, hy, q⟩ := h
  refine ⟨_, (pss_cons (ps_set (i := 3) sc_law_due.nd rfl (.inl rfl) (pe_op op_mod (pe_callTy call_intQ (by rfl) b_int (by decide +kernel) (pa_cons (pv 2) pa_nil)) pe_int))
      (pss_cons (ps_if (pt_cmpR op_in_seq (pv 0) (pe_lst (pa_cons pe_str (pa_cons pe_str (pa_cons pe_str pa_nil)))) rfl) (pss_one (ps_ret (pe_cd c_law_bits hr (by decide) (by rfl) (pa_cons (pv 0) (pa_cons (pv 1) (pa_cons (pv 2) pa_nil)))))) pss_nil)
      (pss_cons (ps_if (pt_cmpR op_eq (pv 0) pe_str (nomark _)) (pss_one (ps_ret (pe_op op_mod (pe_callTy call_intQ (by rfl) b_int (by decide +kernel) (pa_cons (pe_op op_mul (pv 1) (pe_op op_shl pe_int (pv 3))) pa_nil)) (pe_op op_pow pe_int pe_int)))) pss_nil)
      (pss_cons (ps_if (pt_cmpR op_eq (pv 0) pe_str (nomark _)) (pss_one (ps_ret (pe_op op_fdivW (pv 1) (pe_op op_shl pe_int (pv 3))))) pss_nil)
      (pss_cons (ps_if (pt_cmpR op_eq (pv 0) pe_str (nomark _)) (pss_one (ps_ret (pe_op op_mod (pe_callTy call_intQ (by rfl) b_int (by decide +kernel) (pa_cons (pe_op op_fdivW (pe_cd c_law_signed hr (by decide) (by rfl) (pa_cons (pv 1) pa_nil)) (pe_op op_shl pe_int (pv 3))) pa_nil)) (pe_op op_pow pe_int pe_int)))) pss_nil)
      (pss_cons (ps_if (pt_cmpR op_eq (pv 0) pe_str (nomark _)) (pss_one (ps_ret (pe_ifExp (pt_cmpR op_lt (pe_cd c_law_signed hr (by decide) (by rfl) (pa_cons (pv 1) pa_nil)) (pe_cd c_law_signed hr (by decide) (by rfl) (pa_cons (pv 2) pa_nil)) (nomark _)) pe_int pe_int))) pss_nil)
      (pss_cons (ps_if (pt_cmpR op_eq (pv 0) pe_str (nomark _)) (pss_one (ps_ret (pe_ifExp (pt_cmpR op_lt (pv 1) (pv 2) (nomark _)) pe_int pe_int))) pss_nil)
      (pss_cons (ps_if (pt_cmpR op_eq (pv 0) pe_str (nomark _)) (pss_one (ps_ret (pe_ifExp (pt_cmpR op_eq (pv 2) pe_int (nomark _)) (pe_op op_sub (pe_op op_pow pe_int pe_int) pe_int) (pe_op op_fdivW (pv 1) (pv 2))))) pss_nil)
      (pss_cons (ps_if (pt_cmpR op_eq (pv 0) pe_str (nomark _)) (pss_one (ps_ret (pe_ifExp (pt_cmpR op_eq (pv 2) pe_int (nomark _)) (pv 1) (pe_op op_sub (pv 1) (pe_op op_mul (pv 2) (pe_op op_fdivW (pv 1) (pv 2))))))) pss_nil)
      (pss_cons (ps_if (pt_cmpR op_eq (pv 0) pe_str (nomark _)) (pss_one (ps_ret (pe_op op_mod (pe_callTy call_intQ (by rfl) b_int (by decide +kernel) (pa_cons (pe_op op_add (pv 1) (pv 2)) pa_nil)) (pe_op op_pow pe_int pe_int)))) pss_nil)
      (pss_cons (ps_if (pt_cmpR op_eq (pv 0) pe_str (nomark _)) (pss_one (ps_ret (pe_op op_mod (pe_callTy call_intQ (by rfl) b_int (by decide +kernel) (pa_cons (pe_op op_sub (pv 1) (pv 2)) pa_nil)) (pe_op op_pow pe_int pe_int)))) pss_nil)
      (pss_one (ps_ret (pe_op op_mod (pe_callTy call_intQ (by rfl) b_int (by decide +kernel) (pa_cons (pe_op op_mul (pv 1) (pv 2)) pa_nil)) (pe_op op_pow pe_int pe_int))))))))))))))), ?_⟩
  walk_at "ws"
  refine w_kLst (by decide) fun p H1 np sm hp => ?_
  have qq := q _ sm
  have x0 := hx.1
  have x1 := hx.2
  have y0 := hy.1
  have y1 := hy.2
  have m0 : 0 ≤ y % 32 := Int.emod_nonneg _ (by decide)
  have m1 : y % 32 < 32 := Int.emod_lt_of_pos _ (by decide)
  have p2 := pow2_lt (n := (y % 32).toNat) (by omega)
  have e1 : (1 * 2 ^ (y % 32).toNat : Int) = 2 ^ (y % 32).toNat := Int.one_mul _
  simp only [tab13, List.mem_cons, Prod.mk.injEq, List.not_mem_nil, or_false] at hm
  rcases hm with ⟨rfl, rfl⟩ | ⟨rfl, rfl⟩ | ⟨rfl, rfl⟩ | ⟨rfl, rfl⟩ | ⟨rfl, rfl⟩ | ⟨rfl, rfl⟩ | ⟨rfl, rfl⟩ | ⟨rfl, rfl⟩ | ⟨rfl, rfl⟩ | ⟨rfl, rfl⟩ | ⟨rfl, rfl⟩ | ⟨rfl, rfl⟩ | ⟨rfl, rfl⟩
  all_goals first
    | (refine w_inL (b := true) hp rfl rfl (by decide +kernel) ?_
       walk_at "wd"
       refine ⟨_, _, _, _, rfl, by simp [bitTab], hx, hy, qq⟩)
    | (refine w_inL (b := false) hp rfl rfl (by decide +kernel) ?_
       walk_at "wd")
  · exact qq
  · exact qq
  · exact qq
  · rw [e1]; exact qq
  · rw [e1]; exact qq
  · rw [e1]; exact qq
  · refine w_dec (fun e => ?_) (fun e => ?_)
    · walk_at "ws"
      simpa only [dSlt, if_pos e] using qq
    · walk_at "ws"
      simpa only [dSlt, if_neg e] using qq
  · refine w_dec (fun e => ?_) (fun e => ?_)
    · walk_at "ws"
      simpa only [dSltu, if_pos e] using qq
    · walk_at "ws"
      simpa only [dSltu, if_neg e] using qq
  · refine w_dec (fun e => ?_) (fun e => ?_)
    · walk_at "ws"
      simp only [dDivu, if_pos e] at qq
      exact qq
    · walk_at "ws"
      simpa only [dDivu, if_neg e] using qq
  · refine w_dec (fun e => ?_) (fun e => ?_)
    · walk_at "ws"
      simpa only [dRemu, if_pos e] using qq
    · walk_at "ws"
      rw [← Int.emod_def]
      simpa only [dRemu, if_neg e] using qq
end
end K01

namespace K01
theorem sc_law : FnScope ["script", "draw", "j", "x", "y", "op", "answer", "a", "b", "rows", "due"] ["script"] (defScope s_law) := ⟨rfl, rfl, rfl, by decide +kernel, rfl, by decide +kernel, by decide +kernel⟩
def tab8b : List (Str × (Int → Int → Int)) := [("add", dAdd), ("and", dAnd), ("or", dOr), ("xor", dXor), ("shl", dShl), ("shr", dShr), ("sar", dSar), ("slt", dSlt)]
theorem tab8b_ok {op : Str} {g : Int → Int → Int} (h : (op, g) ∈ tab8b) : (op, g) ∈ tab13 ∧ (op ++ "i", g) ∈ tab8 ∧ op.length + Str.length "i" ≤ sizeLine := by
  simp only [tab8b, List.mem_cons, Prod.mk.injEq, List.not_mem_nil, or_false] at h
  rcases h with ⟨rfl, rfl⟩ | ⟨rfl, rfl⟩ | ⟨rfl, rfl⟩ | ⟨rfl, rfl⟩ | ⟨rfl, rfl⟩ | ⟨rfl, rfl⟩ | ⟨rfl, rfl⟩ | ⟨rfl, rfl⟩
  all_goals refine ⟨by simp [tab13], ?_, by decide⟩
  · rw [show (("add" : Str) ++ "i") = "addi" from by decide]; simp [tab8]
  · rw [show (("and" : Str) ++ "i") = "andi" from by decide]; simp [tab8]
  · rw [show (("or" : Str) ++ "i") = "ori" from by decide]; simp [tab8]
  · rw [show (("xor" : Str) ++ "i") = "xori" from by decide]; simp [tab8]
  · rw [show (("shl" : Str) ++ "i") = "shli" from by decide]; simp [tab8]
  · rw [show (("shr" : Str) ++ "i") = "shri" from by decide]; simp [tab8]
  · rw [show (("sar" : Str) ++ "i") = "sari" from by decide]; simp [tab8]
  · rw [show (("slt" : Str) ++ "i") = "slti" from by decide]; simp [tab8]
def spLaw (K : PySem.W.Frag) : Sp := fun vs H Q _ => ∃ (a : Addr) (ns : List Int), vs = [.ref a] ∧ SqL K H a (ns.map V.int) ∧ ns.length ≤ 63 ∧ ∀ H', Q (.bl true) H'
section
variable {P : Program} {w : World} {K : PySem.W.Frag} {mg : Str → Option Value} {base : Heap}
theorem ok_law (b_int : mg "int" = none) (b_bool : mg "bool" = none) (b_range : mg "range" = none) (b_isinstance : mg "isinstance" = none) (c_law_draw : Cd P w K mg base 1 "_law_draw" (spDraw K)) (c_law_take : Cd P w K mg base 1 "_law_take" spTake) (c_law_value : Cd P w K mg base 2 "_law_value" spVal) (c_compute : Cd P w K mg base 3 "compute" spComp) (c_law_due : Cd P w K mg base 2 "_law_due" spDue) (c_law_signed : Cd P w K mg base 1 "_law_signed" spSgn) (c_holds : Cd P w K mg base 2 "holds" spHolds) {f : Addr} {fd : FuncData} (F : Fun K "law" "law" s_law f fd) : FnOk P w K mg base CX0 4 f fd ["script"] (spLaw K) := by
  refine F.ok sc_law (fun vs H Q E h => by obtain ⟨op, g, rfl, _⟩ := h; rfl) (fun cdv A outer s H vs Q E hr h => ?_)
  obtain ⟨a, ns, rfl, hS, hlen, q⟩ := h
  refine ⟨_, (pss_cons (ps_set (i := 1) sc_law.nd rfl (.inl rfl) (pe_cd c_law_draw hr (by decide) (by rfl) (pa_cons (pv 0) pa_nil)))
      (pss_cons (ps_for PassesOwn.never rfl (pi_range1 (by rfl) b_range (pa_cons pe_int pa_nil)) (pg_name (i := 2) sc_law.nd rfl (.inl rfl))
      (pss_cons (ps_set (i := 3) sc_law.nd rfl (.inl rfl) (pe_cd c_law_value hr (by decide) (by rfl) (pa_cons (pv 1) pa_nil)))
      (pss_cons (ps_set (i := 4) sc_law.nd rfl (.inl rfl) (pe_ix ix_list (pe_lst (pa_cons (pe_cd c_law_value hr (by decide) (by rfl) (pa_cons (pv 1) pa_nil)) (pa_cons (pv 3) (pa_cons (pe_op op_mod (pe_callTy call_intQ (by rfl) b_int (by decide +kernel) (pa_cons (pe_op op_add (pv 3) pe_int) pa_nil)) (pe_op op_pow pe_int pe_int)) pa_nil)))) (pe_cd c_law_take hr (by decide) (by rfl) (pa_cons (pv 1) (pa_cons pe_int pa_nil))) (fun _ _ => rfl)))
      (Evl.pss_cut (ps_for PassesOwn.never rfl (pi_list (pe_lst (pa_cons pe_str (pa_cons pe_str (pa_cons pe_str (pa_cons pe_str (pa_cons pe_str (pa_cons pe_str (pa_cons pe_str (pa_cons pe_str (pa_cons pe_str (pa_cons pe_str (pa_cons pe_str (pa_cons pe_str (pa_cons pe_str pa_nil))))))))))))))) (pg_name (i := 5) sc_law.nd rfl (.inl rfl))
      (pss_cons (ps_set (i := 6) sc_law.nd rfl (.inl rfl) (pe_cd c_compute hr (by decide) (by rfl) (pa_cons (pv 5) (pa_cons (pv 3) (pa_cons (pv 4) pa_nil)))))
      (pss_one (ps_if (PW.pt (pw_or (pt_cmpR op_ne (pv 6) (pe_cd c_law_due hr (by decide) (by rfl) (pa_cons (pv 5) (pa_cons (pv 3) (pa_cons (pv 4) pa_nil)))) (nomark _)) (pw_or (pt_val (pe_callB call_isi (by rfl) b_isinstance (by decide +kernel) (pa_cons (pv 6) (pa_cons (pe_bltn (v := .ty "bool") (by rfl) b_bool (by decide +kernel) rfl) pa_nil)))) (pw_or1 (pt_not (pt_val (pe_callB call_isi (by rfl) b_isinstance (by decide +kernel) (pa_cons (pv 6) (pa_cons (pe_bltn (v := .ty "int") (by rfl) b_int (by decide +kernel) rfl) pa_nil))))))))) (pss_one (ps_ret pe_bl)) pss_nil))))
      (Evl.pss_cut (ps_for PassesOwn.never rfl (pi_list (pe_lst (pa_cons pe_str (pa_cons pe_str (pa_cons pe_str (pa_cons pe_str (pa_cons pe_str (pa_cons pe_str (pa_cons pe_str (pa_cons pe_str pa_nil)))))))))) (pg_name (i := 5) sc_law.nd rfl (.inl rfl))
      (pss_one (ps_if (pt_cmpR op_ne (pe_cd c_compute hr (by decide) (by rfl) (pa_cons (pe_op op_addSQ (pv 5) pe_str) (pa_cons (pv 3) (pa_cons (pv 4) pa_nil)))) (pe_cd c_law_due hr (by decide) (by rfl) (pa_cons (pv 5) (pa_cons (pv 3) (pa_cons (pv 4) pa_nil)))) (nomark _)) (pss_one (ps_ret pe_bl)) pss_nil)))
      (pss_cons (ps_set (i := 7) sc_law.nd rfl (.inl rfl) (pe_cd c_law_signed hr (by decide) (by rfl) (pa_cons (pv 3) pa_nil)))
      (pss_cons (ps_set (i := 8) sc_law.nd rfl (.inl rfl) (pe_cd c_law_signed hr (by decide) (by rfl) (pa_cons (pv 4) pa_nil)))
      (pss_cons (ps_set (i := 9) sc_law.nd rfl (.inl rfl) (pe_lst (pa_cons (pe_tup (pa_cons pe_str (pa_cons (pe_cmpR op_eq (pv 3) (pv 4) (nomark _)) pa_nil))) (pa_cons (pe_tup (pa_cons pe_str (pa_cons (pe_cmpR op_ne (pv 3) (pv 4) (nomark _)) pa_nil))) (pa_cons (pe_tup (pa_cons pe_str (pa_cons (pe_cmpR op_lt (pv 7) (pv 8) (nomark _)) pa_nil))) (pa_cons (pe_tup (pa_cons pe_str (pa_cons (pe_cmpR op_ge (pv 7) (pv 8) (nomark _)) pa_nil))) (pa_cons (pe_tup (pa_cons pe_str (pa_cons (pe_cmpR op_lt (pv 3) (pv 4) (nomark _)) pa_nil))) (pa_cons (pe_tup (pa_cons pe_str (pa_cons (pe_cmpR op_ge (pv 3) (pv 4) (nomark _)) pa_nil))) pa_nil))))))))
      (pss_one (ps_for PassesOwn.never rfl (pi_list (pv 9)) (pg_tup rfl (pgs_cons (pg_name (i := 5) sc_law.nd rfl (.inl rfl)) (pgs_cons (pg_name (i := 10) sc_law.nd rfl (.inl rfl)) pgs_nil)))
      (pss_one (ps_if (pt_ifExp (pt_val (pv 10)) (pt_cmpR op_notBl (pe_cd c_holds hr (by decide) (by rfl) (pa_cons (pv 5) (pa_cons (pv 3) (pa_cons (pv 4) pa_nil)))) pe_bl (nomark _)) (pt_cmpR op_notBl (pe_cd c_holds hr (by decide) (by rfl) (pa_cons (pv 5) (pa_cons (pv 3) (pa_cons (pv 4) pa_nil)))) pe_bl (nomark _))) (pss_one (ps_ret pe_bl)) pss_nil))))))))))))
      (pss_one (ps_ret pe_bl)))), ?_⟩
  walk_at "ws"
  refine ⟨a, ns, rfl, hS, hlen, fun d H1 _ _ hd => ?_⟩
  walk_at "ws"
  refine w_forR 4 (fun i σ' H' => DrawAt H' d ∧ ∃ r : L2.St, σ' = some (.ref a) :: some (.ref d) :: r ∧ r.length = 9) rfl (by decide) ⟨hd, _, rfl, rfl⟩ ?_ ?_
  · rintro i σ1 H2 _ ⟨hd2, r, rfl, hr9⟩
    obtain ⟨r1, r2, r3, r4, r5, r6, r7, r8, r9, rfl⟩ : ∃ r1 r2 r3 r4 r5 r6 r7 r8 r9, r = [r1, r2, r3, r4, r5, r6, r7, r8, r9] := by
      match r, hr9 with
      | [r1, r2, r3, r4, r5, r6, r7, r8, r9], _ => exact ⟨_, _, _, _, _, _, _, _, _, rfl⟩
    walk_at "ws"
    refine ⟨d, rfl, hd2, fun x H3 hx hd3 b3 => ?_⟩
    walk_at "ws"
    refine ⟨d, rfl, hd3, fun y H4 hy hd4 b4 => ?_⟩
    walk_at "ws"
    refine w_kLst (by show 3 ≤ sizeLine; decide) fun p H4' np sm4 hp4 => ?_
    walk_at "ws"
    refine w_take (hd4.same sm4) (by decide) (by decide) fun k H5 k0 k1 hd5 b5 => ?_
    have np' : p ≠ d := by
      obtain ⟨c, cs, i, cur, seed, e, _⟩ := hd4
      exact (ne_of_none e np).symm
    have hp5 := b5 p _ np' hp4
    obtain ⟨y', hy', hk⟩ : ∃ y', W y' ∧ atI [V.int y, V.int x, V.int ((x + 1) % 4294967296)] k = some (.int y') := by
      have e : k = 0 ∨ k = 1 ∨ k = 2 := by omega
      rcases e with rfl | rfl | rfl
      · exact ⟨y, hy, rfl⟩
      · exact ⟨x, hx, rfl⟩
      · exact ⟨_, ⟨Int.emod_nonneg _ (by decide), Int.emod_lt_of_pos _ (by decide)⟩, rfl⟩
    refine w_ixL hp5 hk ?_
    walk_at "ws"
    clear hp5 hk np' np b5 hd4 b4 hd3 b3 hd2
    -- the thirteen ops
    refine Evl.q_cut (M := fun σ' H' => DrawAt H' d ∧ ∃ s3 s6 s7 s8 s9 s10 s11, σ' = [some (.ref a), some (.ref d), s3, some (.int x), some (.int y'), s6, s7, s8, s9, s10, s11]) ?_ ?_
    · walk_at "ws"
      refine w_kLst (xs := tab13.map fun e => V.str e.1) (by show 13 ≤ sizeLine; decide) fun p1 H1' np1 sm1 hp1 => ?_
      refine w_forL (tab13.map fun e => V.str e.1) (fun i σ' H' => Same H1' H' ∧ ∃ s3 s6 s7 s8 s9 s10 s11, σ' = [some (.ref a), some (.ref d), s3, some (.int x), some (.int y'), s6, s7, s8, s9, s10, s11]) (.of hp1) ⟨Same.refl _, _, _, _, _, _, _, _, rfl⟩ (fun i σ' H' _ ⟨sm, _⟩ => .of (sm _ _ hp1)) ?_ ?_
      · rintro i o σ' H' ho ⟨sm, s3, s6, s7, s8, s9, s10, s11, rfl⟩
        obtain ⟨⟨op, g⟩, hm, _, rfl⟩ := map_get' ho
        walk_at "ws"
        refine ⟨op, g, x, y', rfl, List.mem_append_left _ hm, hx, hy', ?_⟩
        walk_at "ws"
        refine ⟨op, g, x, y', rfl, hm, hx, hy', fun H6 sm6 => ?_⟩
        walk_at "wr"
        exact ⟨sm.trans sm6, _, _, _, _, _, _, _, rfl⟩
      · rintro σ' H' ⟨sm, s3, s6, s7, s8, s9, s10, s11, rfl⟩
        exact ⟨hd5.same (sm1.trans sm), _, _, _, _, _, _, _, rfl⟩
    · rintro σ' H6 ⟨hd6, s3, s6, s7, s8, s9, s10, s11, rfl⟩
      refine Evl.q_cut (M := fun σ' H' => DrawAt H' d ∧ ∃ s3 s6 s7 s8 s9 s10 s11, σ' = [some (.ref a), some (.ref d), s3, some (.int x), some (.int y'), s6, s7, s8, s9, s10, s11]) ?_ ?_
      · walk_at "ws"
        refine w_kLst (xs := tab8b.map fun e => V.str e.1) (by show 8 ≤ sizeLine; decide) fun p1 H1' np1 sm1 hp1 => ?_
        refine w_forL (tab8b.map fun e => V.str e.1) (fun i σ' H' => Same H1' H' ∧ ∃ s3 s6 s7 s8 s9 s10 s11, σ' = [some (.ref a), some (.ref d), s3, some (.int x), some (.int y'), s6, s7, s8, s9, s10, s11]) (.of hp1) ⟨Same.refl _, _, _, _, _, _, _, _, rfl⟩ (fun i σ' H' _ ⟨sm, _⟩ => .of (sm _ _ hp1)) ?_ ?_
        · rintro i o σ' H' ho ⟨sm, s3, s6, s7, s8, s9, s10, s11, rfl⟩
          obtain ⟨⟨op, g⟩, hm, _, rfl⟩ := map_get' ho
          obtain ⟨m13, m8, ml⟩ := tab8b_ok hm
          walk_at "ws"
          refine w_addS ml ?_
          walk_at "ws"
          refine ⟨op ++ "i", g, x, y', rfl, List.mem_append_right _ m8, hx, hy', ?_⟩
          walk_at "ws"
          refine ⟨op, g, x, y', rfl, m13, hx, hy', fun H6 sm6 => ?_⟩
          walk_at "wr"
          exact ⟨sm.trans sm6, _, _, _, _, _, _, _, rfl⟩
        · rintro σ' H' ⟨sm, s3, s6, s7, s8, s9, s10, s11, rfl⟩
          exact ⟨hd6.same (sm1.trans sm), _, _, _, _, _, _, _, rfl⟩
      · rintro σ' H7 ⟨hd7, s3, s6, s7, s8, s9, s10, s11, rfl⟩
        walk_at "ws"
        refine w_kTup (by show 2 ≤ sizeLine; decide) fun t1 G1 n1 m1 h1 => ?_
        walk_at "ws"
        refine w_kTup (by show 2 ≤ sizeLine; decide) fun t2 G2 n2 m2 h2 => ?_
        walk_at "ws"
        refine w_kTup (by show 2 ≤ sizeLine; decide) fun t3 G3 n3 m3 h3 => ?_
        walk_at "ws"
        refine w_kTup (by show 2 ≤ sizeLine; decide) fun t4 G4 n4 m4 h4 => ?_
        walk_at "ws"
        refine w_kTup (by show 2 ≤ sizeLine; decide) fun t5 G5 n5 m5 h5 => ?_
        walk_at "ws"
        refine w_kTup (by show 2 ≤ sizeLine; decide) fun t6 G6 n6 m6 h6 => ?_
        walk_at "ws"
        refine w_kLst (by show 6 ≤ sizeLine; decide) fun p G n m hp => ?_
        walk_at "ws"
        have g5 := h5
        replace h5 := m _ _ (m6 _ _ h5)
        replace h4 := m _ _ (m6 _ _ (m5 _ _ h4))
        replace h3 := m _ _ (m6 _ _ (m5 _ _ (m4 _ _ h3)))
        replace h2 := m _ _ (m6 _ _ (m5 _ _ (m4 _ _ (m3 _ _ h2))))
        replace h1 := m _ _ (m6 _ _ (m5 _ _ (m4 _ _ (m3 _ _ (m2 _ _ h1)))))
        replace h6 := m _ _ h6
        have sm0 : Same H7 G := m1.trans (m2.trans (m3.trans (m4.trans (m5.trans (m6.trans m)))))
        refine w_forL [.ref t1, .ref t2, .ref t3, .ref t4, .ref t5, .ref t6] (fun i σ' H' => H' = G ∧ ∃ s3 s6 s7 s8 s9 s10 s11, σ' = [some (.ref a), some (.ref d), s3, some (.int x), some (.int y'), s6, s7, s8, s9, s10, s11]) (.of hp) ⟨rfl, _, _, _, _, _, _, _, rfl⟩ (fun i σ' H' _ ⟨e, _⟩ => .of (by rw [e]; exact hp)) ?_ ?_
        · rintro i o σ' H' ho ⟨rfl, s3, s6, s7, s8, s9, s10, s11, rfl⟩
          obtain ⟨t, op, g, hm, rfl, ht⟩ : ∃ t op g, (op, g) ∈ tab6 ∧ o = .ref t ∧ H' t = some (.tup [.str op, .bl (g x y')]) := by
            have hi : i < 6 := (List.getElem?_eq_some_iff.mp ho).1
            have e : i = 0 ∨ i = 1 ∨ i = 2 ∨ i = 3 ∨ i = 4 ∨ i = 5 := by omega
            rcases e with rfl | rfl | rfl | rfl | rfl | rfl
            · exact ⟨t1, "beq", fun x y => decide (x = y), by simp [tab6], (Option.some.inj ho).symm, h1⟩
            · exact ⟨t2, "bne", fun x y => !decide (x = y), by simp [tab6], (Option.some.inj ho).symm, h2⟩
            · exact ⟨t3, "blt", fun x y => decide (sgn x < sgn y), by simp [tab6], (Option.some.inj ho).symm, h3⟩
            · exact ⟨t4, "bge", fun x y => decide (sgn y ≤ sgn x), by simp [tab6], (Option.some.inj ho).symm, h4⟩
            · exact ⟨t5, "bltu", fun x y => decide (x < y), by simp [tab6], (Option.some.inj ho).symm, h5⟩
            · exact ⟨t6, "bgeu", fun x y => decide (y ≤ x), by simp [tab6], (Option.some.inj ho).symm, h6⟩
          walk_at "ws"
          refine w_bool (fun e => ?_) (fun e => ?_)
          · walk_at "ws"
            refine ⟨op, g, x, y', rfl, hm, hx, hy', ?_⟩
            walk_at "ws"
            refine w_ndecF e ?_
            walk_at "ws"
            exact ⟨rfl, _, _, _, _, _, _, _, rfl⟩
          · walk_at "ws"
            refine ⟨op, g, x, y', rfl, hm, hx, hy', ?_⟩
            walk_at "ws"
            refine w_ndecF e ?_
            walk_at "ws"
            exact ⟨rfl, _, _, _, _, _, _, _, rfl⟩
        · rintro σ' H' ⟨rfl, s3, s6, s7, s8, s9, s10, s11, rfl⟩
          exact ⟨hd7.same sm0, _, rfl, rfl⟩
  · rintro σ' H' ⟨hd, r, rfl, _⟩
    walk_at "ws"
    exact q _
end
end K01

namespace K01
theorem all_mk {l : PySem.W.OpenLaw} {w : World} {K : PySem.W.Frag} {h : Heap} {mg : Str → Option Value} {fa : Addr} (X : K.In h) (G : h.Ns mainGlobals mg) (hfa : mg "law" = some (.ref fa))
    {f_signed : Addr} {od_signed an_signed : Option Addr} {sl_signed : Array (Option Value)} {oc_signed kV_signed dc_signed pm_signed cd_signed ct_signed : Value}
    {f_add : Addr} {od_add an_add : Option Addr} {sl_add : Array (Option Value)} {oc_add kV_add dc_add pm_add cd_add ct_add : Value}
    {f_sub : Addr} {od_sub an_sub : Option Addr} {sl_sub : Array (Option Value)} {oc_sub kV_sub dc_sub pm_sub cd_sub ct_sub : Value}
    {f_mul : Addr} {od_mul an_mul : Option Addr} {sl_mul : Array (Option Value)} {oc_mul kV_mul dc_mul pm_mul cd_mul ct_mul : Value}
    {f_and : Addr} {od_and an_and : Option Addr} {sl_and : Array (Option Value)} {oc_and kV_and dc_and pm_and cd_and ct_and : Value}
    {f_or : Addr} {od_or an_or : Option Addr} {sl_or : Array (Option Value)} {oc_or kV_or dc_or pm_or cd_or ct_or : Value}
    {f_xor : Addr} {od_xor an_xor : Option Addr} {sl_xor : Array (Option Value)} {oc_xor kV_xor dc_xor pm_xor cd_xor ct_xor : Value}
    {f_shl : Addr} {od_shl an_shl : Option Addr} {sl_shl : Array (Option Value)} {oc_shl kV_shl dc_shl pm_shl cd_shl ct_shl : Value}
    {f_shr : Addr} {od_shr an_shr : Option Addr} {sl_shr : Array (Option Value)} {oc_shr kV_shr dc_shr pm_shr cd_shr ct_shr : Value}
    {f_sar : Addr} {od_sar an_sar : Option Addr} {sl_sar : Array (Option Value)} {oc_sar kV_sar dc_sar pm_sar cd_sar ct_sar : Value}
    {f_slt : Addr} {od_slt an_slt : Option Addr} {sl_slt : Array (Option Value)} {oc_slt kV_slt dc_slt pm_slt cd_slt ct_slt : Value}
    {f_sltu : Addr} {od_sltu an_sltu : Option Addr} {sl_sltu : Array (Option Value)} {oc_sltu kV_sltu dc_sltu pm_sltu cd_sltu ct_sltu : Value}
    {f_divu : Addr} {od_divu an_divu : Option Addr} {sl_divu : Array (Option Value)} {oc_divu kV_divu dc_divu pm_divu cd_divu ct_divu : Value}
    {f_remu : Addr} {od_remu an_remu : Option Addr} {sl_remu : Array (Option Value)} {oc_remu kV_remu dc_remu pm_remu cd_remu ct_remu : Value}
    {f_compute : Addr} {od_compute an_compute : Option Addr} {sl_compute : Array (Option Value)} {oc_compute kV_compute dc_compute pm_compute cd_compute ct_compute : Value}
    {f_holds : Addr} {od_holds an_holds : Option Addr} {sl_holds : Array (Option Value)} {oc_holds kV_holds dc_holds pm_holds cd_holds ct_holds : Value}
    {f_law_draw : Addr} {od_law_draw an_law_draw : Option Addr} {sl_law_draw : Array (Option Value)} {oc_law_draw kV_law_draw dc_law_draw pm_law_draw cd_law_draw ct_law_draw : Value}
    {f_law_take : Addr} {od_law_take an_law_take : Option Addr} {sl_law_take : Array (Option Value)} {oc_law_take kV_law_take dc_law_take pm_law_take cd_law_take ct_law_take : Value}
    {f_law_value : Addr} {od_law_value an_law_value : Option Addr} {sl_law_value : Array (Option Value)} {oc_law_value kV_law_value dc_law_value pm_law_value cd_law_value ct_law_value : Value}
    {f_law_signed : Addr} {od_law_signed an_law_signed : Option Addr} {sl_law_signed : Array (Option Value)} {oc_law_signed kV_law_signed dc_law_signed pm_law_signed cd_law_signed ct_law_signed : Value}
    {f_law_bits : Addr} {od_law_bits an_law_bits : Option Addr} {sl_law_bits : Array (Option Value)} {oc_law_bits kV_law_bits dc_law_bits pm_law_bits cd_law_bits ct_law_bits : Value}
    {f_law_due : Addr} {od_law_due an_law_due : Option Addr} {sl_law_due : Array (Option Value)} {oc_law_due kV_law_due dc_law_due pm_law_due cd_law_due ct_law_due : Value}
    {f_law : Addr} {od_law an_law : Option Addr} {sl_law : Array (Option Value)} {oc_law kV_law dc_law pm_law cd_law ct_law : Value}
    {tk_WORDS_IN_ALL : Tok}
    {tk_MASK : Tok}
    {tk_HALF : Tok}
    (a_signed : PySem.W.nsIn K mainGlobals "_signed" = some (some (.ref f_signed))) (l_signed : K.lookup f_signed = some ⟨oc_signed, od_signed, .func (PySem.W.fnOf "_signed" "_signed" (defArgs s_signed) (defBody s_signed) (defScope s_signed) .none kV_signed dc_signed pm_signed an_signed cd_signed ct_signed), sl_signed⟩) (cc_signed : PySem.W.codeIn K cd_signed "_signed" = true) (kk_signed : PySem.W.keepIn K (.ref f_signed) = true)
    (a_add : PySem.W.nsIn K mainGlobals "_add" = some (some (.ref f_add))) (l_add : K.lookup f_add = some ⟨oc_add, od_add, .func (PySem.W.fnOf "_add" "_add" (defArgs s_add) (defBody s_add) (defScope s_add) .none kV_add dc_add pm_add an_add cd_add ct_add), sl_add⟩) (cc_add : PySem.W.codeIn K cd_add "_add" = true) (kk_add : PySem.W.keepIn K (.ref f_add) = true)
    (a_sub : PySem.W.nsIn K mainGlobals "_sub" = some (some (.ref f_sub))) (l_sub : K.lookup f_sub = some ⟨oc_sub, od_sub, .func (PySem.W.fnOf "_sub" "_sub" (defArgs s_sub) (defBody s_sub) (defScope s_sub) .none kV_sub dc_sub pm_sub an_sub cd_sub ct_sub), sl_sub⟩) (cc_sub : PySem.W.codeIn K cd_sub "_sub" = true) (kk_sub : PySem.W.keepIn K (.ref f_sub) = true)
    (a_mul : PySem.W.nsIn K mainGlobals "_mul" = some (some (.ref f_mul))) (l_mul : K.lookup f_mul = some ⟨oc_mul, od_mul, .func (PySem.W.fnOf "_mul" "_mul" (defArgs s_mul) (defBody s_mul) (defScope s_mul) .none kV_mul dc_mul pm_mul an_mul cd_mul ct_mul), sl_mul⟩) (cc_mul : PySem.W.codeIn K cd_mul "_mul" = true) (kk_mul : PySem.W.keepIn K (.ref f_mul) = true)
    (a_and : PySem.W.nsIn K mainGlobals "_and" = some (some (.ref f_and))) (l_and : K.lookup f_and = some ⟨oc_and, od_and, .func (PySem.W.fnOf "_and" "_and" (defArgs s_and) (defBody s_and) (defScope s_and) .none kV_and dc_and pm_and an_and cd_and ct_and), sl_and⟩) (cc_and : PySem.W.codeIn K cd_and "_and" = true) (kk_and : PySem.W.keepIn K (.ref f_and) = true)
    (a_or : PySem.W.nsIn K mainGlobals "_or" = some (some (.ref f_or))) (l_or : K.lookup f_or = some ⟨oc_or, od_or, .func (PySem.W.fnOf "_or" "_or" (defArgs s_or) (defBody s_or) (defScope s_or) .none kV_or dc_or pm_or an_or cd_or ct_or), sl_or⟩) (cc_or : PySem.W.codeIn K cd_or "_or" = true) (kk_or : PySem.W.keepIn K (.ref f_or) = true)
    (a_xor : PySem.W.nsIn K mainGlobals "_xor" = some (some (.ref f_xor))) (l_xor : K.lookup f_xor = some ⟨oc_xor, od_xor, .func (PySem.W.fnOf "_xor" "_xor" (defArgs s_xor) (defBody s_xor) (defScope s_xor) .none kV_xor dc_xor pm_xor an_xor cd_xor ct_xor), sl_xor⟩) (cc_xor : PySem.W.codeIn K cd_xor "_xor" = true) (kk_xor : PySem.W.keepIn K (.ref f_xor) = true)
    (a_shl : PySem.W.nsIn K mainGlobals "_shl" = some (some (.ref f_shl))) (l_shl : K.lookup f_shl = some ⟨oc_shl, od_shl, .func (PySem.W.fnOf "_shl" "_shl" (defArgs s_shl) (defBody s_shl) (defScope s_shl) .none kV_shl dc_shl pm_shl an_shl cd_shl ct_shl), sl_shl⟩) (cc_shl : PySem.W.codeIn K cd_shl "_shl" = true) (kk_shl : PySem.W.keepIn K (.ref f_shl) = true)
    (a_shr : PySem.W.nsIn K mainGlobals "_shr" = some (some (.ref f_shr))) (l_shr : K.lookup f_shr = some ⟨oc_shr, od_shr, .func (PySem.W.fnOf "_shr" "_shr" (defArgs s_shr) (defBody s_shr) (defScope s_shr) .none kV_shr dc_shr pm_shr an_shr cd_shr ct_shr), sl_shr⟩) (cc_shr : PySem.W.codeIn K cd_shr "_shr" = true) (kk_shr : PySem.W.keepIn K (.ref f_shr) = true)
    (a_sar : PySem.W.nsIn K mainGlobals "_sar" = some (some (.ref f_sar))) (l_sar : K.lookup f_sar = some ⟨oc_sar, od_sar, .func (PySem.W.fnOf "_sar" "_sar" (defArgs s_sar) (defBody s_sar) (defScope s_sar) .none kV_sar dc_sar pm_sar an_sar cd_sar ct_sar), sl_sar⟩) (cc_sar : PySem.W.codeIn K cd_sar "_sar" = true) (kk_sar : PySem.W.keepIn K (.ref f_sar) = true)
    (a_slt : PySem.W.nsIn K mainGlobals "_slt" = some (some (.ref f_slt))) (l_slt : K.lookup f_slt = some ⟨oc_slt, od_slt, .func (PySem.W.fnOf "_slt" "_slt" (defArgs s_slt) (defBody s_slt) (defScope s_slt) .none kV_slt dc_slt pm_slt an_slt cd_slt ct_slt), sl_slt⟩) (cc_slt : PySem.W.codeIn K cd_slt "_slt" = true) (kk_slt : PySem.W.keepIn K (.ref f_slt) = true)
    (a_sltu : PySem.W.nsIn K mainGlobals "_sltu" = some (some (.ref f_sltu))) (l_sltu : K.lookup f_sltu = some ⟨oc_sltu, od_sltu, .func (PySem.W.fnOf "_sltu" "_sltu" (defArgs s_sltu) (defBody s_sltu) (defScope s_sltu) .none kV_sltu dc_sltu pm_sltu an_sltu cd_sltu ct_sltu), sl_sltu⟩) (cc_sltu : PySem.W.codeIn K cd_sltu "_sltu" = true) (kk_sltu : PySem.W.keepIn K (.ref f_sltu) = true)
    (a_divu : PySem.W.nsIn K mainGlobals "_divu" = some (some (.ref f_divu))) (l_divu : K.lookup f_divu = some ⟨oc_divu, od_divu, .func (PySem.W.fnOf "_divu" "_divu" (defArgs s_divu) (defBody s_divu) (defScope s_divu) .none kV_divu dc_divu pm_divu an_divu cd_divu ct_divu), sl_divu⟩) (cc_divu : PySem.W.codeIn K cd_divu "_divu" = true) (kk_divu : PySem.W.keepIn K (.ref f_divu) = true)
    (a_remu : PySem.W.nsIn K mainGlobals "_remu" = some (some (.ref f_remu))) (l_remu : K.lookup f_remu = some ⟨oc_remu, od_remu, .func (PySem.W.fnOf "_remu" "_remu" (defArgs s_remu) (defBody s_remu) (defScope s_remu) .none kV_remu dc_remu pm_remu an_remu cd_remu ct_remu), sl_remu⟩) (cc_remu : PySem.W.codeIn K cd_remu "_remu" = true) (kk_remu : PySem.W.keepIn K (.ref f_remu) = true)
    (a_compute : PySem.W.nsIn K mainGlobals "compute" = some (some (.ref f_compute))) (l_compute : K.lookup f_compute = some ⟨oc_compute, od_compute, .func (PySem.W.fnOf "compute" "compute" (defArgs s_compute) (defBody s_compute) (defScope s_compute) .none kV_compute dc_compute pm_compute an_compute cd_compute ct_compute), sl_compute⟩) (cc_compute : PySem.W.codeIn K cd_compute "compute" = true) (kk_compute : PySem.W.keepIn K (.ref f_compute) = true)
    (a_holds : PySem.W.nsIn K mainGlobals "holds" = some (some (.ref f_holds))) (l_holds : K.lookup f_holds = some ⟨oc_holds, od_holds, .func (PySem.W.fnOf "holds" "holds" (defArgs s_holds) (defBody s_holds) (defScope s_holds) .none kV_holds dc_holds pm_holds an_holds cd_holds ct_holds), sl_holds⟩) (cc_holds : PySem.W.codeIn K cd_holds "holds" = true) (kk_holds : PySem.W.keepIn K (.ref f_holds) = true)
    (a_law_draw : PySem.W.nsIn K mainGlobals "_law_draw" = some (some (.ref f_law_draw))) (l_law_draw : K.lookup f_law_draw = some ⟨oc_law_draw, od_law_draw, .func (PySem.W.fnOf "_law_draw" "_law_draw" (defArgs s_law_draw) (defBody s_law_draw) (defScope s_law_draw) .none kV_law_draw dc_law_draw pm_law_draw an_law_draw cd_law_draw ct_law_draw), sl_law_draw⟩) (cc_law_draw : PySem.W.codeIn K cd_law_draw "_law_draw" = true) (kk_law_draw : PySem.W.keepIn K (.ref f_law_draw) = true)
    (a_law_take : PySem.W.nsIn K mainGlobals "_law_take" = some (some (.ref f_law_take))) (l_law_take : K.lookup f_law_take = some ⟨oc_law_take, od_law_take, .func (PySem.W.fnOf "_law_take" "_law_take" (defArgs s_law_take) (defBody s_law_take) (defScope s_law_take) .none kV_law_take dc_law_take pm_law_take an_law_take cd_law_take ct_law_take), sl_law_take⟩) (cc_law_take : PySem.W.codeIn K cd_law_take "_law_take" = true) (kk_law_take : PySem.W.keepIn K (.ref f_law_take) = true)
    (a_law_value : PySem.W.nsIn K mainGlobals "_law_value" = some (some (.ref f_law_value))) (l_law_value : K.lookup f_law_value = some ⟨oc_law_value, od_law_value, .func (PySem.W.fnOf "_law_value" "_law_value" (defArgs s_law_value) (defBody s_law_value) (defScope s_law_value) .none kV_law_value dc_law_value pm_law_value an_law_value cd_law_value ct_law_value), sl_law_value⟩) (cc_law_value : PySem.W.codeIn K cd_law_value "_law_value" = true) (kk_law_value : PySem.W.keepIn K (.ref f_law_value) = true)
    (a_law_signed : PySem.W.nsIn K mainGlobals "_law_signed" = some (some (.ref f_law_signed))) (l_law_signed : K.lookup f_law_signed = some ⟨oc_law_signed, od_law_signed, .func (PySem.W.fnOf "_law_signed" "_law_signed" (defArgs s_law_signed) (defBody s_law_signed) (defScope s_law_signed) .none kV_law_signed dc_law_signed pm_law_signed an_law_signed cd_law_signed ct_law_signed), sl_law_signed⟩) (cc_law_signed : PySem.W.codeIn K cd_law_signed "_law_signed" = true) (kk_law_signed : PySem.W.keepIn K (.ref f_law_signed) = true)
    (a_law_bits : PySem.W.nsIn K mainGlobals "_law_bits" = some (some (.ref f_law_bits))) (l_law_bits : K.lookup f_law_bits = some ⟨oc_law_bits, od_law_bits, .func (PySem.W.fnOf "_law_bits" "_law_bits" (defArgs s_law_bits) (defBody s_law_bits) (defScope s_law_bits) .none kV_law_bits dc_law_bits pm_law_bits an_law_bits cd_law_bits ct_law_bits), sl_law_bits⟩) (cc_law_bits : PySem.W.codeIn K cd_law_bits "_law_bits" = true) (kk_law_bits : PySem.W.keepIn K (.ref f_law_bits) = true)
    (a_law_due : PySem.W.nsIn K mainGlobals "_law_due" = some (some (.ref f_law_due))) (l_law_due : K.lookup f_law_due = some ⟨oc_law_due, od_law_due, .func (PySem.W.fnOf "_law_due" "_law_due" (defArgs s_law_due) (defBody s_law_due) (defScope s_law_due) .none kV_law_due dc_law_due pm_law_due an_law_due cd_law_due ct_law_due), sl_law_due⟩) (cc_law_due : PySem.W.codeIn K cd_law_due "_law_due" = true) (kk_law_due : PySem.W.keepIn K (.ref f_law_due) = true)
    (a_law : PySem.W.nsIn K mainGlobals "law" = some (some (.ref f_law))) (l_law : K.lookup f_law = some ⟨oc_law, od_law, .func (PySem.W.fnOf "law" "law" (defArgs s_law) (defBody s_law) (defScope s_law) .none kV_law dc_law pm_law an_law cd_law ct_law), sl_law⟩) (cc_law : PySem.W.codeIn K cd_law "law" = true) (kk_law : PySem.W.keepIn K (.ref f_law) = true)
    (a_WORDS_IN_ALL : PySem.W.nsIn K mainGlobals "WORDS_IN_ALL" = some (some (.int 4294967296 tk_WORDS_IN_ALL)))
    (a_MASK : PySem.W.nsIn K mainGlobals "MASK" = some (some (.int 4294967295 tk_MASK)))
    (a_HALF : PySem.W.nsIn K mainGlobals "HALF" = some (some (.int 2147483648 tk_HALF)))
    (z_abs : PySem.W.nsIn K mainGlobals "abs" = some none)
    (z_bool : PySem.W.nsIn K mainGlobals "bool" = some none)
    (z_int : PySem.W.nsIn K mainGlobals "int" = some none)
    (z_isinstance : PySem.W.nsIn K mainGlobals "isinstance" = some none)
    (z_len : PySem.W.nsIn K mainGlobals "len" = some none)
    (z_range : PySem.W.nsIn K mainGlobals "range" = some none)
    {R : Addr} {es : Array DictEntry} {n : Nat} (aR : PySem.W.nsIn K mainGlobals "RESULTS" = some (some (.ref R))) (lR : K.lookup R = some ⟨.type "dict", none, .dict es n, #[]⟩) (kl : PySem.W.KeysLit w.params es.toList) (r_add : PySem.W.nsIn K R "add" = some (some (.ref f_add))) (r_sub : PySem.W.nsIn K R "sub" = some (some (.ref f_sub))) (r_mul : PySem.W.nsIn K R "mul" = some (some (.ref f_mul))) (r_and : PySem.W.nsIn K R "and" = some (some (.ref f_and))) (r_or : PySem.W.nsIn K R "or" = some (some (.ref f_or))) (r_xor : PySem.W.nsIn K R "xor" = some (some (.ref f_xor))) (r_shl : PySem.W.nsIn K R "shl" = some (some (.ref f_shl))) (r_shr : PySem.W.nsIn K R "shr" = some (some (.ref f_shr))) (r_sar : PySem.W.nsIn K R "sar" = some (some (.ref f_sar))) (r_slt : PySem.W.nsIn K R "slt" = some (some (.ref f_slt))) (r_sltu : PySem.W.nsIn K R "sltu" = some (some (.ref f_sltu))) (r_divu : PySem.W.nsIn K R "divu" = some (some (.ref f_divu))) (r_remu : PySem.W.nsIn K R "remu" = some (some (.ref f_remu))) (r_addi : PySem.W.nsIn K R "addi" = some (some (.ref f_add))) (r_andi : PySem.W.nsIn K R "andi" = some (some (.ref f_and))) (r_ori : PySem.W.nsIn K R "ori" = some (some (.ref f_or))) (r_xori : PySem.W.nsIn K R "xori" = some (some (.ref f_xor))) (r_shli : PySem.W.nsIn K R "shli" = some (some (.ref f_shl))) (r_shri : PySem.W.nsIn K R "shri" = some (some (.ref f_shr))) (r_sari : PySem.W.nsIn K R "sari" = some (some (.ref f_sar))) (r_slti : PySem.W.nsIn K R "slti" = some (some (.ref f_slt))) : 
    ∃ fd : FuncData, (∀ (s : Shared) (v : Value), BindsTo s fd ⟨[v], []⟩ [("script", v)]) ∧ ∀ base : Heap, K.In base → base.Ns mainGlobals mg → FnOk l.prog w K mg base CX0 4 fa fd ["script"] (spLaw K) := by
  have e := hfa.symm.trans (PySem.W.mg_of X G a_law)
  cases e
  have Z_signed : St1 K mg "_signed" s_signed ["word"] := mkSt1 X G a_signed l_signed cc_signed kk_signed (fun _ _ _ _ _ _ us hl => match us, hl with | [_], _ => rfl)
  have Z_add : St1 K mg "_add" s_add ["x", "y"] := mkSt1 X G a_add l_add cc_add kk_add (fun _ _ _ _ _ _ us hl => match us, hl with | [_, _], _ => rfl)
  have Z_sub : St1 K mg "_sub" s_sub ["x", "y"] := mkSt1 X G a_sub l_sub cc_sub kk_sub (fun _ _ _ _ _ _ us hl => match us, hl with | [_, _], _ => rfl)
  have Z_mul : St1 K mg "_mul" s_mul ["x", "y"] := mkSt1 X G a_mul l_mul cc_mul kk_mul (fun _ _ _ _ _ _ us hl => match us, hl with | [_, _], _ => rfl)
  have Z_and : St1 K mg "_and" s_and ["x", "y"] := mkSt1 X G a_and l_and cc_and kk_and (fun _ _ _ _ _ _ us hl => match us, hl with | [_, _], _ => rfl)
  have Z_or : St1 K mg "_or" s_or ["x", "y"] := mkSt1 X G a_or l_or cc_or kk_or (fun _ _ _ _ _ _ us hl => match us, hl with | [_, _], _ => rfl)
  have Z_xor : St1 K mg "_xor" s_xor ["x", "y"] := mkSt1 X G a_xor l_xor cc_xor kk_xor (fun _ _ _ _ _ _ us hl => match us, hl with | [_, _], _ => rfl)
  have Z_shl : St1 K mg "_shl" s_shl ["x", "y"] := mkSt1 X G a_shl l_shl cc_shl kk_shl (fun _ _ _ _ _ _ us hl => match us, hl with | [_, _], _ => rfl)
  have Z_shr : St1 K mg "_shr" s_shr ["x", "y"] := mkSt1 X G a_shr l_shr cc_shr kk_shr (fun _ _ _ _ _ _ us hl => match us, hl with | [_, _], _ => rfl)
  have Z_sar : St1 K mg "_sar" s_sar ["x", "y"] := mkSt1 X G a_sar l_sar cc_sar kk_sar (fun _ _ _ _ _ _ us hl => match us, hl with | [_, _], _ => rfl)
  have Z_slt : St1 K mg "_slt" s_slt ["x", "y"] := mkSt1 X G a_slt l_slt cc_slt kk_slt (fun _ _ _ _ _ _ us hl => match us, hl with | [_, _], _ => rfl)
  have Z_sltu : St1 K mg "_sltu" s_sltu ["x", "y"] := mkSt1 X G a_sltu l_sltu cc_sltu kk_sltu (fun _ _ _ _ _ _ us hl => match us, hl with | [_, _], _ => rfl)
  have Z_divu : St1 K mg "_divu" s_divu ["x", "y"] := mkSt1 X G a_divu l_divu cc_divu kk_divu (fun _ _ _ _ _ _ us hl => match us, hl with | [_, _], _ => rfl)
  have Z_remu : St1 K mg "_remu" s_remu ["x", "y"] := mkSt1 X G a_remu l_remu cc_remu kk_remu (fun _ _ _ _ _ _ us hl => match us, hl with | [_, _], _ => rfl)
  have Z_compute : St1 K mg "compute" s_compute ["op", "x", "y"] := mkSt1 X G a_compute l_compute cc_compute kk_compute (fun _ _ _ _ _ _ us hl => match us, hl with | [_, _, _], _ => rfl)
  have Z_holds : St1 K mg "holds" s_holds ["op", "x", "y"] := mkSt1 X G a_holds l_holds cc_holds kk_holds (fun _ _ _ _ _ _ us hl => match us, hl with | [_, _, _], _ => rfl)
  have Z_law_draw : St1 K mg "_law_draw" s_law_draw ["script"] := mkSt1 X G a_law_draw l_law_draw cc_law_draw kk_law_draw (fun _ _ _ _ _ _ us hl => match us, hl with | [_], _ => rfl)
  have Z_law_take : St1 K mg "_law_take" s_law_take ["draw", "many"] := mkSt1 X G a_law_take l_law_take cc_law_take kk_law_take (fun _ _ _ _ _ _ us hl => match us, hl with | [_, _], _ => rfl)
  have Z_law_value : St1 K mg "_law_value" s_law_value ["draw"] := mkSt1 X G a_law_value l_law_value cc_law_value kk_law_value (fun _ _ _ _ _ _ us hl => match us, hl with | [_], _ => rfl)
  have Z_law_signed : St1 K mg "_law_signed" s_law_signed ["x"] := mkSt1 X G a_law_signed l_law_signed cc_law_signed kk_law_signed (fun _ _ _ _ _ _ us hl => match us, hl with | [_], _ => rfl)
  have Z_law_bits : St1 K mg "_law_bits" s_law_bits ["op", "x", "y"] := mkSt1 X G a_law_bits l_law_bits cc_law_bits kk_law_bits (fun _ _ _ _ _ _ us hl => match us, hl with | [_, _, _], _ => rfl)
  have Z_law_due : St1 K mg "_law_due" s_law_due ["op", "x", "y"] := mkSt1 X G a_law_due l_law_due cc_law_due kk_law_due (fun _ _ _ _ _ _ us hl => match us, hl with | [_, _, _], _ => rfl)
  have Z_law : St1 K mg "law" s_law ["script"] := mkSt1 X G a_law l_law cc_law kk_law (fun _ _ _ _ _ _ us hl => match us, hl with | [_], _ => rfl)
  have g_WORDS_IN_ALL : GV mg "WORDS_IN_ALL" (.int 4294967296) := ⟨_, PySem.W.mg_of X G a_WORDS_IN_ALL, ⟨_, rfl⟩⟩
  have g_MASK : GV mg "MASK" (.int 4294967295) := ⟨_, PySem.W.mg_of X G a_MASK, ⟨_, rfl⟩⟩
  have g_HALF : GV mg "HALF" (.int 2147483648) := ⟨_, PySem.W.mg_of X G a_HALF, ⟨_, rfl⟩⟩
  have b_abs : mg "abs" = none := PySem.W.mg_none_of X G z_abs
  have b_bool : mg "bool" = none := PySem.W.mg_none_of X G z_bool
  have b_int : mg "int" = none := PySem.W.mg_none_of X G z_int
  have b_isinstance : mg "isinstance" = none := PySem.W.mg_none_of X G z_isinstance
  have b_len : mg "len" = none := PySem.W.mg_none_of X G z_len
  have b_range : mg "range" = none := PySem.W.mg_none_of X G z_range
  have F_law := fun_mk (st := s_law) l_law cc_law kk_law
  have Hd : ∀ {x : Str} {f : Addr} {g : Int → Int → Int} {k : Str}, (∀ base : Heap, Cd l.prog w K mg base 2 x (spOp g)) → mg x = some (.ref f) → PySem.W.nsIn K R k = some (some (.ref f)) → ∀ base : Heap, ∃ f, KDct K w R k (.ref f) ∧ Held l.prog w K mg base 2 f (spOp g) :=
    fun c m r base => ⟨_, ⟨es, n, _, lR, kl, r, rfl⟩, (c base).held m⟩
  have T : Txt K mg := ⟨g_MASK, g_HALF, g_WORDS_IN_ALL, b_int, b_abs, b_len⟩
  have c_signed : ∀ base : Heap, Cd l.prog w K mg base 1 "_signed" spSgn := fun base => ok_signed T Z_signed
  have c_add : ∀ base : Heap, Cd l.prog w K mg base 2 "_add" (spOp dAdd) := fun base => ok_add T Z_add
  have c_sub : ∀ base : Heap, Cd l.prog w K mg base 2 "_sub" (spOp dSub) := fun base => ok_sub T Z_sub
  have c_mul : ∀ base : Heap, Cd l.prog w K mg base 2 "_mul" (spOp dMul) := fun base => ok_mul T Z_mul
  have c_and : ∀ base : Heap, Cd l.prog w K mg base 2 "_and" (spOp dAnd) := fun base => ok_and Z_and
  have c_or : ∀ base : Heap, Cd l.prog w K mg base 2 "_or" (spOp dOr) := fun base => ok_or Z_or
  have c_xor : ∀ base : Heap, Cd l.prog w K mg base 2 "_xor" (spOp dXor) := fun base => ok_xor Z_xor
  have c_shl : ∀ base : Heap, Cd l.prog w K mg base 2 "_shl" (spOp dShl) := fun base => ok_shl T Z_shl
  have c_shr : ∀ base : Heap, Cd l.prog w K mg base 2 "_shr" (spOp dShr) := fun base => ok_shr Z_shr
  have c_sar : ∀ base : Heap, Cd l.prog w K mg base 2 "_sar" (spOp dSar) := fun base => ok_sar T (c_signed base) Z_sar
  have c_slt : ∀ base : Heap, Cd l.prog w K mg base 2 "_slt" (spOp dSlt) := fun base => ok_slt (c_signed base) Z_slt
  have c_sltu : ∀ base : Heap, Cd l.prog w K mg base 2 "_sltu" (spOp dSltu) := fun base => ok_sltu Z_sltu
  have c_divu : ∀ base : Heap, Cd l.prog w K mg base 2 "_divu" (spOp dDivu) := fun base => ok_divu T Z_divu
  have c_remu : ∀ base : Heap, Cd l.prog w K mg base 2 "_remu" (spOp dRemu) := fun base => ok_remu Z_remu
  have rows : ∀ base : Heap, ∀ p ∈ tab13 ++ tab8, ∃ f, KDct K w R p.1 (.ref f) ∧ Held l.prog w K mg base 2 f (spOp p.2) := by
    intro base p hp
    simp only [tab13, tab8, List.cons_append, List.nil_append, List.mem_cons, List.not_mem_nil, or_false] at hp
    rcases hp with rfl | rfl | rfl | rfl | rfl | rfl | rfl | rfl | rfl | rfl | rfl | rfl | rfl | rfl | rfl | rfl | rfl | rfl | rfl | rfl | rfl
    · exact Hd c_add (PySem.W.mg_of X G a_add) r_add base
    · exact Hd c_sub (PySem.W.mg_of X G a_sub) r_sub base
    · exact Hd c_mul (PySem.W.mg_of X G a_mul) r_mul base
    · exact Hd c_and (PySem.W.mg_of X G a_and) r_and base
    · exact Hd c_or (PySem.W.mg_of X G a_or) r_or base
    · exact Hd c_xor (PySem.W.mg_of X G a_xor) r_xor base
    · exact Hd c_shl (PySem.W.mg_of X G a_shl) r_shl base
    · exact Hd c_shr (PySem.W.mg_of X G a_shr) r_shr base
    · exact Hd c_sar (PySem.W.mg_of X G a_sar) r_sar base
    · exact Hd c_slt (PySem.W.mg_of X G a_slt) r_slt base
    · exact Hd c_sltu (PySem.W.mg_of X G a_sltu) r_sltu base
    · exact Hd c_divu (PySem.W.mg_of X G a_divu) r_divu base
    · exact Hd c_remu (PySem.W.mg_of X G a_remu) r_remu base
    · exact Hd c_add (PySem.W.mg_of X G a_add) r_addi base
    · exact Hd c_and (PySem.W.mg_of X G a_and) r_andi base
    · exact Hd c_or (PySem.W.mg_of X G a_or) r_ori base
    · exact Hd c_xor (PySem.W.mg_of X G a_xor) r_xori base
    · exact Hd c_shl (PySem.W.mg_of X G a_shl) r_shli base
    · exact Hd c_shr (PySem.W.mg_of X G a_shr) r_shri base
    · exact Hd c_sar (PySem.W.mg_of X G a_sar) r_sari base
    · exact Hd c_slt (PySem.W.mg_of X G a_slt) r_slti base
  refine ⟨_, fun s v => .of_eq rfl, fun base _ _ => ok_law b_int b_bool b_range b_isinstance (ok_draw T Z_law_draw) (ok_take T Z_law_take) (ok_value (ok_take T Z_law_take) Z_law_value) (ok_compute ⟨_, PySem.W.mg_of X G aR, rfl⟩ (rows base) Z_compute) (ok_due b_int (ok_law_signed Z_law_signed) (ok_bits b_range Z_law_bits) Z_law_due) (ok_law_signed Z_law_signed) (ok_holds (c_signed base) Z_holds) F_law⟩
end K01
open PySem PySem.W PyProof.Rows
set_option maxRecDepth 100000 in
set_option maxHeartbeats 0 in
theorem PySem.Challenge.cw_restitch_k01_results_and_conditions_holds : PySem.Challenge.rw_restitch_k01_results_and_conditions.Holds := by
  w_on; o_law; k_head; (case hw => w_witness2)
  k_fill
  refine L2.walk_of (l := PySem.Challenge.rw_restitch_k01_results_and_conditions) (n := 63) (k := 4) (x := "script") (CX := fun _ => L2.CX0) (sp := fun w => K01.spLaw _) rfl (by decide) rfl ⟨rfl, by decide, by decide⟩ (fun w h Y => PySem.W.kIn_of Y) ?F (fun _ _ a ns hl _ hS => ⟨a, ns, rfl, hS, hl, fun _ => rfl⟩) (fun _ _ _ _ _ h => h)
  case F =>
    intro w mg fa h KX G hmg
    refine' K01.all_mk KX G hmg ?a_signed ?l_signed ?cc_signed ?kk_signed ?a_add ?l_add ?cc_add ?kk_add ?a_sub ?l_sub ?cc_sub ?kk_sub ?a_mul ?l_mul ?cc_mul ?kk_mul ?a_and ?l_and ?cc_and ?kk_and ?a_or ?l_or ?cc_or ?kk_or ?a_xor ?l_xor ?cc_xor ?kk_xor ?a_shl ?l_shl ?cc_shl ?kk_shl ?a_shr ?l_shr ?cc_shr ?kk_shr ?a_sar ?l_sar ?cc_sar ?kk_sar ?a_slt ?l_slt ?cc_slt ?kk_slt ?a_sltu ?l_sltu ?cc_sltu ?kk_sltu ?a_divu ?l_divu ?cc_divu ?kk_divu ?a_remu ?l_remu ?cc_remu ?kk_remu ?a_compute ?l_compute ?cc_compute ?kk_compute ?a_holds ?l_holds ?cc_holds ?kk_holds ?a_law_draw ?l_law_draw ?cc_law_draw ?kk_law_draw ?a_law_take ?l_law_take ?cc_law_take ?kk_law_take ?a_law_value ?l_law_value ?cc_law_value ?kk_law_value ?a_law_signed ?l_law_signed ?cc_law_signed ?kk_law_signed ?a_law_bits ?l_law_bits ?cc_law_bits ?kk_law_bits ?a_law_due ?l_law_due ?cc_law_due ?kk_law_due ?a_law ?l_law ?cc_law ?kk_law ?a_WORDS_IN_ALL ?a_MASK ?a_HALF ?z_abs ?z_bool ?z_int ?z_isinstance ?z_len ?z_range ?aR ?lR ?kl ?r_add ?r_sub ?r_mul ?r_and ?r_or ?r_xor ?r_shl ?r_shr ?r_sar ?r_slt ?r_sltu ?r_divu ?r_remu ?r_addi ?r_andi ?r_ori ?r_xori ?r_shli ?r_shri ?r_sari ?r_slti
    (case a_signed => k_is)
    (case l_signed => k_is)
    (case cc_signed => k_is)
    (case kk_signed => k_is)
    (case a_add => k_is)
    (case l_add => k_is)
    (case cc_add => k_is)
    (case kk_add => k_is)
    (case a_sub => k_is)
    (case l_sub => k_is)
    (case cc_sub => k_is)
    (case kk_sub => k_is)
    (case a_mul => k_is)
    (case l_mul => k_is)
    (case cc_mul => k_is)
    (case kk_mul => k_is)
    (case a_and => k_is)
    (case l_and => k_is)
    (case cc_and => k_is)
    (case kk_and => k_is)
    (case a_or => k_is)
    (case l_or => k_is)
    (case cc_or => k_is)
    (case kk_or => k_is)
    (case a_xor => k_is)
    (case l_xor => k_is)
    (case cc_xor => k_is)
    (case kk_xor => k_is)
    (case a_shl => k_is)
    (case l_shl => k_is)
    (case cc_shl => k_is)
    (case kk_shl => k_is)
    (case a_shr => k_is)
    (case l_shr => k_is)
    (case cc_shr => k_is)
    (case kk_shr => k_is)
    (case a_sar => k_is)
    (case l_sar => k_is)
    (case cc_sar => k_is)
    (case kk_sar => k_is)
    (case a_slt => k_is)
    (case l_slt => k_is)
    (case cc_slt => k_is)
    (case kk_slt => k_is)
    (case a_sltu => k_is)
    (case l_sltu => k_is)
    (case cc_sltu => k_is)
    (case kk_sltu => k_is)
    (case a_divu => k_is)
    (case l_divu => k_is)
    (case cc_divu => k_is)
    (case kk_divu => k_is)
    (case a_remu => k_is)
    (case l_remu => k_is)
    (case cc_remu => k_is)
    (case kk_remu => k_is)
    (case a_compute => k_is)
    (case l_compute => k_is)
    (case cc_compute => k_is)
    (case kk_compute => k_is)
    (case a_holds => k_is)
    (case l_holds => k_is)
    (case cc_holds => k_is)
    (case kk_holds => k_is)
    (case a_law_draw => k_is)
    (case l_law_draw => k_is)
    (case cc_law_draw => k_is)
    (case kk_law_draw => k_is)
    (case a_law_take => k_is)
    (case l_law_take => k_is)
    (case cc_law_take => k_is)
    (case kk_law_take => k_is)
    (case a_law_value => k_is)
    (case l_law_value => k_is)
    (case cc_law_value => k_is)
    (case kk_law_value => k_is)
    (case a_law_signed => k_is)
    (case l_law_signed => k_is)
    (case cc_law_signed => k_is)
    (case kk_law_signed => k_is)
    (case a_law_bits => k_is)
    (case l_law_bits => k_is)
    (case cc_law_bits => k_is)
    (case kk_law_bits => k_is)
    (case a_law_due => k_is)
    (case l_law_due => k_is)
    (case cc_law_due => k_is)
    (case kk_law_due => k_is)
    (case a_law => k_is)
    (case l_law => k_is)
    (case cc_law => k_is)
    (case kk_law => k_is)
    (case a_WORDS_IN_ALL => k_is)
    (case a_MASK => k_is)
    (case a_HALF => k_is)
    (case z_abs => k_is)
    (case z_bool => k_is)
    (case z_int => k_is)
    (case z_isinstance => k_is)
    (case z_len => k_is)
    (case z_range => k_is)
    (case aR => k_is)
    (case lR => k_is)
    (case kl => exact ⟨⟨_, _, rfl, rfl⟩, ⟨_, _, rfl, rfl⟩, ⟨_, _, rfl, rfl⟩, ⟨_, _, rfl, rfl⟩, ⟨_, _, rfl, rfl⟩, ⟨_, _, rfl, rfl⟩, ⟨_, _, rfl, rfl⟩, ⟨_, _, rfl, rfl⟩, ⟨_, _, rfl, rfl⟩, ⟨_, _, rfl, rfl⟩, ⟨_, _, rfl, rfl⟩, ⟨_, _, rfl, rfl⟩, ⟨_, _, rfl, rfl⟩, ⟨_, _, rfl, rfl⟩, ⟨_, _, rfl, rfl⟩, ⟨_, _, rfl, rfl⟩, ⟨_, _, rfl, rfl⟩, ⟨_, _, rfl, rfl⟩, ⟨_, _, rfl, rfl⟩, ⟨_, _, rfl, rfl⟩, ⟨_, _, rfl, rfl⟩, trivial⟩)
    (case r_add => k_is)
    (case r_sub => k_is)
    (case r_mul => k_is)
    (case r_and => k_is)
    (case r_or => k_is)
    (case r_xor => k_is)
    (case r_shl => k_is)
    (case r_shr => k_is)
    (case r_sar => k_is)
    (case r_slt => k_is)
    (case r_sltu => k_is)
    (case r_divu => k_is)
    (case r_remu => k_is)
    (case r_addi => k_is)
    (case r_andi => k_is)
    (case r_ori => k_is)
    (case r_xori => k_is)
    (case r_shli => k_is)
    (case r_shri => k_is)
    (case r_sari => k_is)
    (case r_slti => k_is)


