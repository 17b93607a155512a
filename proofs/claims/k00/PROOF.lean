import PyProof.Rows.All
import Wide.All
import OpenK.AllK
import Wide.FinOn
import HandS.ForMost
import HandS.Wide
import HandS.Style
import HandS.Small
import HandS.TupAny
import HandS.IsInst
import HandS.CallLocal
import HandS.Evl
import HandS.More
import HandS.WrittenGet
import HandS.SetBool
import HandS.Strs
import HandS.Zip
import HandS.Star
import KE.GoesZip
import KE.GoesMore
import PySem.Challenge.RW_restitch_k00_words_of_instructions
set_option Elab.async false
set_option linter.all false
set_option maxRecDepth 100000
set_option maxHeartbeats 4000000
namespace Co
open PySem PySem.Spec PyProof.Rows L2
def rIntQ : List V → Hp → VK → Prop := fun xs H Q => (∃ i, xs = [.int i] ∧ Q (.int i) H) ∨ ∃ k, xs = [.bl k] ∧ Q (.int (if k then 1 else 0)) H
theorem call_intQ {X : Cx} : CallR X (.type "int") rIntQ := call_int1
def rAbsQ : List V → Hp → VK → Prop := fun xs H Q => ∃ i, xs = [.int i] ∧ Q (.int (if i < 0 then -i else i)) H
theorem call_absQ {X : Cx} : CallR X (.builtin "abs") rAbsQ := call_abs
def rLenQ (K : PySem.W.Frag) : List V → Hp → VK → Prop := fun xs H Q => ∃ p ys, xs = [.ref p] ∧ (SqL K H p ys ∨ SqT K H p ys) ∧ Q (.int (ys.length : Int)) H
theorem call_lenQ {X : Cx} : CallR X (.builtin "len") (rLenQ X.K) := call_len_seq
structure Cd (P : Program) (w : World) (K : PySem.W.Frag) (mg : Str → Option Value) (base : Heap) (k : Nat) (x : Str) (sp : Sp) : Prop where
  ex : ∃ (f : Addr) (fd : FuncData) (ps : List Str), FnOk P w K mg base CX0 k f fd ps sp ∧ mg x = some (.ref f) ∧ PySem.W.keepIn K (.ref f) = true ∧ Binds K fd ps []
def GV (mg : Str → Option Value) (x : Str) (v : V) : Prop := ∃ u, mg x = some u ∧ RelV v u
def tC1 (sp : Sp) (t : TA) : TE := fun σ H Q => t σ H fun vs H1 => sp vs H1 Q E0
section
variable {X : Cx} {k j : Nat} {x : Str} {sp : Sp} {p pos : Pos} {e : Expr} {es : List Expr} {t : TA}
theorem pe_gv {v : V} (hg : Gl X x) (h : GV X.mg x v) (hd : (x == ("__debug__" : Str)) = false := by decide) : PE X (.Name x pos) (tC v) := by
  obtain ⟨u, hm, r⟩ := h
  exact pe_glob hg hm r hd
theorem pe_cd (c : Cd X.prog X.w X.K X.mg X.base k x sp) (hr : Room j X.A) (hk : k ≤ j) (hg : Gl X x) (ha : PA X (e :: es) t)
    (hdb : (x == ("__debug__" : Str)) = false := by decide) (he : starEach (e :: es) X.env = (false, eval e X.env) :: starEach es X.env := by rfl) (hpl : (backTo pos (starEach es X.env)).any (·.1) = false := by rfl) :
    PE X (.Call (.Name x p) (e :: es) [] pos) (tC1 sp t) := by
  obtain ⟨f, fd, ps, F, hm, kp, b⟩ := c.ex
  have z := pe_call (dvs := []) (pos := pos) (p := p) F (hr.mono hk) hg hm kp b .nil pass0 ha hdb he hpl
  refine ⟨fun pins s σ H Q I h => z.run pins s σ H Q I ?_⟩
  show t σ H fun vs H1 => sp (vs ++ []) H1 Q E0
  simp only [List.append_nil]
  exact h
theorem pe_cd0 (c : Cd X.prog X.w X.K X.mg X.base k x sp) (hr : Room j X.A) (hk : k ≤ j) (hg : Gl X x)
    (hdb : (x == ("__debug__" : Str)) = false := by decide) :
    PE X (.Call (.Name x p) [] [] pos) (tC1 sp tNil) := by
  obtain ⟨f, fd, ps, F, hm, kp, b⟩ := c.ex
  exact pe_call0 (dvs := []) (pos := pos) (p := p) F (hr.mono hk) hg hm kp b .nil pass0 hdb
end

/-! ### readings, step by step, from behind -/
def kTup (Q : VK) : List V → Hp → Prop := fun xs H1 => xs.length ≤ sizeLine ∧ ∀ p, H1 p = none → Q (.ref p) (upd H1 p (.tup xs))
def kLst (Q : VK) : List V → Hp → Prop := fun xs H1 => xs.length ≤ sizeLine ∧ ∀ p, H1 p = none → Q (.ref p) (upd H1 p (.lst xs))
def kFor (g : TG) (tb : TS) (D : Ends) (σ : L2.St) : It → Hp → Prop := fun J H1 => ∃ W : Nat → Nat → L2.St → Hp → Prop, (∃ m, W 0 m σ H1) ∧ ∀ i m σ H, W i m σ H →
  (J.stop i H ∧ D.nx σ H) ∨ (J.go i H ∧ ∃ N : L2.St → Hp → Prop, (∀ σ' H', N σ' H' → ∃ m', m' < m ∧ W (i + 1) m' σ' H') ∧ ∀ x H', J.yld i H x H' → g x σ H' fun σ2 H2 => tb { D with nx := N, ct := N, bk := D.nx } σ2 H2)
def kIL (K : PySem.W.Frag) (R : It → Hp → Prop) : V → Hp → Prop := fun x H1 => ∃ a, x = .ref a ∧ (∃ xs, SqL K H1 a xs) ∧ R (Itl K a) H1
def kIT (K : PySem.W.Frag) (R : It → Hp → Prop) : V → Hp → Prop := fun x H1 => ∃ a, x = .ref a ∧ (∃ xs, SqT K H1 a xs) ∧ R (Itt K a) H1
def kR1 (R : It → Hp → Prop) : List V → Hp → Prop := fun vs H1 => ∃ j : Int, vs = [.int j] ∧ -(2 ^ 62) ≤ j ∧ j < 2 ^ 62 ∧ R (Itr 0 j.toNat) H1
def kR2 (R : It → Hp → Prop) : List V → Hp → Prop := fun vs H1 => ∃ i j : Int, vs = [.int i, .int j] ∧ (-(2 ^ 62) ≤ i ∧ i < 2 ^ 62 ∧ -(2 ^ 62) ≤ j ∧ j < 2 ^ 62) ∧ R (Itr i (j - i).toNat) H1
def kLc (g : TG) (tt : TT) (te : TE) (vs : List Nat) (σ : L2.St) (Q : VK) : It → Hp → Prop := fun J H1 => ∀ D, H1 D = none → ∃ W : Nat → Nat → Hp → Prop, (∃ m, W 0 m (upd H1 D (.lst []))) ∧ ∀ i m H, W i m H →
  (J.stop i H ∧ Q (.ref D) H) ∨ (J.go i H ∧ ∃ Nx : Hp → Prop, (∀ H', Nx H' → ∃ m', m' < m ∧ W (i + 1) m' H') ∧ ∀ x H', J.yld i H x H' → g x (wipe σ vs) H' fun σ2 H2 => wipe σ2 vs = wipe σ vs ∧ tt σ2 H2 fun b H3 =>
    if b = true then te σ2 H3 fun y H4 => ∃ acc, H4 D = some (.lst acc) ∧ acc.length < sizeLine ∧ Nx (upd H4 D (.lst (acc ++ [y]))) else Nx H3)
section
variable {σ : L2.St} {H : Hp} {Q : VK} {D : Ends} {ta tb te : TE} {tt tu : TT} {t u : TS} {g : TG} {v x y : V} {i j : Int} {n : Nat} {E : XK}
theorem w_var (h : σ[n]? = some (some v)) (q : Q v H) : tVar n σ H Q := ⟨v, h, q⟩
theorem w_c (q : Q v H) : tC v σ H Q := q
theorem w_op {r : R2} (q : ta σ H fun x H1 => tb σ H1 fun y H2 => r x y H2 Q) : tOp r ta tb σ H Q := q
theorem w_un {r : V → Hp → VK → Prop} (q : ta σ H fun x H1 => r x H1 Q) : tUn r ta σ H Q := q
theorem w_I0 {f : Int → Int → V} (q : Q (f i j) H) : rI0 f (.int i) (.int j) H Q := ⟨i, j, rfl, rfl, q⟩
theorem w_I {C : Int → Int → Prop} {f : Int → Int → V} (c : C i j) (q : Q (f i j) H) : rI C f (.int i) (.int j) H Q := ⟨i, j, rfl, rfl, c, q⟩
theorem w_U {f : Int → V} (q : Q (f i) H) : rU f (.int i) H Q := ⟨i, rfl, q⟩
theorem w_eq (h : scal x y = true) (q : Q (.bl (decide (x = y))) H) : rEq x y H Q := ⟨h, q⟩
theorem w_ne (h : scal x y = true) (q : Q (.bl (!decide (x = y))) H) : rNe x y H Q := ⟨h, q⟩
theorem w_eqI (q : Q (.bl (decide (i = j))) H) : rEq (.int i) (.int j) H Q := ⟨rfl, by
  have e : (decide (V.int i = V.int j)) = decide (i = j) := by
    by_cases h : i = j
    · subst h; simp
    · rw [decide_eq_false h, decide_eq_false (fun z => h (V.int.inj z))]
  rw [e]; exact q⟩
theorem w_neI (q : Q (.bl (!decide (i = j))) H) : rNe (.int i) (.int j) H Q := ⟨rfl, by
  have e : (decide (V.int i = V.int j)) = decide (i = j) := by
    by_cases h : i = j
    · subst h; simp
    · rw [decide_eq_false h, decide_eq_false (fun z => h (V.int.inj z))]
  rw [e]; exact q⟩
theorem w_test {Q : Bool → Hp → Prop} (q : ta σ H fun x H' => ∃ k, x = .bl k ∧ Q k H') : tTest ta σ H Q := q
theorem w_B {Q : Bool → Hp → Prop} (q : ta σ H fun x H' => ∃ k, x = .bl k ∧ Q k H') : tB ta σ H Q := q
theorem w_bl {b : Bool} {Q : Bool → Prop} (q : Q b) : ∃ k, V.bl b = .bl k ∧ Q k := ⟨b, rfl, q⟩
theorem w_if (q : tt σ H fun c H1 => if c = true then ta σ H1 Q else tb σ H1 Q) : tIf tt ta tb σ H Q := q
theorem w_andT {Q : Bool → Hp → Prop} (q : tt σ H fun c H1 => if c = true then tu σ H1 Q else Q false H1) : tAnd tt tu σ H Q := q
theorem w_orT {Q : Bool → Hp → Prop} (q : tt σ H fun c H1 => if c = true then Q true H1 else tu σ H1 Q) : tOr tt tu σ H Q := q
theorem w_notT {Q : Bool → Hp → Prop} (q : tt σ H fun c H1 => Q (!c) H1) : tNot tt σ H Q := q
theorem w_andV (q : ta σ H fun x H1 => ∃ c, x = .bl c ∧ if c = true then tb σ H1 Q else Q (.bl false) H1) : tAndV ta tb σ H Q := q
theorem w_orV (q : ta σ H fun x H1 => ∃ c, x = .bl c ∧ if c = true then Q (.bl true) H1 else tb σ H1 Q) : tOrV ta tb σ H Q := q
theorem w_notV (q : ta σ H fun x H1 => ∃ c, x = .bl c ∧ Q (.bl (!c)) H1) : tNotV ta σ H Q := q
theorem w_chain {r r' : R2} {tc : TE} (q : ta σ H fun x H1 => tb σ H1 fun y H2 => r x y H2 fun z H3 => ∃ k, z = .bl k ∧ if k = true then tc σ H3 fun c H4 => r' y c H4 Q else Q (.bl false) H3) : tChain r r' ta tb tc σ H Q := q
theorem w_seq (q : t { D with nx := u D } σ H) : tSeq t u D σ H := q
theorem w_next (q : D.nx σ H) : tNext D σ H := q
theorem w_ret (q : te σ H D.rt) : tRet te D σ H := q
theorem w_retN (q : D.rt .non H) : tRetN D σ H := q
theorem w_ifS (q : tt σ H fun b H1 => if b = true then t D σ H1 else u D σ H1) : tIfS tt t u D σ H := q
theorem w_asg (q : te σ H fun x H1 => g x σ H1 D.nx) : tAsg te g D σ H := q
theorem w_name {Q : L2.St → Hp → Prop} (q : Q (σ.set n (some v)) H) : gName n v σ H Q := q
theorem w_drop (q : te σ H fun _ H1 => D.nx σ H1) : tDrop te D σ H := q
theorem w_nil {Q : List V → Hp → Prop} (q : Q [] H) : tNil σ H Q := q
theorem w_cons {ta : TE} {tr : TA} {Q : List V → Hp → Prop} (q : ta σ H fun x H1 => tr σ H1 fun xs H2 => Q (x :: xs) H2) : tCons ta tr σ H Q := q
theorem w_call {sp : Sp} {t : TA} (q : t σ H fun vs H1 => sp vs H1 Q E0) : tC1 sp t σ H Q := q
theorem w_cb {r : List V → Hp → VK → Prop} {t : TA} (q : t σ H fun vs H1 => r vs H1 Q) : tCB r t σ H Q := q
theorem w_dec {c : Prop} [Decidable c] {A B : Prop} (h1 : c → A) (h2 : ¬ c → B) : if decide c = true then A else B := by
  by_cases h : c
  · rw [if_pos (decide_eq_true h)]; exact h1 h
  · rw [if_neg (by rw [decide_eq_false h]; exact Bool.false_ne_true)]; exact h2 h
theorem w_ndec {c : Prop} [Decidable c] {A B : Prop} (h1 : ¬ c → A) (h2 : c → B) : if (!decide c) = true then A else B := by
  by_cases h : c
  · rw [if_neg (by rw [decide_eq_true h]; decide)]; exact h2 h
  · rw [if_pos (by rw [decide_eq_false h]; decide)]; exact h1 h
theorem w_itT {A B : Prop} (h : A) : if true = true then A else B := iteT h
theorem w_itF {A B : Prop} (h : B) : if false = true then A else B := iteF h
theorem w_bool {b : Bool} {A B : Prop} (h1 : b = true → A) (h2 : b = false → B) : if b = true then A else B := by
  cases b
  · exact iteF (h2 rfl)
  · exact iteT (h1 rfl)
theorem w_tup {ta : TA} (q : ta σ H (kTup Q)) : tTup ta σ H Q := q
theorem w_lst {ta : TA} (q : ta σ H (kLst Q)) : tLst ta σ H Q := q
theorem w_kTup {xs : List V} (h : xs.length ≤ sizeLine) (q : ∀ p H', H p = none → Same H H' → H' p = some (.tup xs) → Q (.ref p) H') : kTup Q xs H := ⟨h, fun p np => q p _ np (fun b x e => by rw [upd_ne (ne_of_none e np)]; exact e) upd_same⟩
theorem w_kLst {xs : List V} (h : xs.length ≤ sizeLine) (q : ∀ p H', H p = none → Same H H' → H' p = some (.lst xs) → Q (.ref p) H') : kLst Q xs H := ⟨h, fun p np => q p _ np (fun b x e => by rw [upd_ne (ne_of_none e np)]; exact e) upd_same⟩
end
section
variable {K : PySem.W.Frag} {σ : L2.St} {H : Hp} {Q : VK} {p : Addr} {xs : List V} {i : Int} {v x : V} {n : Nat}
theorem w_ixL (h : H p = some (.lst xs)) (ha : atI xs i = some v) (q : Q v H) : rIxL K (.ref p) (.int i) H Q := ⟨p, xs, i, v, rfl, rfl, .inl (.inl h), ha, q⟩
theorem w_ixLs (h : SqL K H p xs) (ha : atI xs i = some v) (q : Q v H) : rIxL K (.ref p) (.int i) H Q := ⟨p, xs, i, v, rfl, rfl, h, ha, q⟩
theorem w_ixT (h : H p = some (.tup xs)) (ha : atI xs i = some v) (q : Q v H) : rIxT K (.ref p) (.int i) H Q := ⟨p, xs, i, v, rfl, rfl, .inl (.inl h), ha, q⟩
theorem w_ixTs (h : SqT K H p xs) (ha : atI xs i = some v) (q : Q v H) : rIxT K (.ref p) (.int i) H Q := ⟨p, xs, i, v, rfl, rfl, h, ha, q⟩
theorem w_sub {to ti : TE} {t : TSet} {Q : L2.St → Hp → Prop} (q : to σ H fun o H1 => ti σ H1 fun i H2 => t o i v H2 fun H3 => Q σ H3) : gSub to ti t v σ H Q := q
theorem w_lenL (h : H p = some (.lst xs)) (q : Q (.int (xs.length : Int)) H) : rLenQ K [.ref p] H Q := ⟨p, xs, rfl, .inl (.inl (.inl h)), q⟩
theorem w_lenLs (h : SqL K H p xs) (q : Q (.int (xs.length : Int)) H) : rLenQ K [.ref p] H Q := ⟨p, xs, rfl, .inl h, q⟩
theorem w_lenT (h : H p = some (.tup xs)) (q : Q (.int (xs.length : Int)) H) : rLenQ K [.ref p] H Q := ⟨p, xs, rfl, .inr (.inl (.inl h)), q⟩
theorem w_int1 (q : Q (.int i) H) : rIntQ [.int i] H Q := .inl ⟨i, rfl, q⟩
theorem w_abs (q : Q (.int (if i < 0 then -i else i)) H) : rAbsQ [.int i] H Q := ⟨i, rfl, q⟩
theorem ixN_lit {n : Nat} {j : Nat} (h : j < n) : ixN n (j : Int) = some j := by
  unfold ixN
  rw [if_pos (Int.natCast_nonneg _), if_pos (by omega)]
  simp
theorem atI_of {α : Type} {xs : List α} {i : Int} {v : α} (h0 : 0 ≤ i) (h : xs[i.toNat]? = some v) : atI xs i = some v := by
  have e : ((i.toNat : Nat) : Int) = i := Int.toNat_of_nonneg h0
  have z := atI_nat (j := i.toNat) h
  rw [e] at z
  exact z
end
section
variable {K : PySem.W.Frag} {σ : L2.St} {H : Hp} {D : Ends} {g : TG} {tb : TS} {wi : TI} {tl : TE} {R : It → Hp → Prop}
theorem w_for (q : wi σ H (kFor g tb D σ)) : tFor wi g tb D σ H := q
theorem w_iL (q : tl σ H (kIL K R)) : iList K tl σ H R := q
theorem w_iT (q : tl σ H (kIT K R)) : iTup K tl σ H R := q
theorem w_rng1 {ta : TA} (q : ta σ H (kR1 R)) : iRng1 ta σ H R := q
theorem w_rng2 {ta : TA} (q : ta σ H (kR2 R)) : iRng2 ta σ H R := q
theorem w_kR1 {j : Int} (h0 : -(2 ^ 62) ≤ j) (h1 : j < 2 ^ 62) (q : R (Itr 0 j.toNat) H) : kR1 R [.int j] H := ⟨j, rfl, h0, h1, q⟩
theorem w_forL {a : Addr} (xs : List V) (Pv : Nat → L2.St → Hp → Prop) (hS : SqL K H a xs) (h0 : Pv 0 σ H) (hl : ∀ i σ H, i ≤ xs.length → Pv i σ H → SqL K H a xs)
    (hs : ∀ i x σ H, xs[i]? = some x → Pv i σ H → g x σ H fun σ2 H2 => tb { D with nx := Pv (i + 1), ct := Pv (i + 1), bk := D.nx } σ2 H2) (hd : ∀ σ H, Pv xs.length σ H → D.nx σ H) : kIL K (kFor g tb D σ) (.ref a) H :=
  ⟨a, rfl, ⟨_, hS⟩, for_list (K := K) (a := a) (xs := xs) Pv h0 hl hs hd⟩
theorem w_forT {a : Addr} (xs : List V) (Pv : Nat → L2.St → Hp → Prop) (hS : SqT K H a xs) (h0 : Pv 0 σ H) (hl : ∀ i σ H, i ≤ xs.length → Pv i σ H → SqT K H a xs)
    (hs : ∀ i x σ H, xs[i]? = some x → Pv i σ H → g x σ H fun σ2 H2 => tb { D with nx := Pv (i + 1), ct := Pv (i + 1), bk := D.nx } σ2 H2) (hd : ∀ σ H, Pv xs.length σ H → D.nx σ H) : kIT K (kFor g tb D σ) (.ref a) H :=
  ⟨a, rfl, ⟨_, hS⟩, for_tup (K := K) (a := a) (xs := xs) Pv h0 hl hs hd⟩
theorem w_forR {j : Int} (n : Nat) (Pv : Nat → L2.St → Hp → Prop) (hn : j.toNat = n) (hj : n < 4611686018427387904 ∧ -4611686018427387904 ≤ j) (h0 : Pv 0 σ H)
    (hs : ∀ i σ H, i < n → Pv i σ H → g (.int (i : Int)) σ H fun σ2 H2 => tb { D with nx := Pv (i + 1), ct := Pv (i + 1), bk := D.nx } σ2 H2) (hd : ∀ σ H, Pv n σ H → D.nx σ H) : kR1 (kFor g tb D σ) [.int j] H := by
  refine ⟨j, rfl, by show -4611686018427387904 ≤ j; omega, by show j < 4611686018427387904; omega, ?_⟩
  subst hn
  refine for_range (lo := 0) (n := j.toNat) Pv h0 (fun i σ H hi p => ?_) hd
  rw [Int.zero_add]
  exact hs i σ H hi p
theorem w_yes {Q : Bool → Hp → Prop} (q : Q true H) : tYes σ H Q := q
theorem w_lc {tt : TT} {te : TE} {vs : List Nat} {Q : VK} (q : wi σ H (kLc g tt te vs σ Q)) : tLc wi g tt te vs σ H Q := q
theorem w_lcL {tt : TT} {te : TE} {vs : List Nat} {Q : VK} {a : Addr} (xs : List V) (Pv : Addr → Nat → Hp → Prop) (hS : SqL K H a xs) (h0 : ∀ D, H D = none → Pv D 0 (upd H D (.lst []))) (hl : ∀ D i H, i ≤ xs.length → Pv D i H → SqL K H a xs)
    (hs : ∀ D i x H, xs[i]? = some x → Pv D i H → g x (wipe σ vs) H fun σ2 H2 => wipe σ2 vs = wipe σ vs ∧ tt σ2 H2 fun b H3 =>
      if b = true then te σ2 H3 fun y H4 => ∃ acc, H4 D = some (.lst acc) ∧ acc.length < sizeLine ∧ Pv D (i + 1) (upd H4 D (.lst (acc ++ [y]))) else Pv D (i + 1) H3) (hd : ∀ D H', H D = none → Pv D xs.length H' → Q (.ref D) H') : kIL K (kLc g tt te vs σ Q) (.ref a) H :=
  ⟨a, rfl, ⟨_, hS⟩, fun D nD => lc_list (K := K) (a := a) (xs := xs) (Pv D) (h0 D nD) (hl D) (hs D) (fun H' p => hd D H' nD p)⟩
theorem w_lcT {tt : TT} {te : TE} {vs : List Nat} {Q : VK} {a : Addr} (xs : List V) (Pv : Addr → Nat → Hp → Prop) (hS : SqT K H a xs) (h0 : ∀ D, H D = none → Pv D 0 (upd H D (.lst []))) (hl : ∀ D i H, i ≤ xs.length → Pv D i H → SqT K H a xs)
    (hs : ∀ D i x H, xs[i]? = some x → Pv D i H → g x (wipe σ vs) H fun σ2 H2 => wipe σ2 vs = wipe σ vs ∧ tt σ2 H2 fun b H3 =>
      if b = true then te σ2 H3 fun y H4 => ∃ acc, H4 D = some (.lst acc) ∧ acc.length < sizeLine ∧ Pv D (i + 1) (upd H4 D (.lst (acc ++ [y]))) else Pv D (i + 1) H3) (hd : ∀ D H', H D = none → Pv D xs.length H' → Q (.ref D) H') : kIT K (kLc g tt te vs σ Q) (.ref a) H :=
  ⟨a, rfl, ⟨_, hS⟩, fun D nD => lc_tup (K := K) (a := a) (xs := xs) (Pv D) (h0 D nD) (hl D) (hs D) (fun H' p => hd D H' nD p)⟩
theorem w_lcR {tt : TT} {te : TE} {vs : List Nat} {Q : VK} {j : Int} (n : Nat) (Pv : Addr → Nat → Hp → Prop) (hn : j.toNat = n) (hj : n < 4611686018427387904 ∧ -4611686018427387904 ≤ j) (h0 : ∀ D, H D = none → Pv D 0 (upd H D (.lst [])))
    (hs : ∀ D i H, i < n → Pv D i H → g (.int (i : Int)) (wipe σ vs) H fun σ2 H2 => wipe σ2 vs = wipe σ vs ∧ tt σ2 H2 fun b H3 =>
      if b = true then te σ2 H3 fun y H4 => ∃ acc, H4 D = some (.lst acc) ∧ acc.length < sizeLine ∧ Pv D (i + 1) (upd H4 D (.lst (acc ++ [y]))) else Pv D (i + 1) H3) (hd : ∀ D H', H D = none → Pv D n H' → Q (.ref D) H') : kR1 (kLc g tt te vs σ Q) [.int j] H := by
  refine ⟨j, rfl, by show -4611686018427387904 ≤ j; omega, by show j < 4611686018427387904; omega, ?_⟩
  subst hn
  refine fun D nD => lc_range (lo := 0) (n := j.toNat) (Pv D) (h0 D nD) (fun i H hi p => ?_) (fun H' p => hd D H' nD p)
  rw [Int.zero_add]
  exact hs D i H hi p
end
theorem take_more {α : Type} : ∀ {l : List α} {i : Nat} {x : α}, l[i]? = some x → l.take (i + 1) = l.take i ++ [x]
  | [], i, x, h => by simp at h
  | a :: l, 0, x, h => by
    have e : a = x := Option.some.inj h
    subst e
    rfl
  | a :: l, i + 1, x, h => by
    have ih := take_more (l := l) (i := i) (x := x) h
    show a :: l.take (i + 1) = a :: l.take i ++ [x]
    rw [ih]
    rfl
theorem map_get {ns : List Int} {i : Nat} {x : V} (h : (ns.map V.int)[i]? = some x) : ∃ n, ns[i]? = some n ∧ x = .int n := by
  rw [List.getElem?_map] at h
  cases e : ns[i]? with
  | none => rw [e] at h; cases h
  | some z => rw [e] at h; exact ⟨z, rfl, (Option.some.inj h).symm⟩
theorem w_p32 {H : Hp} {Q : VK} (q : Q (.int 4294967296) H) : rI CPow (fun i j => .int (i ^ j.toNat)) (.int 2) (.int 32) H Q := ⟨2, 32, rfl, rfl, ⟨by decide, by decide, by decide⟩, q⟩
theorem w_p31 {H : Hp} {Q : VK} (q : Q (.int 2147483648) H) : rI CPow (fun i j => .int (i ^ j.toNat)) (.int 2) (.int 31) H Q := ⟨2, 31, rfl, rfl, ⟨by decide, by decide, by decide⟩, q⟩
theorem w_p26 {H : Hp} {Q : VK} (q : Q (.int 67108864) H) : rI CPow (fun i j => .int (i ^ j.toNat)) (.int 2) (.int 26) H Q := ⟨2, 26, rfl, rfl, ⟨by decide, by decide, by decide⟩, q⟩
theorem w_p22 {H : Hp} {Q : VK} (q : Q (.int 4194304) H) : rI CPow (fun i j => .int (i ^ j.toNat)) (.int 2) (.int 22) H Q := ⟨2, 22, rfl, rfl, ⟨by decide, by decide, by decide⟩, q⟩
theorem w_p20 {H : Hp} {Q : VK} (q : Q (.int 1048576) H) : rI CPow (fun i j => .int (i ^ j.toNat)) (.int 2) (.int 20) H Q := ⟨2, 20, rfl, rfl, ⟨by decide, by decide, by decide⟩, q⟩
theorem w_p18 {H : Hp} {Q : VK} (q : Q (.int 262144) H) : rI CPow (fun i j => .int (i ^ j.toNat)) (.int 2) (.int 18) H Q := ⟨2, 18, rfl, rfl, ⟨by decide, by decide, by decide⟩, q⟩
theorem w_p17 {H : Hp} {Q : VK} (q : Q (.int 131072) H) : rI CPow (fun i j => .int (i ^ j.toNat)) (.int 2) (.int 17) H Q := ⟨2, 17, rfl, rfl, ⟨by decide, by decide, by decide⟩, q⟩
theorem w_p16 {H : Hp} {Q : VK} (q : Q (.int 65536) H) : rI CPow (fun i j => .int (i ^ j.toNat)) (.int 2) (.int 16) H Q := ⟨2, 16, rfl, rfl, ⟨by decide, by decide, by decide⟩, q⟩
theorem w_p14 {H : Hp} {Q : VK} (q : Q (.int 16384) H) : rI CPow (fun i j => .int (i ^ j.toNat)) (.int 2) (.int 14) H Q := ⟨2, 14, rfl, rfl, ⟨by decide, by decide, by decide⟩, q⟩
theorem w_p13 {H : Hp} {Q : VK} (q : Q (.int 8192) H) : rI CPow (fun i j => .int (i ^ j.toNat)) (.int 2) (.int 13) H Q := ⟨2, 13, rfl, rfl, ⟨by decide, by decide, by decide⟩, q⟩
/-- all but d stays -/
def But (d : Addr) (H H' : Hp) : Prop := ∀ b o, b ≠ d → H b = some o → H' b = some o
theorem But.refl (d : Addr) (H : Hp) : But d H H := fun _ _ _ h => h
theorem But.trans {d : Addr} {H H1 H2 : Hp} (a : But d H H1) (b : But d H1 H2) : But d H H2 := fun c o n h => b c o n (a c o n h)
theorem But.of {d : Addr} {H H' : Hp} (s : Same H H') : But d H H' := fun b o _ h => s b o h
theorem But.set {d : Addr} {H : Hp} {o : HO} : But d H (upd H d o) := fun b u n h => by rw [upd_ne n]; exact h
theorem But.tup {d : Addr} {H H' : Hp} {xs ys : List V} {a : Addr} (b : But d H H') (hd : H d = some (.lst ys)) (h : H a = some (.tup xs)) : H' a = some (.tup xs) := b a _ (ne_of h hd (by intro z; cases z)) h
theorem Same.new {H : Hp} {p : Addr} {o : HO} (h : H p = none) : Same H (upd H p o) := fun b x e => by rw [upd_ne (ne_of_none e h)]; exact e
theorem But.new {d : Addr} {H : Hp} {p : Addr} {o : HO} (h : H p = none) : But d H (upd H p o) := .of (Same.new h)
theorem w_setL {p : Addr} {xs : List V} {i : Int} {v : V} {H : Hp} {j : Nat} {Q : Hp → Prop} (h : H p = some (.lst xs)) (hj : ixN xs.length i = some j) (q : ∀ H', H' p = some (.lst (xs.set j v)) → But p H H' → Q H') : rSetL (.ref p) (.int i) v H Q := ⟨p, xs, i, j, rfl, rfl, h, hj, q _ upd_same But.set⟩
section
variable {X : Cx} {k i : Nat} {x : Str} {p pos : Pos} {e : Expr} {es : List Expr} {t : TA}
/-- a local that holds a def, called -/
def tCallZ (P : Program) (w : World) (K : PySem.W.Frag) (mg : Str → Option Value) (base : Heap) (k i : Nat) (t : TA) : TE := fun σ H Q => ∃ f sp, σ[i]? = some (some (.ref f)) ∧ Held P w K mg base k f sp ∧ t σ H fun vs H1 => sp vs H1 Q E0
theorem pe_callZ (hr : Room k X.A) (hN : X.N[i]? = some x) (hv : Vis X.env.scope x) (ha : PA X (e :: es) t)
    (hdb : (x == ("__debug__" : Str)) = false := by decide) (hcd : (x == ("__classdict__" : Str)) = false := by decide)
    (he : starEach (e :: es) X.env = (false, eval e X.env) :: starEach es X.env := by rfl) (hpl : (backTo pos (starEach es X.env)).any (·.1) = false := by rfl) : PE X (.Call (.Name x p) (e :: es) [] pos) (tCallZ X.prog X.w X.K X.mg X.base k i t) := by
  refine ⟨fun pins s σ H Q I h => ?_⟩
  obtain ⟨f, sp, hs, hd, ht⟩ := h
  obtain ⟨fd, ps, F, hk, hb⟩ := hd.ex
  refine (pe_callL (i := i) (f := f) (sp := sp) (dvs := []) (E := E0) F hr hN hv hk hb .nil pass0 ha hdb hcd he hpl).run pins s σ H Q I ⟨hs, ?_⟩
  show t σ H (fun vs H1 => sp (vs ++ []) H1 Q E0)
  simp only [List.append_nil]
  exact ht
end
theorem w_callZ {P : Program} {w : World} {K : PySem.W.Frag} {mg : Str → Option Value} {base : Heap} {k i : Nat} {t : TA} {σ : L2.St} {H : Hp} {Q : VK} {f : Addr} {sp : Sp} (hs : σ[i]? = some (some (.ref f))) (h : Held P w K mg base k f sp) (q : t σ H fun vs H1 => sp vs H1 Q E0) : tCallZ P w K mg base k i t σ H Q := ⟨f, sp, hs, h, q⟩
theorem w_ixD {K : PySem.W.Frag} {w : World} {p : Addr} {z : Str} {v : V} {H : Hp} {Q : VK} (h : KDct K w p z v) (q : Q v H) : rIxD K w (.ref p) (.str z) H Q := ⟨p, z, v, rfl, rfl, h, q⟩
theorem w_eqS {a b : Str} {H : Hp} {Q : VK} (q : Q (.bl (decide (a = b))) H) : rEq (.str a) (.str b) H Q := ⟨rfl, by
  have e : (decide (V.str a = V.str b)) = decide (a = b) := by
    by_cases h : a = b
    · subst h; simp
    · rw [decide_eq_false h, decide_eq_false (fun z => h (V.str.inj z))]
  rw [e]; exact q⟩
theorem w_decT {c : Prop} [Decidable c] {A B : Prop} (h : c) (q : A) : if decide c = true then A else B := by
  rw [if_pos (decide_eq_true h)]; exact q
theorem w_decF {c : Prop} [Decidable c] {A B : Prop} (h : ¬ c) (q : B) : if decide c = true then A else B := by
  rw [if_neg (by rw [decide_eq_false h]; exact Bool.false_ne_true)]; exact q
theorem w_inL {K : PySem.W.Frag} {x : V} {p : Addr} {xs : List V} {H : Hp} {Q : VK} {b : Bool} (h : H p = some (.lst xs)) (hx : flatV x = true) (ha : xs.all flatV = true) (hb : inV x xs = b) (q : Q (.bl b) H) : rIn K false x (.ref p) H Q := ⟨p, xs, rfl, .inl (.inl (.inl h)), hx, ha, by rw [hb]; exact q⟩
def rAddSQ : R2 := fun x y H Q => ∃ i j, x = .str i ∧ y = .str j ∧ i.length + j.length ≤ sizeLine ∧ Q (.str (i ++ j)) H
theorem op_addSQ {X : Cx} : OpR X (binaryOp .Add) rAddSQ := op_add_str
theorem w_addS {a b : Str} {H : Hp} {Q : VK} (h : a.length + b.length ≤ sizeLine) (q : Q (.str (a ++ b)) H) : rAddSQ (.str a) (.str b) H Q := ⟨a, b, rfl, rfl, h, q⟩
section
variable {X : Cx} {c a b : Expr} {tc ta tb : TT} {pos : Pos}
/-- a if c else b, as a test -/
def tIfB (tc ta tb : TT) : TT := fun σ H Q => tc σ H fun k H1 => if k = true then ta σ H1 Q else tb σ H1 Q
theorem pt_ifExp (hc : PT X c tc) (ha : PT X a ta) (hb : PT X b tb) : PT X (.IfExp c a b pos) (tIfB tc ta tb) := by
  refine ⟨fun pins s σ H Q I h => ?_⟩
  refine isTrue_IfExp (thn (hc.run pins s σ H _ I h) fun k s1 ⟨H1, I1, q⟩ => ?_)
  cases k with
  | true => exact ha.run pins s1 σ H1 Q I1 (by simpa using q)
  | false => exact hb.run pins s1 σ H1 Q I1 (by simpa using q)
theorem w_ifB {σ : L2.St} {H : Hp} {Q : Bool → Hp → Prop} (q : tc σ H fun k H1 => if k = true then ta σ H1 Q else tb σ H1 Q) : tIfB tc ta tb σ H Q := q
end
theorem w_gTup {K : PySem.W.Frag} {n : Nat} {t : TGs} {a : Addr} {xs : List V} {σ : L2.St} {H : Hp} {Q : L2.St → Hp → Prop} (h : H a = some (.tup xs)) (hn : xs.length = n) (q : t xs σ H Q) : gTup K n t (.ref a) σ H Q := ⟨a, xs, rfl, .inl (.inl h), hn, q⟩
theorem w_gNil {σ : L2.St} {H : Hp} {Q : L2.St → Hp → Prop} (q : Q σ H) : gNil [] σ H Q := ⟨rfl, q⟩
theorem w_gCons {t : TG} {u : TGs} {v : V} {r : List V} {σ : L2.St} {H : Hp} {Q : L2.St → Hp → Prop} (q : t v σ H fun σ' H' => u r σ' H' Q) : gCons t u (v :: r) σ H Q := ⟨v, r, rfl, q⟩
theorem w_isB {a b : Bool} {H : Hp} {Q : VK} (q : Q (.bl (decide (a = b))) H) : rIsB (.bl a) (.bl b) H Q := ⟨a, b, rfl, rfl, q⟩
theorem w_notB {a b : Bool} {H : Hp} {Q : VK} (q : Q (.bl (!decide (a = b))) H) : rNotB (.bl a) (.bl b) H Q := ⟨a, b, rfl, rfl, q⟩
theorem w_isiInt {K : PySem.W.Frag} {i : Int} {H : Hp} {Q : VK} (q : Q (.bl true) H) : rIsi K [.int i, .ty "int"] H Q := ⟨.int i, .ty "int", .type "int", .type "int", true, rfl, .ty _, .base (.int _), kit_ty (by decide +kernel), q⟩
theorem w_isiIntB {K : PySem.W.Frag} {i : Int} {H : Hp} {Q : VK} (q : Q (.bl false) H) : rIsi K [.int i, .ty "bool"] H Q := ⟨.int i, .ty "bool", .type "int", .type "bool", false, rfl, .ty _, .base (.int _), kit_ty (by decide +kernel), q⟩
theorem w_ndecF {c : Prop} [Decidable c] {A B : Prop} (h : c) (q : B) : if (!decide c) = true then A else B := by
  rw [if_neg (by rw [decide_eq_true h]; decide)]; exact q
theorem w_ndecT {c : Prop} [Decidable c] {A B : Prop} (h : ¬ c) (q : A) : if (!decide c) = true then A else B := by
  rw [if_pos (by rw [decide_eq_false h]; rfl)]; exact q
theorem w_nT {A B : Prop} (q : B) : if (!true) = true then A else B := by rw [if_neg (by decide)]; exact q
theorem w_nF {A B : Prop} (q : A) : if (!false) = true then A else B := by rw [if_pos (by decide)]; exact q
theorem map_get' {α : Type} {f : α → V} {ns : List α} {i : Nat} {x : V} (h : (ns.map f)[i]? = some x) : ∃ n, n ∈ ns ∧ ns[i]? = some n ∧ x = f n := by
  rw [List.getElem?_map] at h
  cases e : ns[i]? with
  | none => rw [e] at h; cases h
  | some z => rw [e] at h; exact ⟨z, List.mem_of_getElem? e, rfl, (Option.some.inj h).symm⟩
/-- pure functions of ints -/
def spI1 (C : Int → Prop) (f : Int → V) : Sp := fun vs H Q _ => ∃ x, vs = [.int x] ∧ C x ∧ Q (f x) H
def spI2 (C : Int → Int → Prop) (f : Int → Int → V) : Sp := fun vs H Q _ => ∃ x y, vs = [.int x, .int y] ∧ C x y ∧ Q (f x y) H
theorem w_spI1 {C : Int → Prop} {f : Int → V} {x : Int} {H : Hp} {Q : VK} {E : XK} (c : C x) (q : Q (f x) H) : spI1 C f [.int x] H Q E := ⟨x, rfl, c, q⟩
theorem w_spI2 {C : Int → Int → Prop} {f : Int → Int → V} {x y : Int} {H : Hp} {Q : VK} {E : XK} (c : C x y) (q : Q (f x y) H) : spI2 C f [.int x, .int y] H Q E := ⟨x, y, rfl, c, q⟩
theorem len_spI1 {C : Int → Prop} {f : Int → V} {s : Str} (vs : List V) (H : Hp) (Q : VK) (E : XK) (h : spI1 C f vs H Q E) : vs.length = [s].length := by
  obtain ⟨x, rfl, _⟩ := h; rfl
theorem len_spI2 {C : Int → Int → Prop} {f : Int → Int → V} {s r : Str} (vs : List V) (H : Hp) (Q : VK) (E : XK) (h : spI2 C f vs H Q E) : vs.length = [s, r].length := by
  obtain ⟨x, y, rfl, _⟩ := h; rfl
/-- a Cd from a def that stands -/
theorem mkCd {P : Program} {w : World} {K : PySem.W.Frag} {mg : Str → Option Value} {base : Heap} {x qual : Str} {st : Stmt} {f : Addr} {fd : FuncData} {k : Nat} {ps : List Str} {sp : Sp} (F : Fun K x qual st f fd) (b : Binds K fd ps []) (m : mg x = some (.ref f)) (ok : FnOk P w K mg base CX0 k f fd ps sp) : Cd P w K mg base k x sp :=
  ⟨f, fd, ps, ok, m, F.kp, b⟩
/-- what stands: the def, how its arguments bind, its name -/
structure St1 (K : PySem.W.Frag) (mg : Str → Option Value) (x : Str) (st : Stmt) (ps : List Str) : Prop where
  ex : ∃ f fd, Fun K x x st f fd ∧ Binds K fd ps [] ∧ mg x = some (.ref f)
theorem St1.cd {P : Program} {w : World} {K : PySem.W.Frag} {mg : Str → Option Value} {base : Heap} {x : Str} {st : Stmt} {k : Nat} {N ps : List Str} {sp : Sp} (Z : St1 K mg x st ps) (S : FnScope N ps (defScope st)) (len : ∀ vs H Q E, sp vs H Q E → vs.length = ps.length)
    (hbody : ∀ (f : Addr) (cdv : Value) (A : Around) (outer : List Env) (s : Shared) (H : Hp) (vs : List V) (Q : VK) (E : XK), Room k (A.deeper (envOfC x (defScope st) s.heap.objs.size f cdv)) → sp vs H Q E →
      ∃ t, PSs (cxOf CX0 P w K mg base N x (defScope st) f cdv A outer s H E).nox (defBody st) t ∧ t { nx := fun _ H' => Q .non H', rt := Q } (start N vs) H) : Cd P w K mg base (k + 1) x sp := by
  obtain ⟨f, fd, F, b, m⟩ := Z.ex
  exact mkCd F b m (F.ok S len (hbody f))
theorem mkSt1 {K : PySem.W.Frag} {mg : Str → Option Value} {x : Str} {st : Stmt} {ps : List Str} {h : Heap} {f : Addr} {oc : Value} {od an : Option Addr} {osl : Array (Option Value)} {kV doc pm cdv ct : Value} (X : K.In h) (G : h.Ns mainGlobals mg)
    (a : PySem.W.nsIn K mainGlobals x = some (some (.ref f))) (l : K.lookup f = some ⟨oc, od, .func (PySem.W.fnOf x x (defArgs st) (defBody st) (defScope st) .none kV doc pm an cdv ct), osl⟩) (c : PySem.W.codeIn K cdv x = true) (k : PySem.W.keepIn K (.ref f) = true)
    (hb : ∀ (kV doc pm : Value) (an : Option Addr) (cdv ct : Value) (us : List Value), us.length = ps.length → bindArgs (PySem.W.fnOf x x (defArgs st) (defBody st) (defScope st) .none kV doc pm an cdv ct) ⟨us, []⟩ = pure (ps.zip us)) : St1 K mg x st ps :=
  ⟨f, _, fun_mk (st := st) l c k, (fun_mk (st := st) l c k).binds hb, PySem.W.mg_of X G a⟩
/-- a def among others that a local may hold -/
theorem Cd.held {P : Program} {w : World} {K : PySem.W.Frag} {mg : Str → Option Value} {base : Heap} {k : Nat} {x : Str} {sp : Sp} {f : Addr} (c : Cd P w K mg base k x sp) (m : mg x = some (.ref f)) : Held P w K mg base k f sp := by
  obtain ⟨f', fd, ps, F, m', kp, b⟩ := c.ex
  cases m'.symm.trans m
  exact ⟨⟨fd, ps, F, kp, b⟩⟩
end Co

set_option Elab.async false
set_option linter.all false
set_option maxRecDepth 100000
set_option maxHeartbeats 4000000
namespace Co
open PySem PySem.Spec PyProof.Rows L2 PpSet
/-! ### a comprehension, clause by clause: one rule for each clause's loop, whatever its turn does -/
/-- a clause's turn, what is done with an item told apart -/
def turnOf (tg src : Expr) (ifs : List Expr) (it : Value) (env : Env) (body : Sem Unit) (c : Code) : Sem PySem.Fin := do
  standAt src.pos
  match ← pyNext it with
  | none => pure (.done .next)
  | some v =>
    letOwnedTupleGo tg it v
    assign tg env v
    let mut ok := true
    for c in ifs do
      if ok then ok ← isTrue c env (eval c env)
    if ok then body
    again c
/-- the body of the innermost clause of a set's comprehension -/
def addTo (elt : Expr) (acc : Value) (env : Env) : Sem Unit := do
  let v ← eval elt env
  standAt elt.pos
  let _ ← call (.builtin "set.add") [acc, v]
theorem turn_s1 (elt t i : Expr) (ifs : List Expr) (sc : Scope) (pos : Pos) (it acc : Value) (env : Env) :
    compTurn (.SetComp elt [⟨t, i, ifs, 0⟩] sc pos) 0 it acc env = turnOf t i ifs it env (addTo elt acc env) (.compLoop (.SetComp elt [⟨t, i, ifs, 0⟩] sc pos) 0 it acc env) := by rfl
theorem turn_s2b (elt t i t1 i1 : Expr) (ifs ifs1 : List Expr) (sc : Scope) (pos : Pos) (it acc : Value) (env : Env) :
    compTurn (.SetComp elt [⟨t, i, ifs, 0⟩, ⟨t1, i1, ifs1, 0⟩] sc pos) 1 it acc env = turnOf t1 i1 ifs1 it env (addTo elt acc env) (.compLoop (.SetComp elt [⟨t, i, ifs, 0⟩, ⟨t1, i1, ifs1, 0⟩] sc pos) 1 it acc env) := by rfl
/-- what an outer clause does with an item: the next clause begins -/
def beginIn (C : Expr) (i1 : Expr) (k : Nat) (acc : Value) (env : Env) : Sem Unit := do
  let x ← eval i1 env
  standAt i1.pos
  let x ← foldedSetIterable i1 env x
  let _ ← runOwn (.compStart C k (← holding [x] (pyIter x)) acc env) env
theorem turn_s2a (elt t i t1 i1 : Expr) (ifs ifs1 : List Expr) (sc : Scope) (pos : Pos) (it acc : Value) (env : Env) :
    compTurn (.SetComp elt [⟨t, i, ifs, 0⟩, ⟨t1, i1, ifs1, 0⟩] sc pos) 0 it acc env = turnOf t i ifs it env (beginIn (.SetComp elt [⟨t, i, ifs, 0⟩, ⟨t1, i1, ifs1, 0⟩] sc pos) i1 1 acc env) (.compLoop (.SetComp elt [⟨t, i, ifs, 0⟩, ⟨t1, i1, ifs1, 0⟩] sc pos) 0 it acc env) := by
  unfold turnOf beginIn
  simp only [bind_assoc, pure_bind]
  rfl

/-- no exception -/
abbrev Never : Value → Shared → Prop := fun _ _ => False
section
variable {prog : Program} {w : World} {A : Around} {s : Shared} {elt : Expr} {gens : List Comprehension} {sc : Scope} {pos : Pos} {k : Nat} {it acc : Value} {env : Env} {tg src : Expr} {ifs : List Expr} {body : Sem Unit}
/-- the tests of a clause -/
def testsOf (ifs : List Expr) (env : Env) : Sem Bool := forIn ifs true fun c r => if r = true then do let ok ← isTrue c env (eval c env); pure (ForInStep.yield ok) else pure (ForInStep.yield r)
/-- one turn: from I n either the source is at its end, or an item goes through and a lesser n is reached -/
theorem clause_loop {R : Shared → Prop} (hC : compTurn (.SetComp elt gens sc pos) k it acc env = turnOf tg src ifs it env body (.compLoop (.SetComp elt gens sc pos) k it acc env)) (I : Nat → Shared → Prop)
    (turn : ∀ n s, I n s → wpAny (model prog w) A (pyNext it) (fun r s1 => (r = none ∧ R s1) ∨ ∃ v, r = some v ∧ wpAny (model prog w) A (letOwnedTupleGo tg it v) (fun _ s2 => wpAny (model prog w) A (assign tg env v) (fun _ s3 => wpAny (model prog w) A (testsOf ifs env) (fun ok s4 =>
      if ok = true then wpAny (model prog w) A body (fun _ s5 => ∃ m, m < n ∧ I m s5) Never s4 else ∃ m, m < n ∧ I m s4) Never s3) Never s2) Never s1) Never s) (n : Nat) (h : I n s) :
    codeAny (model prog w) A (.compLoop (.SetComp elt gens sc pos) k it acc env) (fun r s' => r = .ok .next ∧ R s') s := by
  refine codeAny_loop rfl I (fun n s hI => ?_) n h
  show wpAny _ A ((compTurn (.SetComp elt gens sc pos) k it acc env).onRaise fun x => do noteFrame x env; theTreesLotGoes x) _ _ s
  rw [hC]
  refine wpAny_noted (wpAny_bind (wpAny_standAt (wpAny_bind (thnF (turn n s hI) fun r s1 h1 => ?_))))
  rcases h1 with ⟨rfl, q⟩ | ⟨v, rfl, q⟩
  · exact wpAny_pure ⟨rfl, q⟩
  · refine wpAny_bind (thnF q fun _ s2 q => wpAny_bind (thnF q fun _ s3 q => wpAny_bind (thnF q fun ok s4 q => ?_)))
    cases ok with
    | false => exact wpAny_pure ⟨rfl, q⟩
    | true => exact wpAny_bind (thnF q fun _ s5 q => wpAny_pure ⟨rfl, q⟩)
end
/-! ### the same over the abstract heap -/
/-- what a turn's body does: it leaves the slots beyond vs as they were, and a heap of K -/
abbrev TBd := L2.St → Hp → (Hp → Prop) → Prop
def Kept (vs : List Nat) (σ σ' : L2.St) : Prop := σ'.length = σ.length ∧ ∀ (j : Nat) (v : V), j ∉ vs → σ[j]? = some (some v) → σ'[j]? = some (some v)
theorem Kept.refl {vs : List Nat} {σ : L2.St} : Kept vs σ σ := ⟨rfl, fun _ _ _ e => e⟩
structure PB (X : Cx) (vs : List Nat) (body : Sem Unit) (tb : TBd) : Prop where
  run : ∀ (pins : List (Addr × Obj)) (s : Shared) (σ : L2.St) (H : Hp) (Z : Hp → Prop), Inv X pins σ H s → tb σ H Z → wpAny (model X.prog X.w) X.A body (fun _ s' => ∃ σ' H', Inv X pins σ' H' s' ∧ Kept vs σ σ' ∧ Z H') Never s
/-- a clause's loop over its source -/
def tLp (g : TG) (tt : TT) (tb : TBd) (vs : List Nat) (σ : L2.St) (Z : Hp → Prop) : It → Hp → Prop := fun J H0 => ∃ W : Nat → Nat → Hp → Prop, (∃ m, W 0 m H0) ∧ ∀ i m H, W i m H →
  (J.stop i H ∧ Z H) ∨ (J.go i H ∧ ∃ Nx : Hp → Prop, (∀ H', Nx H' → ∃ m', m' < m ∧ W (i + 1) m' H') ∧ ∀ x H', J.yld i H x H' → g x (wipe σ vs) H' fun σ2 H2 => wipe σ2 vs = wipe σ vs ∧ tt σ2 H2 fun b H3 => if b = true then tb σ2 H3 Nx else Nx H3)
theorem kept_wipe {vs : List Nat} {σ σ2 : L2.St} (h : wipe σ2 vs = wipe σ vs) : (wipe σ vs).length = σ2.length ∧ ∀ (j : Nat) (v : V), (wipe σ vs)[j]? = some (some v) → j ∉ vs ∧ σ2[j]? = some (some v) := by
  rw [← h]
  exact ⟨wipe_length _ _, fun j v e => ⟨(wipe_some e).2, (wipe_some e).1⟩⟩
section
variable {X : Cx} {s : Shared} {elt : Expr} {gens : List Comprehension} {sc : Scope} {pos : Pos} {k : Nat} {acc : Value} {tg src : Expr} {ifs : List Expr} {body : Sem Unit} {g : TG} {tt : TT} {tb : TBd} {wb vs : List Nat}
/-- THE RULE for a clause: its loop, from the state in which its source has just been asked for an iterator -/
theorem clause_run {pins : List (Addr × Obj)} {σ : L2.St} {H : Hp} {it : Addr} {fp : List Addr} {tn : Nat → Heap → Prop} {J : It} {Z : Hp → Prop} (hc : X.calm = true) (never : ∀ e s, X.xe e s → False) (hC : compTurn (.SetComp elt gens sc pos) k (.ref it) acc X.env = turnOf tg src ifs (.ref it) X.env body (.compLoop (.SetComp elt gens sc pos) k (.ref it) acc X.env))
    (hg : PG X tg g) (ht : PTs X ifs tt) (hb : PB X wb body tb) (hw : ∀ j ∈ wb, j ∈ vs) (T : Turn X.prog X.w X.K tg J fp it tn) (I : Inv X pins σ H s) (st : tn 0 s.heap) (hf : ∀ b ∈ fp, FpOk X pins H b) (q : tLp g tt tb vs σ Z J H) :
    codeAny (model X.prog X.w) X.A (.compLoop (.SetComp elt gens sc pos) k (.ref it) acc X.env) (fun r s' => r = .ok .next ∧ ∃ H', Inv X pins (wipe σ vs) H' s' ∧ (∀ b ∈ fp, H' b = none) ∧ Z H') s := by
  obtain ⟨W, ⟨m0, w0⟩, turn⟩ := q
  have fpk : ∀ {H' : Hp}, (∀ b ∈ fp, H' b = none) → ∀ b ∈ fp, FpOk X pins H' b := fun z b hb => ⟨z b hb, (hf b hb).2⟩
  have nv : ∀ {α : Type} {t : Sem α} {Q : α → Shared → Prop} {s : Shared}, wpAny (model X.prog X.w) X.A t Q X.xe s → wpAny (model X.prog X.w) X.A t Q Never s := fun h => wpAny_mono h (fun _ _ q => q) never
  refine clause_loop (R := fun s' => ∃ H', Inv X pins (wipe σ vs) H' s' ∧ (∀ b ∈ fp, H' b = none) ∧ Z H') hC (fun n s' => ∃ i H', Inv X pins (wipe σ vs) H' s' ∧ tn i s'.heap ∧ (∀ b ∈ fp, H' b = none) ∧ W i n H') ?_ m0 ⟨0, H, I.weak (wipe_length _ _) fun j v e => (wipe_some e).1, st, fun b hb => (hf b hb).1, w0⟩
  rintro n s1 ⟨i, H1, I1, st1, n1, w1⟩
  rcases turn i n H1 w1 with ⟨stop, z⟩ | ⟨go, Nx, hNx, step⟩
  · exact thnF (T.done X rfl rfl rfl hc i pins s1 _ H1 Never I1 (fpk n1) st1 stop) fun r s2 ⟨e, I2⟩ => .inl ⟨e, H1, I2, n1, z⟩
  · refine thnF (T.item X rfl rfl rfl hc i pins s1 _ H1 Never I1 (fpk n1) st1 go) fun r s2 ⟨u, e, h2⟩ => .inr ⟨u, e, thnF h2 fun _ s3 ⟨x, H3, I3, r3, y3, st3, n3⟩ => ?_⟩
    have I3p := I3.pinned (fpk n3) (T.obj _ _ st3)
    have fin : ∀ {σ' : L2.St} {s' : Shared} {H' : Hp}, Inv X (pins ++ pinsAt fp s3.heap) σ' H' s' → σ'.length = (wipe σ vs).length → (∀ (j : Nat) (v : V), (wipe σ vs)[j]? = some (some v) → σ'[j]? = some (some v)) → Nx H' →
        ∃ m, m < n ∧ ∃ i H', Inv X pins (wipe σ vs) H' s' ∧ tn i s'.heap ∧ (∀ b ∈ fp, H' b = none) ∧ W i m H' := by
      intro σ' s' H' I' hl hk nx
      obtain ⟨m, hm, w2⟩ := hNx H' nx
      have pinned : ∀ b ∈ fp, ∃ o, s3.heap.get? b = some o ∧ s'.heap.get? b = some o ∧ H' b = none := fun b hb => by
        obtain ⟨o, e, _⟩ := T.obj _ _ st3 b hb
        have p := I'.pin (b, o) (List.mem_append_right _ (List.mem_append_right _ (mem_pinsAt hb e)))
        exact ⟨o, e, p.1, p.2.1⟩
      refine ⟨m, hm, i + 1, H', I'.unpinned.weak hl.symm hk, T.keep _ _ _ st3 fun b hb o e => ?_, fun b hb => ?_, w2⟩
      · obtain ⟨o', e1, e2, _⟩ := pinned b hb
        rw [e] at e1; cases e1; exact e2
      · obtain ⟨_, _, _, e⟩ := pinned b hb; exact e
    refine nv (thn (hg.run _ s3 _ H3 x u _ I3p r3 (step x H3 y3)) fun _ s4 ⟨σ4, H4, I4, hw4, q4⟩ => ?_)
    obtain ⟨l4, k4⟩ := kept_wipe hw4
    refine nv (thn (ht.run _ s4 σ4 H4 _ I4 q4) fun b s5 ⟨H5, I5, q5⟩ => ?_)
    cases b with
    | false => exact iteF (fin I5 l4.symm (fun j v e => (k4 j v e).2) (by simpa using q5))
    | true =>
      refine iteT (thnF (hb.run _ s5 σ4 H5 Nx I5 (by simpa using q5)) fun _ s6 ⟨σ6, H6, I6, kp, z⟩ => ?_)
      exact fin I6 (kp.1.trans l4.symm) (fun j v e => kp.2 j v (fun m => (k4 j v e).1 (hw j m)) (k4 j v e).2) z
end
section
variable {prog : Program} {w : World} {A : Around} {R : Result → Shared → Prop} {s : Shared} {elt : Expr} {gens : List Comprehension} {g : Comprehension} {sc : Scope} {pos : Pos} {k : Nat} {it acc : Value} {env : Env}
/-- a clause's beginning: its source's iterator is asked for itself, or not -/
theorem clause_start (hg : gens[k]? = some g) (ha : g.is_async = 0) (h0 : codeAny (model prog w) A (.compLoop (.SetComp elt gens sc pos) k it acc env) R s)
    (h1 : wpAny (model prog w) A (pyIter it) (fun v s' => codeAny (model prog w) A (.compLoop (.SetComp elt gens sc pos) k v acc env) R s') Never s) : codeAny (model prog w) A (.compStart (.SetComp elt gens sc pos) k it acc env) R s := by
  refine codeAny_of_tree ?_
  show wpAny _ _ ((compStart (.SetComp elt gens sc pos) k it acc env).onRaise fun x => do noteFrame x env; standAt theWindowsPlace) _ _ s
  refine wpAny_notedAt ?_
  unfold compStart
  have e1 : (clausesOf (.SetComp elt gens sc pos))[k]? = some g := hg
  rw [e1]
  have e2 : ((some g).elim false fun x : Comprehension => x.is_async != 0) = false := by show (g.is_async != 0) = false; rw [ha]; rfl
  rw [e2, if_neg (by decide)]
  refine wpAny_bind (wpAny_askSetting ?_)
  split
  · exact wpAny_pure ⟨rfl, h0⟩
  · exact wpAny_bind (wpAny_rule (wpAny_bind (wpAny_standAt (wpAny_bind (thnF h1 fun v s' q => wpAny_pure ⟨rfl, q⟩)))))
end
/-! ### the bodies -/
section
variable {X : Cx}
/-- an int added to the set at D -/
def tAdd (w : World) (D : Addr) (te : TE) : TBd := fun σ H Z => te σ H fun y H4 => ∃ (c : Int) (S : Int → Bool) (n : Nat), y = .int c ∧ H4 D = some (SetO w D S n) ∧ n + 1 < scanBound ∧ Z (upd H4 D (SetO w D (fun j => S j || decide (j = c)) (if S c = true then n else n + 1)))
theorem add_int {pins : List (Addr × Obj)} {σ : L2.St} {H : Hp} {s : Shared} {E : Value → Shared → Prop} {D : Addr} {S : Int → Bool} {n : Nat} {y : Int} {t : Tok} {Q : Value → Shared → Prop} (I : Inv X pins σ H s) (hD : H D = some (SetO X.w D S n)) (room : n + 1 < scanBound)
    (h : ∀ v s', Inv X pins σ (upd H D (SetO X.w D (fun j => S j || decide (j = y)) (if S y = true then n else n + 1))) s' → Q v s') : wpAny (model X.prog X.w) X.A (call (.builtin "set.add") [.ref D, .int y t]) Q E s := by
  refine setR_add (setO_get I hD) room fun h' sb new => h _ _ ?_
  have ho := new.choose_spec.choose_spec.choose_spec.choose_spec.1
  exact I.write (t' := s.toks + 1) (by rw [hD]; trivial) (.inl rfl) (fun b u hb hu => (sb.2 b hb).trans hu) ⟨_, ho⟩ (setO_new new)
theorem pb_add {elt : Expr} {te : TE} {D : Addr} (never : ∀ e s, X.xe e s → False) (he : PE X elt te) : PB X [] (addTo elt (.ref D) X.env) (tAdd X.w D te) := by
  refine ⟨fun pins s σ H Z I q => ?_⟩
  refine wpAny_bind (wpAny_mono (he.run pins s σ H _ I q) (fun u s1 h => wpAny_bind (wpAny_standAt ?_)) never)
  obtain ⟨v, H1, I1, r, c, S, n, rfl, hD, room, z⟩ := h
  obtain ⟨t, rfl⟩ := r
  exact wpAny_bind (add_int I1 hD room fun _ s2 I2 => wpAny_pure ⟨σ, _, I2, .refl, z⟩)
/-- the next clause -/
def tIn (wi : TI) (g : TG) (tt : TT) (tb : TBd) (vs : List Nat) : TBd := fun σ H Z => wi σ H (tLp g tt tb vs σ Z)
theorem pb_in {elt : Expr} {gens : List Comprehension} {sc : Scope} {pos : Pos} {D : Addr} {tg src : Expr} {ifs : List Expr} {k : Nat} {body : Sem Unit} {wi : TI} {g : TG} {tt : TT} {tb : TBd} {wb vs : List Nat} (hc : X.calm = true) (never : ∀ e s, X.xe e s → False)
    (hk : gens[k]? = some ⟨tg, src, ifs, 0⟩) (hC : ∀ it, compTurn (.SetComp elt gens sc pos) k it (.ref D) X.env = turnOf tg src ifs it X.env body (.compLoop (.SetComp elt gens sc pos) k it (.ref D) X.env)) (hs : ∀ x, foldedSetIterable src X.env x = pure x)
    (hi : PI X tg src wi) (hg : PG X tg g) (ht : PTs X ifs tt) (hb : PB X wb body tb) (hw : ∀ j ∈ wb, j ∈ vs) : PB X vs (beginIn (.SetComp elt gens sc pos) src k (.ref D) X.env) (tIn wi g tt tb vs) := by
  refine ⟨fun pins s σ H Z I q => ?_⟩
  refine wpAny_bind (wpAny_mono (hi.run pins s σ H _ I q) (fun u s1 h => wpAny_bind (wpAny_standAt (wpAny_bind (wpAny_of_eq (hs u) (wpAny_bind (wpAny_holding (wpAny_mono h (fun itv s2 h2 => ?_) never))))))) never)
  obtain ⟨it, fp, tn, J, H2, rfl, I2, T, st, hf, q2⟩ := h2
  have loop := clause_run hc never (hC (.ref it)) hg ht hb hw T I2 st hf q2
  refine wpAny_bind (wpAny_runOwn ?_)
  rw [Around.mark_none]
  refine codeAny_mono (clause_start hk rfl loop (T.self _ 0 _ _ _ st loop)) fun r s3 h3 => ?_
  obtain ⟨rfl, H3, I3, _, z⟩ := h3
  exact wpAny_pure ⟨_, H3, I3, ⟨wipe_length _ _, fun j v hj e => by rw [wipe_out hj]; exact e⟩, z⟩
end
theorem wipe_set (τ : L2.St) (v : Nat) : ∀ vs : List Nat, wipe (τ.set v none) vs = (wipe τ vs).set v none
  | [] => rfl
  | u :: vs => by
    unfold wipe
    rw [wipe_set τ v vs]
    by_cases h : v = u
    · subst h; rfl
    · rw [List.set_comm _ _ h]
theorem wipe_wipe (σ : L2.St) : ∀ vs : List Nat, wipe (wipe σ vs) vs = wipe σ vs
  | [] => rfl
  | v :: vs => by
    show (wipe ((wipe σ vs).set v none) vs).set v none = (wipe σ vs).set v none
    rw [wipe_set, wipe_wipe σ vs, List.set_set]
/-! ### the whole of a set's comprehension -/
section
variable {X : Cx}
def tScG (w : World) (wi : TI) (g : TG) (tt : TT) (tb : Addr → TBd) (vs : List Nat) : TE := fun σ H Q => wi σ H fun J H1 => ∀ D, H1 D = none → tLp g tt (tb D) vs σ (Q (.ref D)) J (upd H1 D (SetO w D (fun _ => false) 0))
/-- the block's context -/
abbrev InBlk (X : Cx) (sc : Scope) (B : Cx → Prop) : Prop := ∀ (s : Shared) (H : Hp) (C : Addr) (cl : List (Str × Addr)) (fp : List Addr), B (X.blk s H sc (compEnvC sc cl C X.env) fp)
theorem pe_scG {elt tg src : Expr} {ifs : List Expr} {rest : List Comprehension} {sc : Scope} {pos : Pos} {own : List (Str × Nat)} {wi : TI} {g : TG} {tt : TT} {tb : Addr → TBd} {wb : List Nat} {body : Value → Env → Sem Unit} (hc : X.calm = true) (hN : X.N.Nodup) (hi : PI X tg src wi) (ok : BlkOk X.N X.env.scope sc own) (hw : ∀ j ∈ wb, j ∈ own.map (·.2))
    (hC : ∀ it acc env, compTurn (.SetComp elt (⟨tg, src, ifs, 0⟩ :: rest) sc pos) 0 it acc env = turnOf tg src ifs it env (body acc env) (.compLoop (.SetComp elt (⟨tg, src, ifs, 0⟩ :: rest) sc pos) 0 it acc env))
    (hg : InBlk X sc fun B => PG B tg g) (ht : InBlk X sc fun B => PTs B ifs tt) (hb : InBlk X sc fun B => ∀ D, PB B wb (body (.ref D) B.env) (tb D)) (hs : ∀ x, foldedSetIterable src X.env x = pure x := by intro _; rfl) :
    PE X (.SetComp elt (⟨tg, src, ifs, 0⟩ :: rest) sc pos) (tScG X.w wi g tt tb (own.map (·.2))) := by
  refine ⟨fun pins s σ H Q I q => ?_⟩
  rw [eval_SetComp]
  have free : ∀ y ∈ sc.names, y.2 = .free → ∃ c, X.env.cells.lookup y.1 = some c := fun y hy e => I.ok.has _ ((ok.free y hy e).imp id id)
  refine wpAny_comprehension_free (use := none) rfl hs (closure_ok free) ok.kind (fun y hy e => (ok.uniq y hy).trans (by rw [e])) (thn (hi.run pins s σ H _ I q) fun u s1 h1 => thn h1 fun v s2 h2 => newSet_ok (newEnv_comp ?_))
  obtain ⟨it, fp, tn, J, H2, rfl, I2, T, st, hf, q2⟩ := h2
  -- the new set's address, and the states with it and with the block's frame
  obtain ⟨D, hD⟩ : ∃ D, D = s2.heap.objs.size := ⟨_, rfl⟩
  obtain ⟨s3, hs3⟩ : ∃ s3 : Shared, s3 = { s2 with heap := s2.heap.push { cls := .type "set", dict := none, data := .set #[] 0 (.fresh 0 0 (!X.w.params.followText "set-order")) } } := ⟨_, rfl⟩
  have q3 := q2 D (by rw [hD]; exact I2.hok.fresh (Nat.le_refl _))
  obtain ⟨H3, hH3⟩ : ∃ H3, H3 = upd H2 D (SetO X.w D (fun _ => false) 0) := ⟨_, rfl⟩
  have I3 : Inv X pins σ H3 s3 := by
    subst hs3; subst hH3; subst hD
    exact I2.laid (t' := s2.toks) (fun b o e => Heap.get?_push_of_some _ e) (Nat.le_refl _) (setO_new (setR_fresh X.w))
  have old : ∀ b o, s2.heap.get? b = some o → s3.heap.get? b = some o := fun b o e => by rw [hs3]; exact Heap.get?_push_of_some _ e
  have f3 : ∀ b ∈ fp, FpOk X pins H3 b ∧ b < s3.heap.objs.size := fun b hb => by
    obtain ⟨o, e, _⟩ := T.obj _ _ st b hb
    have lt := Heap.lt_size e
    refine ⟨⟨?_, (hf b hb).2⟩, Heap.lt_size (old b o e)⟩
    rw [hH3, upd_ne (by rw [hD]; exact Nat.ne_of_lt lt)]
    exact (hf b hb).1
  have I4 := block_start I3 ok hN f3
  have B1 := hg s3 H3 s3.heap.objs.size (cellsFrom (s3.heap.objs.size + 1) sc.names (cloFrom X.env.cells sc.names [])) fp
  have B2 := ht s3 H3 s3.heap.objs.size (cellsFrom (s3.heap.objs.size + 1) sc.names (cloFrom X.env.cells sc.names [])) fp
  have B3 := hb s3 H3 s3.heap.objs.size (cellsFrom (s3.heap.objs.size + 1) sc.names (cloFrom X.env.cells sc.names [])) fp D
  have st4 : tn 0 (pushCells (s3.heap.push { cls := .type "dict", data := .dict #[] }) sc.names) := T.keep _ _ _ st fun b _ o e => pushCells_keeps _ _ _ _ (Heap.get?_push_of_some _ (old b o e))
  have hf4 : ∀ b ∈ fp, FpOk (X.blk s3 H3 sc (compEnvC sc (cellsFrom (s3.heap.objs.size + 1) sc.names (cloFrom X.env.cells sc.names [])) s3.heap.objs.size X.env) fp) [] H3 b := fun b hb =>
    ⟨(f3 b hb).1.1, (I4.ok.exf b hb).1, I4.ok.exfs b hb, .inl hb, fun x c e => (I4.ok.exf b hb).2 x c e, fun p hp => by cases hp⟩
  rw [← hH3] at q3
  have loop := clause_run (pins := []) (X := X.blk s3 H3 sc (compEnvC sc (cellsFrom (s3.heap.objs.size + 1) sc.names (cloFrom X.env.cells sc.names [])) s3.heap.objs.size X.env) fp) hc (fun _ _ h => h) (hC (.ref it) (.ref D) _) B1 B2 B3 hw T I4 st4 hf4 (by unfold tLp at q3 ⊢; rw [wipe_wipe]; exact q3)
  -- behind the loop: the def's own context again, and the block's frame let go
  have fin : ∀ s4 : Shared, (∃ H4, Inv (X.blk s3 H3 sc (compEnvC sc (cellsFrom (s3.heap.objs.size + 1) sc.names (cloFrom X.env.cells sc.names [])) s3.heap.objs.size X.env) fp) [] (wipe (wipe σ (own.map (·.2))) (own.map (·.2))) H4 s4 ∧ (∀ b ∈ fp, H4 b = none) ∧ Q (.ref D) H4) →
      ∃ m, s4.heap.Ns s3.heap.objs.size m ∧ ∀ h', Heap.SameBut s3.heap.objs.size s4.heap h' → EP X pins σ Q (.ref D) { s4 with heap := h' } := by
    rintro s4 ⟨H4, I5, _, z⟩
    obtain ⟨m, ns, _⟩ := I5.loc
    refine ⟨m, ns, fun h' sb => ?_⟩
    have I6 : Inv X pins σ H4 s4 := I3.call' (ch := fp) I5.os I5.base I5.hok I5.bare fun b hb => by
      obtain ⟨_, a1, _, a3, a4, a5⟩ := (f3 b hb).1
      exact ⟨a3, a1, a4, a5⟩
    obtain ⟨a0, a1, _, a3, a4, a5⟩ := I3.fpOk (H' := H4) (Nat.le_refl _) I5.free
    exact ⟨.ref D, H4, I6.turned (t' := s4.toks) (fun b o hb e => (sb.2 b hb).trans e) a0 a1 a3 a4 a5, rfl, z⟩
  subst hD; subst hs3
  refine codeAny_mono (clause_start (k := 0) rfl rfl loop (T.self _ 0 _ _ _ st4 loop)) fun r s4 h4 => ?_
  obtain ⟨rfl, h⟩ := h4
  exact fin s4 h
/-- {elt for tg in src if ..} of ints -/
theorem pe_sci1 {elt tg src : Expr} {ifs : List Expr} {sc : Scope} {pos : Pos} {own : List (Str × Nat)} {wi : TI} {g : TG} {tt : TT} {te : TE} (hc : X.calm = true) (hN : X.N.Nodup) (hi : PI X tg src wi) (ok : BlkOk X.N X.env.scope sc own)
    (hg : InBlk X sc fun B => PG B tg g) (ht : InBlk X sc fun B => PTs B ifs tt) (he : InBlk X sc fun B => PE B elt te) (hs : ∀ x, foldedSetIterable src X.env x = pure x := by intro _; rfl) : PE X (.SetComp elt [⟨tg, src, ifs, 0⟩] sc pos) (tScG X.w wi g tt (fun D => tAdd X.w D te) (own.map (·.2))) :=
  pe_scG (rest := []) (wb := []) hc hN hi ok (fun _ h => by cases h) (fun it acc env => turn_s1 ..) hg ht (fun s H C cl fp D => pb_add (fun _ _ h => h) (he s H C cl fp)) hs
/-- {elt for tg in src if .. for tg1 in src1 if ..} of ints -/
theorem pe_sci2 {elt tg src tg1 src1 : Expr} {ifs ifs1 : List Expr} {sc : Scope} {pos : Pos} {own : List (Str × Nat)} {vs1 : List Nat} {wi wi1 : TI} {g g1 : TG} {tt tt1 : TT} {te : TE} (hc : X.calm = true) (hN : X.N.Nodup) (hi : PI X tg src wi) (ok : BlkOk X.N X.env.scope sc own) (hv : ∀ j ∈ vs1, j ∈ own.map (·.2))
    (hg : InBlk X sc fun B => PG B tg g) (ht : InBlk X sc fun B => PTs B ifs tt) (hi1 : InBlk X sc fun B => PI B tg1 src1 wi1) (hg1 : InBlk X sc fun B => PG B tg1 g1) (ht1 : InBlk X sc fun B => PTs B ifs1 tt1) (he : InBlk X sc fun B => PE B elt te)
    (hs : ∀ x, foldedSetIterable src X.env x = pure x := by intro _; rfl) (hs1 : ∀ env x, foldedSetIterable src1 env x = pure x := by intro _ _; rfl) :
    PE X (.SetComp elt [⟨tg, src, ifs, 0⟩, ⟨tg1, src1, ifs1, 0⟩] sc pos) (tScG X.w wi g tt (fun D => tIn wi1 g1 tt1 (tAdd X.w D te) vs1) (own.map (·.2))) :=
  pe_scG (rest := [⟨tg1, src1, ifs1, 0⟩]) (wb := vs1) hc hN hi ok hv (fun it acc env => turn_s2a ..) hg ht
    (fun s H C cl fp D => pb_in (k := 1) hc (fun _ _ h => h) rfl (fun it => turn_s2b ..) (hs1 _) (hi1 s H C cl fp) (hg1 s H C cl fp) (ht1 s H C cl fp) (pb_add (fun _ _ h => h) (he s H C cl fp)) (fun _ h => by cases h)) hs
end
end Co

set_option Elab.async false
set_option linter.all false
set_option maxRecDepth 100000
set_option maxHeartbeats 4000000
namespace Co
open PySem PySem.Spec PyProof.Rows L2
/-! ### zip of a text and a tuple -/
def ItzST (K : PySem.W.Frag) (x : Str) (b : Addr) : It :=
  ⟨fun i H => ∃ (ys : List V), SqT K H b ys ∧ i < x.cps.size ∧ i < ys.length,
    fun i H v H' => ∃ T c y, v = .ref T ∧ H T = none ∧ H' = upd H T (.tup [.str ⟨#[c]⟩, y]) ∧ x.cps[i]? = some c ∧ ∀ ys, SqT K H b ys → ys[i]? = some y,
    fun i H => ∃ ys : List V, SqT K H b ys ∧ i ≤ x.cps.size ∧ i ≤ ys.length ∧ (i = x.cps.size ∨ i = ys.length)⟩
/-- the five objects of such a zip, as they stand before its turn `i` -/
structure ZAt (x : Str) (tk0 : Tok) (b z TI TO i1 i2 : Addr) (i : Nat) (h : Heap) : Prop where
  zip : IsZip h z TI TO .none
  ins : IsTupOf2 h TI (.ref i1) (.ref i2)
  outs : ∃ x y, IsTupOf2 h TO x y
  txt : h.IsStrIter i1 (strIterType x) x tk0 i
  tup : h.IsTupleIter i2 b i
/-- what is asked of each of five may be asked of one after the other -/
theorem all5 {p : Addr → Prop} {a b c d e : Addr} (ha : p a) (hb : p b) (hc : p c) (hd : p d) (he : p e) : ∀ y, y ∈ [a, b, c, d, e] → p y := by
  simpa using ⟨ha, hb, hc, hd, he⟩
theorem no5 {a b c d e y : Addr} (h : y ∉ [a, b, c, d, e]) : y ≠ a ∧ y ≠ b ∧ y ≠ c ∧ y ≠ d ∧ y ≠ e := by
  simpa [not_or] using h
theorem ZAt.small {x : Str} {tk0 : Tok} {b z TI TO i1 i2 : Addr} {i : Nat} {h : Heap} (q : ZAt x tk0 b z TI TO i1 i2 i h) : ∀ c, c ∈ [z, TI, TO, i1, i2] → c < h.objs.size := by
  obtain ⟨_, _, q3⟩ := q.outs
  obtain ⟨_, q4, _⟩ := q.txt
  obtain ⟨_, q5, _⟩ := q.tup
  exact all5 (Heap.lt_size q.zip) (Heap.lt_size q.ins) (Heap.lt_size q3) (Heap.lt_size q4) (Heap.lt_size q5)
theorem sep_of {z TI TO i1 i2 b : Addr} (D : ZipApart z TI TO i1 i2 b b) : ZipSep2 z TI TO i1 i2 [i1] [i2, b] := by
  have h1 := D.i1z.symm
  have h2 := D.i2z.symm
  have h3 := D.l1z.symm
  have h4 := D.l1TO.symm
  have h5 := D.l1i1.symm
  have h6 := D.i12.symm
  constructor <;> simp [D.TIz, D.TOz, D.TITO, D.TIi1, D.TIi2, D.TOi1, D.TOi2, D.i12, h1, h2, h3, h4, h5, h6]
theorem turn_zipST {P : Program} {w : World} {K : PySem.W.Frag} {elts : List Expr} {kk : Nat} {tpos : Pos} {x : Str} {tk0 : Tok} {b z TI TO i1 i2 : Addr} (D : ZipApart z TI TO i1 i2 b b) :
    Turn P w K (.Tuple elts kk tpos) (ItzST K x b) [z, TI, TO, i1, i2] z (ZAt x tk0 b z TI TO i1 i2) where
  mem := List.mem_cons_self
  obj := fun i h q => by
    obtain ⟨_, _, q3⟩ := q.outs
    obtain ⟨_, q4, _, d4⟩ := q.txt
    obtain ⟨_, q5, _, d5⟩ := q.tup
    refine all5 ⟨_, q.zip, ?_⟩ ⟨_, q.ins, ?_⟩ ⟨_, q3, ?_⟩ ⟨_, q4, ?_⟩ ⟨_, q5, ?_⟩ <;> intro v e <;> simp_all
  keep := fun i h h' q k => by
    have k' : ∀ c, c ∈ [z, TI, TO, i1, i2] → ∀ o, h.get? c = some o → h'.get? c = some o := k
    obtain ⟨u, v, q3⟩ := q.outs
    obtain ⟨o4, q4, r4⟩ := q.txt
    exact ⟨k' _ (by simp) _ q.zip, k' _ (by simp) _ q.ins, ⟨u, v, k' _ (by simp) _ q3⟩, ⟨o4, k' _ (by simp) _ q4, r4⟩, q.tup.at (k' _ (by simp))⟩
  item := by
    rintro X rfl rfl rfl hc i pins s σ H E I hf q ⟨ys, hy, l1, l2⟩
    obtain ⟨vs, rv, tv, _⟩ := I.tuple hy
    obtain ⟨_, _, q3⟩ := q.outs
    have hd : X.A.in1.handled = none := I.ok.hd hc
    obtain ⟨u, hu, ru⟩ := rv.get (List.getElem?_eq_getElem l2)
    have lv : i < vs.toArray.size := by
      have := (List.getElem?_eq_some_iff.mp hu).1
      simpa using this
    refine wpAny_pyNext_zipD2_item (sep_of D) (Draws.text hd i1 x tk0) (Draws.tuple hd i2 b D.l1i2 vs.toArray) q.zip q.ins q3 q.txt ⟨q.tup, tv⟩ l1 lv fun a1 a2 h1 t1 P1 P2 z1 o1 f1 f2 new _ kp => ?_
    obtain ⟨c, tc, hx, rfl⟩ := P1
    obtain rfl : u = a2 := by
      have : vs[i]? = some a2 := by simpa using P2
      simpa [hu] using this
    refine ⟨_, rfl, wpAny_letOwnedTupleGo_zip (s := { s with heap := h1, toks := t1 }) z1 fun h2 z2 sb => ?_⟩
    have sm := q.small
    have kp2 : ∀ a o, a ∉ [z, TI, TO, i1, i2] → s.heap.get? a = some o → h2.get? a = some o := fun a o na e => by
      obtain ⟨n1, _, n3, n4, n5⟩ := no5 na
      by_cases hb : a = TI
      · exact absurd hb (no5 na).2.1
      · exact (sb.2 a n1).trans (kp a o n1 n3 n4 n5 e)
    have nt : h2.get? s.heap.objs.size = some { cls := .type "tuple", data := .seq #[.str ⟨#[c]⟩ tc, u] } :=
      (sb.2 _ (Nat.ne_of_gt (sm z (by simp)))).trans new
    have pair : ObjOk X.prog X.w (upd H s.heap.objs.size (.tup [.str ⟨#[c]⟩, ys[i]])) h2 s.heap.objs.size (.tup [.str ⟨#[c]⟩, ys[i]]) :=
      ⟨(by decide : 2 ≤ sizeLine), [.str ⟨#[c]⟩ tc, u], .cons ⟨tc, rfl⟩ (.cons ru .nil), ⟨_, nt, rfl, _, rfl⟩⟩
    have J : L2.Inv X pins σ (upd H s.heap.objs.size (.tup [.str ⟨#[c]⟩, ys[i]])) { s with heap := h2, toks := t1 } :=
      I.turnedNew (t' := t1) (ch := [z, TI, TO, i1, i2]) kp2 hf (Nat.le_refl _) pair
    obtain ⟨ob, g1, r1⟩ := f1
    refine ⟨.ref s.heap.objs.size, _, J, rfl, ⟨_, c, ys[i], rfl, I.hok.fresh (Nat.le_refl _), rfl, hx, fun l hl => ?_⟩,
      { zip := z2, ins := (sb.2 _ D.TIz).trans (kp _ _ D.TIz D.TITO D.TIi1 D.TIi2 q.ins), outs := ⟨_, u, (sb.2 _ D.TOz).trans o1⟩, txt := ⟨ob, (sb.2 _ D.i1z).trans g1, r1⟩, tup := f2.1.at fun o e => (sb.2 _ D.i2z).trans e }, fun a ha => ?_⟩
    · obtain rfl := I.tuple_inj hl hy
      exact List.getElem?_eq_getElem l2
    · exact (upd_ne (Nat.ne_of_lt (sm a ha))).trans (hf a ha).1
  done := by
    rintro X rfl rfl rfl hc i pins s σ H E I hf q ⟨ys, hy, l1, l2, l3⟩
    obtain ⟨vs, rv, tv, _⟩ := I.tuple hy
    obtain ⟨_, _, q3⟩ := q.outs
    have hd : X.A.in1.handled = none := I.ok.hd hc
    have e2 : vs.toArray.size = ys.length := by simpa using rv.length.symm
    refine wpAny_pyNext_zipD2_end (sep_of D) (Draws.text hd i1 x tk0) (Draws.tuple hd i2 b D.l1i2 vs.toArray) q.zip q.ins q3 q.txt ⟨q.tup, tv⟩ l1 (by omega) (by omega) fun h' tk kp => ⟨rfl, I.turnedL (t' := tk) (ch := [z, TI, TO, i1, i2]) (fun a o na e => ?_) hf⟩
    obtain ⟨n1, _, n3, n4, n5⟩ := no5 na
    exact kp a o n1 n3 n4 n5 e
  self := fun _ _ _ _ _ q h => wpAny_pyIter_zip q.zip h
def iZipST (K : PySem.W.Frag) (ta : TA) : TI := fun σ H R => ta σ H fun vs H1 => ∃ x b ys, vs = [.str x, .ref b] ∧ SqT K H1 b ys ∧ R (ItzST K x b) H1
theorem pi_zipST {X : Cx} {e e2 : Expr} {ta : TA} {p pos tpos : Pos} {elts : List Expr} {kk : Nat} (hg : Gl X "zip") (hm : X.mg "zip" = none) (ha : PA X [e, e2] ta)
    (hs : starEach [e, e2] X.env = (false, eval e X.env) :: starEach [e2] X.env := by rfl) (hpl : (backTo pos (starEach [e2] X.env)).any (·.1) = false := by rfl) :
    PI X (.Tuple elts kk tpos) (.Call (.Name "zip" p) [e, e2] [] pos) (iZipST X.K ta) where
  run pins s σ H R I h := by
    have go := ha.run pos pins s σ H _ I h
    refine Call_ (ld_blt I hg hm PyProof.Rows.boot_zip (PyProof.Rows.callWith_type1 (thn go ?_) hs hpl))
    rintro us s1 ⟨vs, H1, J, r1, x, b, ys, rfl, hy, q⟩
    match us, r1 with
    | [_, _], .cons ⟨tk0, rfl⟩ (.cons rfl .nil) =>
      obtain ⟨its, _, tv, _⟩ := J.tuple hy
      obtain ⟨_, hb, _⟩ := id tv
      have lb := Heap.lt_size hb
      let n := s1.heap.objs.size
      have up : ∀ c, c ∈ [n + 4, n + 2, n + 3, n, n + 1] → n ≤ c := all5 (by omega) (by omega) (by omega) (by omega) (by omega)
      refine zip_begins2 (begins_text x tk0) (begins_tuple b its.toArray) trivial (show s1.heap.IsTuple b its.toArray from tv) fun h' q1 q2 q3 q4 q5 _ kp => wpAny_pyIter_zip q1 ?_
      exact ⟨n + 4, [n + 4, n + 2, n + 3, n, n + 1], _, _, H1, rfl, J.kept (t' := s1.toks) kp, turn_zipST (PySem.W.ktu_apart n b b lb lb),
        ⟨q1, q2, ⟨_, _, q3⟩, ⟨_, q4, rfl, rfl⟩, ⟨_, q5, rfl, rfl⟩⟩, fun c hc => J.fpOk (up c hc) (J.hok.fresh (up c hc)), q⟩

open PpSet
theorem pg_tupK {X : Cx} {K' : PySem.W.Frag} {es : List Expr} {k : Nat} {t : TGs} {n : Nat} {pos : Pos} (hK : X.K = K') (hc : X.calm = true) (h : PGs X es t)
    (hn : (assignEach es X.env).length = n := by rfl) (hst : (assignEach es X.env).findIdx? (·.1) = none := by rfl) : PG X (.Tuple es k pos) (gTup K' n t) := by
  subst hK
  exact pg_tup hc h hn hst
section
variable {X : Cx} {K' : PySem.W.Frag}
theorem op_in_seqK (hK : X.K = K') : OpR X (compareOp .In) (rIn K' false) := by subst hK; exact op_in_seq
theorem op_notIn_seqK (hK : X.K = K') : OpR X (compareOp .NotIn) (rIn K' true) := by subst hK; exact op_notIn_seq
theorem ix_listK (hK : X.K = K') : IxR X (rIxL K') := by subst hK; exact ix_list
theorem ix_tupK (hK : X.K = K') : IxR X (rIxT K') := by subst hK; exact ix_tup
theorem call_lenQK (hK : X.K = K') : CallR X (.builtin "len") (rLenQ K') := by subst hK; exact call_lenQ
end
/-! ### readings of these -/
def kZ (K : PySem.W.Frag) (R : It → Hp → Prop) : List V → Hp → Prop := fun vs H1 => ∃ x b ys, vs = [.str x, .ref b] ∧ SqT K H1 b ys ∧ R (ItzST K x b) H1
theorem w_zST {K : PySem.W.Frag} {ta : TA} {σ : L2.St} {H : Hp} {R : It → Hp → Prop} (q : ta σ H (kZ K R)) : iZipST K ta σ H R := q
theorem w_forZ {K : PySem.W.Frag} {g : TG} {tb : TS} {D : Ends} {σ : L2.St} {H : Hp} {x : Str} {b : Addr} (ys : List V) (Pv : Nat → L2.St → Hp → Prop) (hq : SqT K H b ys) (hle : x.cps.size = ys.length) (h0 : Pv 0 σ H) (hl : ∀ i σ H, Pv i σ H → SqT K H b ys)
    (hs : ∀ i c y T σ H H', x.cps[i]? = some c → ys[i]? = some y → Pv i σ H → H T = none → Same H H' → H' T = some (.tup [.str ⟨#[c]⟩, y]) → g (.ref T) σ H' fun σ2 H2 => tb { D with nx := Pv (i + 1), ct := Pv (i + 1), bk := D.nx } σ2 H2)
    (hd : ∀ σ H, Pv ys.length σ H → D.nx σ H) : kZ K (kFor g tb D σ) [.str x, .ref b] H := by
  refine ⟨x, b, ys, rfl, hq, fun i m σ H => m = ys.length - i ∧ i ≤ ys.length ∧ Pv i σ H, ⟨ys.length, by simp, Nat.zero_le _, h0⟩, ?_⟩
  rintro i m σ H ⟨rfl, hi, p⟩
  have q := hl i σ H p
  by_cases hlt : i < ys.length
  · refine .inr ⟨⟨ys, q, by omega, hlt⟩, Pv (i + 1), fun σ' H' p' => ⟨ys.length - (i + 1), by omega, rfl, hlt, p'⟩, fun v H' y => ?_⟩
    obtain ⟨T, c, y, rfl, nT, rfl, hc, hy⟩ := y
    exact hs i c y T σ H _ hc (hy ys q) p nT (Same.new nT) upd_same
  · have e : i = ys.length := by omega
    subst e
    exact .inl ⟨⟨ys, q, by omega, Nat.le_refl _, .inr rfl⟩, hd σ H p⟩
theorem w_lcZ {K : PySem.W.Frag} {g : TG} {tt : TT} {te : TE} {vs : List Nat} {σ : L2.St} {H : Hp} {Q : VK} {x : Str} {b : Addr} (ys : List V) (Pv : Addr → Nat → Hp → Prop) (hq : SqT K H b ys) (hle : x.cps.size = ys.length) (h0 : ∀ D, H D = none → Pv D 0 (upd H D (.lst []))) (hl : ∀ D i H, Pv D i H → SqT K H b ys)
    (hs : ∀ D i c y T H H', x.cps[i]? = some c → ys[i]? = some y → Pv D i H → H T = none → Same H H' → H' T = some (.tup [.str ⟨#[c]⟩, y]) → g (.ref T) (wipe σ vs) H' fun σ2 H2 => wipe σ2 vs = wipe σ vs ∧ tt σ2 H2 fun b H3 =>
      if b = true then te σ2 H3 fun y H4 => ∃ acc, H4 D = some (.lst acc) ∧ acc.length < sizeLine ∧ Pv D (i + 1) (upd H4 D (.lst (acc ++ [y]))) else Pv D (i + 1) H3) (hd : ∀ D H', H D = none → Pv D ys.length H' → Q (.ref D) H') : kZ K (kLc g tt te vs σ Q) [.str x, .ref b] H := by
  refine ⟨x, b, ys, rfl, hq, fun D nD => ⟨fun i m H => m = ys.length - i ∧ i ≤ ys.length ∧ Pv D i H, ⟨ys.length, by simp, Nat.zero_le _, h0 D nD⟩, ?_⟩⟩
  rintro i m H' ⟨rfl, hi, p⟩
  have q := hl D i H' p
  by_cases hlt : i < ys.length
  · refine .inr ⟨⟨ys, q, by omega, hlt⟩, Pv D (i + 1), fun H2 p' => ⟨ys.length - (i + 1), by omega, rfl, hlt, p'⟩, fun v H2 y => ?_⟩
    obtain ⟨T, c, y, rfl, nT, rfl, hc, hy⟩ := y
    exact hs D i c y T H' _ hc (hy ys q) p nT (Same.new nT) upd_same
  · have e : i = ys.length := by omega
    subst e
    exact .inl ⟨⟨ys, q, by omega, Nat.le_refl _, .inr rfl⟩, hd D H' nD p⟩
def kSt (R : It → Hp → Prop) : V → Hp → Prop := fun v H1 => ∃ x, v = .str x ∧ R (Its x) H1
theorem w_iSt {te : TE} {σ : L2.St} {H : Hp} {R : It → Hp → Prop} (q : te σ H (kSt R)) : iStr te σ H R := q
theorem w_forS {g : TG} {tb : TS} {D : Ends} {σ : L2.St} {H : Hp} {x : Str} (Pv : Nat → L2.St → Hp → Prop) (h0 : Pv 0 σ H)
    (hs : ∀ i c σ H, x.cps[i]? = some c → Pv i σ H → g (.str ⟨#[c]⟩) σ H fun σ2 H2 => tb { D with nx := Pv (i + 1), ct := Pv (i + 1), bk := D.nx } σ2 H2)
    (hd : ∀ σ H, Pv x.cps.size σ H → D.nx σ H) : kSt (kFor g tb D σ) (.str x) H := by
  refine ⟨x, rfl, fun i m σ H => m = x.cps.size - i ∧ i ≤ x.cps.size ∧ Pv i σ H, ⟨x.cps.size, by simp, Nat.zero_le _, h0⟩, ?_⟩
  rintro i m σ H ⟨rfl, hi, p⟩
  by_cases hlt : i < x.cps.size
  · refine .inr ⟨hlt, Pv (i + 1), fun σ' H' p' => ⟨x.cps.size - (i + 1), by omega, rfl, hlt, p'⟩, fun v H' y => ?_⟩
    obtain ⟨rfl, c, hc, rfl⟩ := y
    exact hs i c σ _ hc p
  · have e : i = x.cps.size := by omega
    subst e
    exact .inl ⟨Nat.le_refl _, hd σ H p⟩
/-- t[1:] of a tuple of two and more -/
theorem w_sl {r : V → Option Int → Option Int → Hp → VK → Prop} {te : TE} {tl th : TO} {σ : L2.St} {H : Hp} {Q : VK} (q : te σ H fun x H1 => tl σ H1 fun l H2 => th σ H2 fun u H3 => r x l u H3 Q) : tSl r te tl th σ H Q := q
theorem w_part {te : TE} {σ : L2.St} {H : Hp} {Q : Option Int → Hp → Prop} (q : te σ H fun x H1 => ∃ i, x = .int i ∧ Q (some i) H1) : tPart te σ H Q := q
theorem w_noPart {σ : L2.St} {H : Hp} {Q : Option Int → Hp → Prop} (q : Q none H) : tNoPart σ H Q := q
theorem w_exI {i : Int} {Q : Int → Prop} (q : Q i) : ∃ j, V.int i = .int j ∧ Q j := ⟨i, rfl, q⟩
theorem w_rSl1 {K : PySem.W.Frag} {H : Hp} {Q : VK} {a : Addr} {v y : V} {r : List V} (h : SqT K H a (v :: y :: r)) (q : ∀ p H', H p = none → Same H H' → H' p = some (.tup (y :: r)) → Q (.ref p) H') : rSlA K (.ref a) (some 1) none H Q := by
  refine ⟨a, _, rfl, h, fun ⟨e, _⟩ => ?_, fun _ p np => ?_⟩
  · rw [show HT.sIx (v :: y :: r).length 0 (some 1) = min 1 (v :: y :: r).length from HT.sIx_nat _ 0 1] at e
    simp at e
  · refine q p _ np (Same.new np) ?_
    have e : cutV (v :: y :: r) (some 1) none = y :: r := by
      unfold cutV
      rw [show HT.sIx (v :: y :: r).length 0 (some 1) = min 1 (v :: y :: r).length from HT.sIx_nat _ 0 1, HT.sIx_none]
      rw [show min 1 (v :: y :: r).length = 1 by simp]
      simp
    rw [e]; exact upd_same
def kScG (w : World) (g : TG) (tt : TT) (tb : Addr → TBd) (vs : List Nat) (σ : L2.St) (Q : VK) : It → Hp → Prop := fun J H1 => ∀ D, H1 D = none → tLp g tt (tb D) vs σ (Q (.ref D)) J (upd H1 D (SetO w D (fun _ => false) 0))
theorem w_sc {w : World} {wi : TI} {g : TG} {tt : TT} {tb : Addr → TBd} {vs : List Nat} {σ : L2.St} {H : Hp} {Q : VK} (q : wi σ H (kScG w g tt tb vs σ Q)) : tScG w wi g tt tb vs σ H Q := q
/-- a clause's loop over a list or a tuple, by an invariant -/
theorem w_lpG {It0 : It} {g : TG} {tt : TT} {tb : TBd} {vs : List Nat} {σ : L2.St} {H : Hp} {Z : Hp → Prop} (xs : List V) (Pv : Nat → Hp → Prop) (h0 : Pv 0 H) (go : ∀ i H, i < xs.length → Pv i H → It0.go i H) (stop : ∀ H, Pv xs.length H → It0.stop xs.length H) (yld : ∀ i H x H', Pv i H → It0.yld i H x H' → H' = H ∧ xs[i]? = some x)
    (hs : ∀ i x H, xs[i]? = some x → Pv i H → g x (wipe σ vs) H fun σ2 H2 => wipe σ2 vs = wipe σ vs ∧ tt σ2 H2 fun b H3 => if b = true then tb σ2 H3 (Pv (i + 1)) else Pv (i + 1) H3) (hd : ∀ H, Pv xs.length H → Z H) : tLp g tt tb vs σ Z It0 H := by
  refine ⟨fun i m H => m = xs.length - i ∧ i ≤ xs.length ∧ Pv i H, ⟨xs.length, by simp, Nat.zero_le _, h0⟩, ?_⟩
  rintro i m H' ⟨rfl, hi, p⟩
  rcases Nat.lt_or_ge i xs.length with lt | ge
  · refine .inr ⟨go i H' lt p, Pv (i + 1), fun H2 p2 => ⟨xs.length - (i + 1), by omega, rfl, lt, p2⟩, fun v H2 y => ?_⟩
    obtain ⟨rfl, e⟩ := yld i H' v H2 p y
    exact hs i v _ e p
  · obtain rfl : i = xs.length := by omega
    exact .inl ⟨stop H' p, hd H' p⟩
theorem w_lpL {K : PySem.W.Frag} {g : TG} {tt : TT} {tb : TBd} {vs : List Nat} {σ : L2.St} {H : Hp} {Z : Hp → Prop} {a : Addr} (xs : List V) (Pv : Nat → Hp → Prop) (h0 : Pv 0 H) (hl : ∀ i H, Pv i H → SqL K H a xs)
    (hs : ∀ i x H, xs[i]? = some x → Pv i H → g x (wipe σ vs) H fun σ2 H2 => wipe σ2 vs = wipe σ vs ∧ tt σ2 H2 fun b H3 => if b = true then tb σ2 H3 (Pv (i + 1)) else Pv (i + 1) H3) (hd : ∀ H, Pv xs.length H → Z H) : tLp g tt tb vs σ Z (Itl K a) H :=
  w_lpG xs Pv h0 (fun i H lt p => ⟨xs, xs[i], hl i H p, by simp [lt]⟩) (fun H p => ⟨xs, hl _ H p, Nat.le_refl _⟩) (fun i H x H' p y => ⟨y.1, y.2 xs (hl i H p)⟩) hs hd
theorem w_lpT {K : PySem.W.Frag} {g : TG} {tt : TT} {tb : TBd} {vs : List Nat} {σ : L2.St} {H : Hp} {Z : Hp → Prop} {a : Addr} (xs : List V) (Pv : Nat → Hp → Prop) (h0 : Pv 0 H) (hl : ∀ i H, Pv i H → SqT K H a xs)
    (hs : ∀ i x H, xs[i]? = some x → Pv i H → g x (wipe σ vs) H fun σ2 H2 => wipe σ2 vs = wipe σ vs ∧ tt σ2 H2 fun b H3 => if b = true then tb σ2 H3 (Pv (i + 1)) else Pv (i + 1) H3) (hd : ∀ H, Pv xs.length H → Z H) : tLp g tt tb vs σ Z (Itt K a) H :=
  w_lpG xs Pv h0 (fun i H lt p => ⟨xs, xs[i], hl i H p, by simp [lt]⟩) (fun H p => ⟨xs, hl _ H p, Nat.le_refl _⟩) (fun i H x H' p y => ⟨y.1, y.2 xs (hl i H p)⟩) hs hd
theorem w_scL {K : PySem.W.Frag} {w : World} {g : TG} {tt : TT} {te : TE} {vs : List Nat} {σ : L2.St} {H : Hp} {Q : VK} {a : Addr} (xs : List V) (Pv : Addr → Nat → Hp → Prop) (hS : SqL K H a xs) (h0 : ∀ D, H D = none → Pv D 0 (upd H D (SetO w D (fun _ => false) 0))) (hl : ∀ D i H, Pv D i H → SqL K H a xs)
    (hs : ∀ D i x H, xs[i]? = some x → Pv D i H → g x (wipe σ vs) H fun σ2 H2 => wipe σ2 vs = wipe σ vs ∧ tt σ2 H2 fun b H3 => if b = true then te σ2 H3 fun y H4 => ∃ (c : Int) (S : Int → Bool) (n : Nat), y = .int c ∧ H4 D = some (SetO w D S n) ∧ n + 1 < scanBound ∧ Pv D (i + 1) (upd H4 D (SetO w D (fun j => S j || decide (j = c)) (if S c = true then n else n + 1))) else Pv D (i + 1) H3)
    (hd : ∀ D H', H D = none → Pv D xs.length H' → Q (.ref D) H') : kIL K (kScG w g tt (fun D => tAdd w D te) vs σ Q) (.ref a) H :=
  ⟨a, rfl, ⟨_, hS⟩, fun D nD => w_lpL xs (Pv D) (h0 D nD) (hl D) (hs D) fun H' p => hd D H' nD p⟩
theorem asc_eq : ∀ {l m : List Int}, l.Pairwise (· < ·) → m.Pairwise (· < ·) → (∀ k, k ∈ l ↔ k ∈ m) → l = m
  | [], [], _, _, _ => rfl
  | [], y :: m, _, _, h => by have := (h y).mpr (by simp); simp at this
  | x :: l, [], _, _, h => by have := (h x).mp (by simp); simp at this
  | x :: l, y :: m, p, q, h => by
    rw [List.pairwise_cons] at p q
    have e : x = y := by
      have a := (h x).mp (by simp)
      have b := (h y).mpr (by simp)
      rw [List.mem_cons] at a b
      rcases a with a | a
      · exact a
      · rcases b with b | b
        · exact b.symm
        · have := q.1 x a; have := p.1 y b; omega
    subst e
    congr 1
    refine asc_eq p.2 q.2 fun k => ⟨fun hk => ?_, fun hk => ?_⟩
    · have := (h k).mp (List.mem_cons_of_mem _ hk)
      rw [List.mem_cons] at this
      rcases this with e | e
      · subst e; have := p.1 k hk; omega
      · exact e
    · have := (h k).mpr (List.mem_cons_of_mem _ hk)
      rw [List.mem_cons] at this
      rcases this with e | e
      · subst e; have := q.1 k hk; omega
      · exact e
/-! ### texts, indices, sets -/
def Evl0.rInSQ : R2 := fun x y H Q => ∃ (c : Nat) (z : Str), x = .str ⟨#[c]⟩ ∧ y = .str z ∧ Q (.bl (decide (c ∈ z.cps.toList))) H
theorem op_inSQ {X : Cx} : OpR X (compareOp .In) Evl0.rInSQ := op_in_sign
theorem w_m1 {r : V → List V → Hp → VK → Prop} {to te : TE} {σ : L2.St} {H : Hp} {Q : VK} (q : to σ H fun x H1 => (∃ a, x = .str a) ∧ te σ H1 fun y H2 => r x [y] H2 Q) : tM1 r to te σ H Q := q
theorem w_isS {a : Str} {B : Prop} (q : B) : (∃ b, V.str a = .str b) ∧ B := ⟨⟨a, rfl⟩, q⟩
def rStartsQ : V → List V → Hp → VK → Prop := fun x xs H Q => ∃ a b, x = .str a ∧ xs = [.str b] ∧ Q (.bl (Txt.startswith a b)) H
theorem mt_startsQ {X : Cx} : MtR X "str.startswith" rStartsQ := mt_startswith
theorem w_starts {a b : Str} {H : Hp} {Q : VK} (q : Q (.bl (Txt.startswith a b)) H) : rStartsQ (.str a) [.str b] H Q := ⟨a, b, rfl, rfl, q⟩
def rTIxQ (K : PySem.W.Frag) : V → List V → Hp → VK → Prop := fun x xs H Q => ∃ p, ∃ ys : List Str, ∃ z j, x = .ref p ∧ xs = [.str z] ∧ SqT K H p (ys.map V.str) ∧ ys[j]? = some z ∧ (∀ m, m < j → ys[m]? ≠ some z) ∧ Q (.int (j : Nat)) H
theorem mt_tupIxQ {X : Cx} : MtR X "tuple.index" (rTIxQ X.K) := mt_tup_index
theorem w_tix {K : PySem.W.Frag} {O : Addr} {ys : List Str} {z : Str} {j : Nat} {H : Hp} {Q : VK} (h : SqT K H O (ys.map V.str)) (h1 : ys[j]? = some z) (h2 : ∀ m, m < j → ys[m]? ≠ some z) (q : Q (.int (j : Nat)) H) : rTIxQ K (.ref O) [.str z] H Q := ⟨O, ys, z, j, rfl, rfl, h, h1, h2, q⟩
theorem w_aug {te : TE} {ti : TIp} {D : Ends} {σ : L2.St} {H : Hp} {i : Nat} {x : V} (h : σ[i]? = some (some x)) (q : te σ H fun y H1 => ti x y H1 fun z H2 => D.nx (σ.set i (some z)) H2) : tAug i te ti D σ H := ⟨x, h, q⟩
theorem w_ipI {f : Int → Int → Int} {i j : Int} {H : Hp} {Q : VK} (q : Q (.int (f i j)) H) : ipI f (.int i) (.int j) H Q := ⟨i, j, rfl, rfl, q⟩
theorem w_lenTs {K : PySem.W.Frag} {p : Addr} {xs : List V} {H : Hp} {Q : VK} (h : SqT K H p xs) (q : Q (.int (xs.length : Int)) H) : rLenQ K [.ref p] H Q := ⟨p, xs, rfl, .inr h, q⟩
theorem w_stR {K : PySem.W.Frag} {p : Addr} {xs : List V} {H : Hp} {B : List V → Prop} (h : H p = some (.lst xs)) (q : B xs) : ∃ p' xs', V.ref p = .ref p' ∧ (SqT K H p' xs' ∨ SqL K H p' xs') ∧ B xs' := ⟨p, xs, rfl, .inr (.of h), q⟩
theorem eqV_str {a b : Str} : eqV (.str a) (.str b) = (a == b) := rfl
theorem w_lix {K : PySem.W.Frag} {p : Addr} {ys : List Str} {z : Str} {j : Nat} {H : Hp} {Q : VK} (h : H p = some (.lst (ys.map V.str))) (h1 : ys[j]? = some z) (h2 : ∀ m, m < j → ys[m]? ≠ some z) (q : Q (.int (j : Nat)) H) : rIndex K (.ref p) [.str z] H Q := by
  refine ⟨p, ys.map V.str, .str z, j, .str z, rfl, rfl, .of h, rfl, ?_, ?_, ?_, fun m y hm hy => ?_, q⟩
  · rw [List.all_eq_true]
    intro v hv
    obtain ⟨s, _, rfl⟩ := List.mem_map.mp hv
    rfl
  · rw [List.getElem?_map, h1]; rfl
  · rw [eqV_str]; exact beq_self_eq_true z
  · rw [List.getElem?_map] at hy
    cases e : ys[m]? with
    | none => rw [e] at hy; cases hy
    | some s =>
      rw [e] at hy
      cases hy
      rw [eqV_str]
      exact beq_eq_false_iff_ne.mpr fun z' => h2 m hm (by rw [e, z'])
theorem _root_.L2.Same.sqT {K : PySem.W.Frag} {H H' : Hp} {a : Addr} {xs : List V} (e : Same H H') (h : SqT K H a xs) : SqT K H' a xs := by
  rcases h with (h | ⟨o, h⟩) | h
  · exact .inl (.inl (e _ _ h))
  · exact .inl (.inr ⟨o, e _ _ h⟩)
  · exact .inr h
theorem w_lenTn {K : PySem.W.Frag} {p : Addr} {xs : List V} {H : Hp} {Q : VK} (n : Nat) (h : SqT K H p xs) (e : xs.length = n) (q : Q (.int (n : Int)) H) : rLenQ K [.ref p] H Q := ⟨p, xs, rfl, .inr h, by rw [e]; exact q⟩
theorem w_bm {K : PySem.W.Frag} {T : String} {r : V → List V → Hp → VK → Prop} {to : TE} {t : TA} {σ : L2.St} {H : Hp} {Q : VK} (q : to σ H fun x H1 => tyV K T x H1 ∧ t σ H1 fun xs H2 => r x xs H2 Q) : tBM K T r to t σ H Q := q
theorem w_tyL {K : PySem.W.Frag} {p : Addr} {xs : List V} {H : Hp} {B : Prop} (h : H p = some (.lst xs)) (q : B) : tyV K "list" (.ref p) H ∧ B := ⟨.inl ⟨rfl, xs, .inl (.inl h)⟩, q⟩
theorem w_append {p : Addr} {xs : List V} {y : V} {H : Hp} {Q : VK} (h : H p = some (.lst xs)) (hl : xs.length < sizeLine) (q : ∀ H', H' p = some (.lst (xs ++ [y])) → But p H H' → Q .non H') : rAppend (.ref p) [y] H Q := ⟨p, xs, y, rfl, rfl, h, hl, q _ upd_same But.set⟩
def rListQ (K : PySem.W.Frag) : List V → Hp → VK → Prop := fun xs H Q => ∃ p ys, xs = [.ref p] ∧ (SqL K H p ys ∨ SqT K H p ys) ∧ ∀ l, H l = none → Q (.ref l) (upd H l (.lst ys))
theorem call_listQ {X : Cx} : CallR X (.type "list") (rListQ X.K) := call_list_of
theorem w_listT {K : PySem.W.Frag} {p : Addr} {ys : List V} {H : Hp} {Q : VK} (h : SqT K H p ys) (q : ∀ l H', H l = none → Same H H' → H' l = some (.lst ys) → Q (.ref l) H') : rListQ K [.ref p] H Q := ⟨p, ys, rfl, .inr h, fun l nl => q l _ nl (Same.new nl) upd_same⟩
theorem w_listL {K : PySem.W.Frag} {p : Addr} {ys : List V} {H : Hp} {Q : VK} (h : SqL K H p ys) (q : ∀ l H', H l = none → Same H H' → H' l = some (.lst ys) → Q (.ref l) H') : rListQ K [.ref p] H Q := ⟨p, ys, rfl, .inl h, fun l nl => q l _ nl (Same.new nl) upd_same⟩
def rTupQ (K : PySem.W.Frag) : List V → Hp → VK → Prop := fun xs H Q => ∃ p ys, xs = [.ref p] ∧ ((SqL K H p ys ∧ ∀ l, H l = none → Q (.ref l) (upd H l (.tup ys))) ∨ (SqT K H p ys ∧ Q (.ref p) H))
theorem call_tupQ {X : Cx} : CallR X (.type "tuple") (rTupQ X.K) := call_tuple_of
theorem w_tupL {K : PySem.W.Frag} {p : Addr} {ys : List V} {H : Hp} {Q : VK} (h : SqL K H p ys) (q : ∀ l H', H l = none → Same H H' → H' l = some (.tup ys) → Q (.ref l) H') : rTupQ K [.ref p] H Q := ⟨p, ys, rfl, .inl ⟨h, fun l nl => q l _ nl (Same.new nl) upd_same⟩⟩
theorem w_sortedSet {w : World} {a : Addr} {S : Int → Bool} {n : Nat} {H : Hp} {Q : VK} (h : H a = some (SetO w a S n)) (hn : n < 64) (q : ∀ (ns : List Int) (p : Addr) H', ns.Pairwise (· < ·) → (∀ k : Int, k ∈ ns ↔ S k = true) → ns.length = n → H p = none → Same H H' → H' p = some (.lst (ns.map V.int)) → Q (.ref p) H') : rSortedSet w [.ref a] H Q :=
  ⟨a, S, n, rfl, h, hn, fun ns p h1 h2 h3 np => q ns p _ h1 h2 h3 np (Same.new np) upd_same⟩
theorem w_star {K : PySem.W.Frag} {te : TE} {t : TA} {σ : L2.St} {H : Hp} {Q : List V → Hp → Prop} (q : te σ H fun x H1 => ∃ p xs, x = V.ref p ∧ (SqT K H1 p xs ∨ SqL K H1 p xs) ∧ t σ H1 fun ys H2 => Q (xs ++ ys) H2) : StX.tStar K te t σ H Q := q
theorem w_inSg {c : Nat} {z : Str} {H : Hp} {Q : VK} (q : Q (.bl (decide (c ∈ z.cps.toList))) H) : Evl0.rInSQ (.str ⟨#[c]⟩) (.str z) H Q := ⟨c, z, rfl, rfl, q⟩
theorem w_eqD {K : PySem.W.Frag} {x y : V} {d : PyData} {H : Hp} {Q : VK} (h1 : Dp K H x d) (h2 : Dp K H y d) (hs : SeqAt.shaped d = true) (q : Q (.bl true) H) : rEqD K x y H Q := ⟨d, d, h1, h2, hs, hs, by rw [SeqAt.eqv_refl _ (SeqAt.canLay_of_shaped hs)]; exact q⟩
theorem w_neD {K : PySem.W.Frag} {x y : V} {d : PyData} {H : Hp} {Q : VK} (h1 : Dp K H x d) (h2 : Dp K H y d) (hs : SeqAt.shaped d = true) (q : Q (.bl false) H) : rNeD K x y H Q := ⟨d, d, h1, h2, hs, hs, by rw [SeqAt.eqv_refl _ (SeqAt.canLay_of_shaped hs)]; exact q⟩
end Co


set_option Elab.async false
set_option linter.all false
set_option maxRecDepth 100000
set_option maxHeartbeats 4000000
open PySem PySem.Spec PyProof.Rows L2 Co
local macro_rules | `(tactic| walk_at "side") => `(tactic| first | assumption | (refine wide_div (b := 40) ?_ (show _ < 1099511627776 from ?_) (by decide) (by decide) <;> omega) | (dsimp only [CDiv, CPow, CMul, CDivW, CMulW]; omega) | omega | decide)
local macro_rules | `(tactic| walk_at "w1") => `(tactic| first
  | ((with_reducible refine' w_var ?hv ?_); (case hv => exact rfl))
  | (with_reducible refine w_c ?_)
  | (with_reducible refine w_op ?_)
  | (with_reducible refine w_un ?_)
  | (with_reducible refine w_I0 ?_)
  | (with_reducible refine w_p32 ?_)
  | (with_reducible refine w_p31 ?_)
  | (with_reducible refine w_p26 ?_)
  | (with_reducible refine w_p22 ?_)
  | (with_reducible refine w_p20 ?_)
  | (with_reducible refine w_p18 ?_)
  | (with_reducible refine w_p17 ?_)
  | (with_reducible refine w_p16 ?_)
  | (with_reducible refine w_p14 ?_)
  | (with_reducible refine w_p13 ?_)
  | ((with_reducible refine w_I ?hc ?_); (case hc => walk_at "side"))
  | (with_reducible refine w_U ?_)
  | (with_reducible refine w_eqI ?_)
  | (with_reducible refine w_neI ?_)
  | (with_reducible refine w_eqS ?_)
  | ((with_reducible refine w_eq ?hc ?_); (case hc => exact rfl))
  | ((with_reducible refine w_ne ?hc ?_); (case hc => exact rfl))
  | (with_reducible refine w_test ?_)
  | (with_reducible refine w_B ?_)
  | (with_reducible refine w_bl ?_)
  | (with_reducible refine w_if ?_)
  | (with_reducible refine w_ifB ?_)
  | (with_reducible refine w_isB ?_)
  | (with_reducible refine w_notB ?_)
  | (with_reducible refine w_isiInt ?_)
  | (with_reducible refine w_isiIntB ?_)
  | (with_reducible refine w_andT ?_)
  | (with_reducible refine w_orT ?_)
  | (with_reducible refine w_notT ?_)
  | (with_reducible refine w_andV ?_)
  | (with_reducible refine w_orV ?_)
  | (with_reducible refine w_notV ?_)
  | (with_reducible refine w_chain ?_)
  | (with_reducible refine w_seq ?_)
  | (with_reducible refine w_next ?_)
  | (with_reducible refine w_ret ?_)
  | (with_reducible refine w_retN ?_)
  | (with_reducible refine w_ifS ?_)
  | (with_reducible refine w_asg ?_)
  | (with_reducible refine w_name ?_)
  | (with_reducible refine w_drop ?_)
  | (with_reducible refine w_nil ?_)
  | (with_reducible refine w_cons ?_)
  | (with_reducible refine w_call ?_)
  | (with_reducible refine w_cb ?_)
  | (with_reducible refine w_sub ?_)
  | (with_reducible refine w_gNil ?_)
  | (with_reducible refine w_gCons ?_)
  | ((with_reducible refine' w_gTup ?hh ?hn ?_); (case hh => assumption); (case hn => exact rfl))
  | (with_reducible refine w_for ?_)
  | (with_reducible refine w_iL ?_)
  | (with_reducible refine w_iT ?_)
  | (with_reducible refine w_rng1 ?_)
  | (with_reducible refine w_rng2 ?_)
  | (with_reducible refine w_lc ?_)
  | (with_reducible refine w_zST ?_)
  | (with_reducible refine w_sc ?_)
  | ((with_reducible refine' w_aug ?hh ?_); (case hh => exact rfl))
  | (with_reducible refine w_ipI ?_)
  | (with_reducible refine w_iSt ?_)
  | (with_reducible refine w_sl ?_)
  | (with_reducible refine w_part ?_)
  | (with_reducible refine w_noPart ?_)
  | (with_reducible refine w_exI ?_)
  | (with_reducible refine w_m1 ?_)
  | (with_reducible refine w_isS ?_)
  | (with_reducible refine w_starts ?_)
  | (with_reducible refine w_bm ?_)
  | ((with_reducible refine' w_tyL ?hh ?_); (case hh => assumption))
  | (with_reducible refine w_star ?_)
  | (with_reducible refine w_inSg ?_)
  | (with_reducible refine w_yes ?_)
  | (with_reducible refine w_tup ?_)
  | (with_reducible refine w_lst ?_)
  | ((with_reducible refine' w_ixL ?hh ?ha ?_); (case hh => assumption); (case ha => exact rfl))
  | ((with_reducible refine' w_ixT ?hh ?ha ?_); (case hh => assumption); (case ha => exact rfl))
  | ((with_reducible refine' w_setL ?hh ?ha ?_); (case hh => assumption); (case ha => exact rfl))
  | ((with_reducible refine' w_lenL ?hh ?_); (case hh => assumption))
  | (with_reducible refine w_int1 ?_)
  | (with_reducible refine w_abs ?_)
  | (with_reducible refine w_nT ?_)
  | (with_reducible refine w_nF ?_)
  | (with_reducible refine w_itT ?_)
  | (with_reducible refine w_itF ?_)
  | ((with_reducible refine w_spI1 ?hc ?_); (case hc => walk_at "side"))
  | ((with_reducible refine w_spI2 ?hc ?_); (case hc => walk_at "side")))
local macro_rules | `(tactic| walk_at "ws") => `(tactic| repeat (walk_at "w1"))
local macro_rules | `(tactic| walk_at "wd") => `(tactic| repeat (first | walk_at "w1" | (refine w_decT ?hd ?_; (case hd => decide)) | (refine w_decF ?hd ?_; (case hd => decide))))
local macro_rules | `(tactic| walk_at "wr") => `(tactic| repeat (first | walk_at "w1" | (refine w_ndecF rfl ?_)))

namespace K00
def topS (i : Nat) : Stmt := PySem.Challenge.pw_restitch_k00_words_of_instructions.main.body.getD i (.Pass ⟨0, 0, 0, 0⟩)
abbrev s_encode : Stmt := topS 5
abbrev s_decode : Stmt := topS 6
abbrev s_immediate : Stmt := topS 7
abbrev s_with_sign : Stmt := topS 8
abbrev s_reads : Stmt := topS 9
abbrev s_writes : Stmt := topS 10
abbrev s_law_draw : Stmt := topS 12
abbrev s_law_take : Stmt := topS 13
abbrev s_law_ops : Stmt := topS 14
abbrev s_law_word : Stmt := topS 15
abbrev s_law_bytes : Stmt := topS 16
abbrev s_law_label : Stmt := topS 17
abbrev s_law_here : Stmt := topS 18
abbrev s_law_put_word : Stmt := topS 19
abbrev s_law_some : Stmt := topS 20
abbrev s_law_register : Stmt := topS 21
abbrev s_law_set : Stmt := topS 22
abbrev s_law_alu : Stmt := topS 23
abbrev s_law_memory : Stmt := topS 24
abbrev s_law_if : Stmt := topS 25
abbrev s_law_loop : Stmt := topS 26
abbrev s_law_call : Stmt := topS 27
abbrev s_law_switch : Stmt := topS 28
abbrev s_law_rows : Stmt := topS 29
abbrev s_law_odd : Stmt := topS 30
abbrev s_law_code_words : Stmt := topS 31
abbrev s_law_values : Stmt := topS 32
abbrev s_law_image : Stmt := topS 33
abbrev s_law_row : Stmt := topS 34
abbrev s_law_signed : Stmt := topS 35
abbrev s_law_read : Stmt := topS 36
abbrev s_law_uses : Stmt := topS 37
abbrev s_law : Stmt := topS 38
theorem sc_law_draw : FnScope ["script", "seed", "cell"] ["script"] (defScope s_law_draw) := ⟨rfl, rfl, rfl, by decide +kernel, rfl, by decide +kernel, by decide +kernel⟩
theorem sc_law_take : FnScope ["draw", "many", "found"] ["draw", "many"] (defScope s_law_take) := ⟨rfl, rfl, rfl, by decide +kernel, rfl, by decide +kernel, by decide +kernel⟩
/-! drawing -/
def mabs (n : Int) : Int := if n < 0 then -n else n
theorem mabs_nn (n : Int) : 0 ≤ mabs n := by unfold mabs; split <;> omega
def DrawAt (H : Hp) (d : Addr) : Prop := ∃ (c : Addr) (cs : List Int) (i cur seed : Int), H d = some (.lst [.ref c, .int i, .int cur, .int seed]) ∧ H c = some (.lst (cs.map V.int)) ∧ c ≠ d ∧ -1 ≤ i ∧ 0 ≤ cur ∧ 0 ≤ seed ∧ seed < 2147483647 ∧ ∀ x ∈ cs, 0 ≤ x
theorem DrawAt.same {H H' : Hp} {d : Addr} (h : DrawAt H d) (s : Same H H') : DrawAt H' d := by
  obtain ⟨c, cs, i, cur, seed, hd, hc, r⟩ := h
  exact ⟨c, cs, i, cur, seed, s _ _ hd, s _ _ hc, r⟩
def spDraw (K : PySem.W.Frag) : Sp := fun vs H Q _ => ∃ (a : Addr) (ns : List Int), vs = [.ref a] ∧ SqL K H a (ns.map V.int) ∧ ns.length ≤ 63 ∧ ∀ (d : Addr) H', H d = none → Same H H' → DrawAt H' d → Q (.ref d) H'
def spTake : Sp := fun vs H Q _ => ∃ (d : Addr) (m : Int), vs = [.ref d, .int m] ∧ DrawAt H d ∧ 0 < m ∧ m ≤ 4294967296 ∧ ∀ (r : Int) H', 0 ≤ r → r < m → DrawAt H' d → But d H H' → Q (.int r) H'
theorem w_take {H : Hp} {Q : VK} {E : XK} {d : Addr} {m : Int} (hd : DrawAt H d) (h0 : 0 < m) (h1 : m ≤ 4294967296) (q : ∀ (r : Int) H', 0 ≤ r → r < m → DrawAt H' d → But d H H' → Q (.int r) H') : spTake [.ref d, .int m] H Q E := ⟨d, m, rfl, hd, h0, h1, q⟩
section
variable {P : Program} {w : World} {K : PySem.W.Frag} {mg : Str → Option Value} {base : Heap}
theorem ok_take (b_int : mg "int" = none) (b_abs : mg "abs" = none) (b_len : mg "len" = none) (Z : St1 K mg "_law_take" s_law_take ["draw", "many"]) : Cd P w K mg base 1 "_law_take" spTake := by
  refine Z.cd sc_law_take (fun vs H Q E h => by obtain ⟨d, m, rfl, _⟩ := h; rfl) (fun f cdv A outer s H vs Q E hr h => ?_)
  obtain ⟨d, m, rfl, ⟨c, cs, i, cur, seed, hd, hc, ncd, hi, hcur, hs0, hs1, hcs⟩, hm0, hm1, q⟩ := h
  refine ⟨_, (Evl.pss_cut (ps_if (pt_cmpR op_eq (pe_ix ix_list (pv 0) pe_int (fun _ _ => rfl)) pe_int (nomark _)) (pss_cons (ps_asg (pe_op op_add (pe_ix ix_list (pv 0) pe_int (fun _ _ => rfl)) pe_int) (pg_sub (pv 0) pe_int set_list))
      (Evl.pss_cut (ps_if (pt_cmpR op_lt (pe_ix ix_list (pv 0) pe_int (fun _ _ => rfl)) (pe_callB call_lenQ (by rfl) b_len PySem.boot_len (pa_cons (pe_ix ix_list (pv 0) pe_int (fun _ _ => rfl)) pa_nil)) (nomark _)) (pss_one (ps_asg (pe_ix ix_list (pe_ix ix_list (pv 0) pe_int (fun _ _ => rfl)) (pe_ix ix_list (pv 0) pe_int (fun _ _ => rfl)) (fun _ _ => rfl)) (pg_sub (pv 0) pe_int set_list))) pss_nil)
      (pss_one (ps_if (pt_cmpR op_eq (pe_ix ix_list (pv 0) pe_int (fun _ _ => rfl)) pe_int (nomark _)) (pss_cons (ps_asg (pe_op op_mod (pe_callTy call_intQ (by rfl) b_int (by decide +kernel) (pa_cons (pe_op op_add (pe_op op_mul (pe_ix ix_list (pv 0) pe_int (fun _ _ => rfl)) pe_int) pe_int) pa_nil)) pe_int) (pg_sub (pv 0) pe_int set_list))
      (pss_one (ps_asg (pe_ix ix_list (pv 0) pe_int (fun _ _ => rfl)) (pg_sub (pv 0) pe_int set_list)))) pss_nil)))) pss_nil)
      (pss_cons (ps_set (i := 2) sc_law_take.nd rfl (.inl rfl) (pe_op op_mod (pe_callTy call_intQ (by rfl) b_int (by decide +kernel) (pa_cons (pe_ix ix_list (pv 0) pe_int (fun _ _ => rfl)) pa_nil)) (pv 1)))
      (pss_cons (ps_asg (pe_op op_fdivW (pe_ix ix_list (pv 0) pe_int (fun _ _ => rfl)) (pv 1)) (pg_sub (pv 0) pe_int set_list))
      (pss_one (ps_ret (pv 2)))))), ?_⟩
  refine Evl.q_cut (M := fun σ' H' => σ' = [some (.ref d), some (.int m), none] ∧ But d H H' ∧ ∃ i' cur' seed', H' d = some (.lst [.ref c, .int i', .int cur', .int seed']) ∧ H' c = some (.lst (cs.map V.int)) ∧ -1 ≤ i' ∧ 0 ≤ cur' ∧ 0 ≤ seed' ∧ seed' < 2147483647) ?_ ?_
  · walk_at "ws"
    refine w_dec (fun e => ?_) (fun e => ?_)
    · walk_at "ws"
      intro H1 hd1 bt1
      replace hd1 : H1 d = some (.lst [.ref c, .int (i + 1), .int cur, .int seed]) := hd1
      have hc1 : H1 c = some (.lst (cs.map V.int)) := bt1 c _ ncd hc
      walk_at "ws"
      refine Evl.q_cut (M := fun σ' H' => σ' = [some (.ref d), some (.int m), none] ∧ But d H H' ∧ ∃ cur', H' d = some (.lst [.ref c, .int (i + 1), .int cur', .int seed]) ∧ 0 ≤ cur') ?_ ?_
      · walk_at "ws"
        refine w_dec (fun e2 => ?_) (fun e2 => ?_)
        · walk_at "ws"
          have l1 : (cs.map V.int).length = cs.length := List.length_map ..
          have hlt : (i + 1).toNat < cs.length := by omega
          refine w_ixL (v := .int cs[(i + 1).toNat]) hc1 (atI_of (by omega) ?_) ?_
          · rw [List.getElem?_map, List.getElem?_eq_getElem hlt]; rfl
          walk_at "ws"
          intro H2 hd2 bt2
          walk_at "ws"
          exact ⟨rfl, bt1.trans bt2, _, hd2, hcs _ (List.getElem_mem hlt)⟩
        · walk_at "ws"
          exact ⟨rfl, bt1, cur, hd1, hcur⟩
      · rintro σ' H2 ⟨rfl, bt2, cur2, hd2, hcur2⟩
        walk_at "ws"
        have hc2 : H2 c = some (.lst (cs.map V.int)) := bt2 c _ ncd hc
        refine w_dec (fun e2 => ?_) (fun e2 => ?_)
        · walk_at "ws"
          intro H3 hd3 bt3
          replace hd3 : H3 d = some (.lst [.ref c, .int (i + 1), .int cur2, .int ((seed * 48271 + 11) % 2147483647)]) := hd3
          walk_at "ws"
          intro H4 hd4 bt4
          replace hd4 : H4 d = some (.lst [.ref c, .int (i + 1), .int ((seed * 48271 + 11) % 2147483647), .int ((seed * 48271 + 11) % 2147483647)]) := hd4
          have g1 : 0 ≤ (seed * 48271 + 11) % 2147483647 := Int.emod_nonneg _ (by omega)
          have g2 : (seed * 48271 + 11) % 2147483647 < 2147483647 := Int.emod_lt_of_pos _ (by omega)
          exact ⟨rfl, bt2.trans (bt3.trans bt4), _, _, _, hd4, bt4 c _ ncd (bt3 c _ ncd hc2), by omega, g1, g1, g2⟩
        · walk_at "ws"
          exact ⟨rfl, bt2, _, _, _, hd2, hc2, by omega, hcur2, hs0, hs1⟩
    · walk_at "ws"
      exact ⟨rfl, But.refl _ _, i, cur, seed, hd, hc, hi, hcur, hs0, hs1⟩
  · rintro σ' H' ⟨rfl, bt, i', cur', seed', hd', hc', hi', hcur', hs0', hs1'⟩
    walk_at "ws"
    intro H1 hd1 bt1
    replace hd1 : H1 d = some (.lst [.ref c, .int i', .int (cur' / m), .int seed']) := hd1
    walk_at "ws"
    refine q (cur' % m) H1 (Int.emod_nonneg _ (by omega)) (Int.emod_lt_of_pos _ hm0) ⟨c, cs, i', cur' / m, seed', hd1, bt1 c _ ncd hc', ncd, hi', Int.ediv_nonneg hcur' (by omega), hs0', hs1', hcs⟩ (bt.trans bt1)
theorem ok_draw (b_int : mg "int" = none) (b_abs : mg "abs" = none) (b_len : mg "len" = none) (Z : St1 K mg "_law_draw" s_law_draw ["script"]) : Cd P w K mg base 1 "_law_draw" (spDraw K) := by
  refine Z.cd sc_law_draw (fun vs H Q E h => by obtain ⟨d, m, rfl, _⟩ := h; rfl) (fun f cdv A outer s H vs Q E hr h => ?_)
  obtain ⟨a, ns, rfl, hS, hlen, q⟩ := h
  refine ⟨_, (pss_cons (ps_set (i := 1) sc_law_draw.nd rfl (.inl rfl) pe_int)
      (pss_cons (ps_for PassesOwn.never rfl (pi_list (pv 0)) (pg_name (i := 2) sc_law_draw.nd rfl (.inl rfl))
      (pss_one (ps_set (i := 1) sc_law_draw.nd rfl (.inl rfl) (pe_op op_mod (pe_callTy call_intQ (by rfl) b_int (by decide +kernel) (pa_cons (pe_op op_add (pe_op op_add (pe_op op_mul (pv 1) pe_int) (pe_op op_mod (pe_callB call_absQ (by rfl) b_abs (by decide +kernel) (pa_cons (pe_callTy call_intQ (by rfl) b_int (by decide +kernel) (pa_cons (pv 2) pa_nil)) pa_nil)) pe_int)) pe_int) pa_nil)) pe_int))))
      (pss_one (ps_ret (pe_lst (pa_cons (pe_lc (own := [("cell", 2)]) rfl sc_law_draw.nd (pi_list (pv 0)) (blkOk_by (own := [("cell", 2)]) (N := ["script", "seed", "cell"]) (sc := (defScope s_law_draw)) (by decide +kernel)) (fun _ _ _ _ _ => (pg_name (i := 2) sc_law_draw.nd rfl (.inl rfl))) (fun _ _ _ _ _ => pts_nil) (fun _ _ _ _ _ => (pe_callB call_absQ (by rfl) b_abs (by decide +kernel) (pa_cons (pe_callTy call_intQ (by rfl) b_int (by decide +kernel) (pa_cons (pv 2) pa_nil)) pa_nil)))) (pa_cons (pe_un un_neg pe_int) (pa_cons pe_int (pa_cons (pv 1) pa_nil))))))))), ?_⟩
  walk_at "ws"
  refine w_forL (ns.map V.int) (fun i σ' H' => H' = H ∧ ∃ (y : Option V) (seed : Int), σ' = [some (.ref a), some (.int seed), y] ∧ 0 ≤ seed ∧ seed < 2147483647) hS ⟨rfl, none, 7, rfl, by decide, by decide⟩ (fun i σ' H' _ ⟨e, _⟩ => by rw [e]; exact hS) ?_ ?_
  · rintro i x σ' H' hx ⟨rfl, y, seed, rfl, h0, h1⟩
    obtain ⟨n, _, rfl⟩ := map_get hx
    walk_at "ws"
    refine ⟨rfl, _, _, rfl, Int.emod_nonneg _ (by omega), Int.emod_lt_of_pos _ (by omega)⟩
  · rintro σ' H' ⟨rfl, y, seed, rfl, h0, h1⟩
    walk_at "ws"
    refine w_lcL (ns.map V.int) (fun c i H2 => H' c = none ∧ Same H' H2 ∧ H2 c = some (.lst (((ns.take i).map mabs).map V.int))) hS (fun c nc => ⟨nc, Same.new nc, upd_same⟩) (fun c i H2 _ ⟨_, e, _⟩ => e.seq hS) ?_ ?_
    · rintro c i x H2 hx ⟨nc, sm, hc⟩
      obtain ⟨n, hn, rfl⟩ := map_get hx
      walk_at "ws"
      refine ⟨rfl, ?_⟩
      walk_at "ws"
      have hi : i < ns.length := (List.getElem?_eq_some_iff.mp hn).1
      refine ⟨_, hc, by simp only [List.length_map, List.length_take]; exact small1000 (by omega), nc, ?_, ?_⟩
      · exact fun b o e => by rw [upd_ne (ne_of_none e nc)]; exact sm b o e
      · rw [upd_same, take_more hn, List.map_append, List.map_append]; rfl
    · rintro c H2 nc ⟨_, sm, hc⟩
      walk_at "ws"
      refine w_kLst (by show 4 ≤ sizeLine; decide) fun d H3 nd sm3 hd => ?_
      have hdc : c ≠ d := ne_of_none hc nd
      rw [List.length_map, List.take_length] at hc
      refine q d _ (sm.free nd) (sm.trans sm3) ⟨c, ns.map mabs, -1, 0, seed, hd, sm3 _ _ hc, hdc, by decide, by decide, h0, h1, fun x hx => ?_⟩
      obtain ⟨n, _, rfl⟩ := List.mem_map.mp hx
      exact mabs_nn n
end
end K00

namespace K00
def opsT : List (Str × Str) := [(("add" : Str), ("dss" : Str)), (("sub" : Str), ("dss" : Str)), (("mul" : Str), ("dss" : Str)), (("and" : Str), ("dss" : Str)), (("or" : Str), ("dss" : Str)), (("xor" : Str), ("dss" : Str)), (("shl" : Str), ("dss" : Str)), (("shr" : Str), ("dss" : Str)), (("sar" : Str), ("dss" : Str)), (("slt" : Str), ("dss" : Str)), (("sltu" : Str), ("dss" : Str)), (("divu" : Str), ("dss" : Str)), (("remu" : Str), ("dss" : Str)),
  (("addi" : Str), ("dsi" : Str)), (("andi" : Str), ("dsi" : Str)), (("ori" : Str), ("dsi" : Str)), (("xori" : Str), ("dsi" : Str)), (("shli" : Str), ("dsi" : Str)), (("shri" : Str), ("dsi" : Str)), (("sari" : Str), ("dsi" : Str)), (("slti" : Str), ("dsi" : Str)), (("lui" : Str), ("du" : Str)), (("lw" : Str), ("dsi" : Str)), (("lb" : Str), ("dsi" : Str)), (("lbu" : Str), ("dsi" : Str)), (("sw" : Str), ("ssi" : Str)), (("sb" : Str), ("ssi" : Str)),
  (("beq" : Str), ("ssi" : Str)), (("bne" : Str), ("ssi" : Str)), (("blt" : Str), ("ssi" : Str)), (("bge" : Str), ("ssi" : Str)), (("bltu" : Str), ("ssi" : Str)), (("bgeu" : Str), ("ssi" : Str)), (("jal" : Str), ("dj" : Str)), (("jalr" : Str), ("dsi" : Str)), (("get" : Str), ("d" : Str)), (("put" : Str), ("s" : Str)), (("exit" : Str), ("s" : Str))]
def R16 (x : Int) : Prop := 0 ≤ x ∧ x < 16
inductive Fits : Str → List Int → Prop
  | dss {a b c : Int} (ha : R16 a) (hb : R16 b) (hc : R16 c) : Fits "dss" [a, b, c]
  | dsi {a b c : Int} (ha : R16 a) (hb : R16 b) (hc : -8192 ≤ c ∧ c ≤ 8191) : Fits "dsi" [a, b, c]
  | ssi {a b c : Int} (ha : R16 a) (hb : R16 b) (hc : -8192 ≤ c ∧ c ≤ 8191) : Fits "ssi" [a, b, c]
  | du {a c : Int} (ha : R16 a) (hc : 0 ≤ c ∧ c < 262144) : Fits "du" [a, c]
  | dj {a c : Int} (ha : R16 a) (hc : -131072 ≤ c ∧ c ≤ 131071) : Fits "dj" [a, c]
  | d {a : Int} (ha : R16 a) : Fits "d" [a]
  | s {a : Int} (ha : R16 a) : Fits "s" [a]
def stepE (s : Int × Int) (p : Nat × Int) : Int × Int := if p.1 = 100 ∨ p.1 = 115 then (s.1 + p.2 * 2 ^ s.2.toNat, s.2 - 4) else if p.1 = 105 then (s.1 + p.2 % 16384, s.2) else (s.1 + p.2 % 262144, s.2)
def goE (l : List (Nat × Int)) (w : Int) : Int × Int := l.foldl stepE (w, 22)
def encW (n : Nat) (fm : Str) (xs : List Int) : Int := (goE (fm.cps.toList.zip xs) (((n : Int) + 1) * 67108864)).1
def sg (b h : Int) : Int := if h ≤ b then b - 2 * h else b
def imm (c : Nat) (w : Int) : Int := if c = 105 then sg (w % 16384) 8192 else if c = 106 then sg (w % 262144) 131072 else w % 262144
def stepD (w : Int) (s : List Int × Int) (c : Nat) : List Int × Int := if c = 100 ∨ c = 115 then (s.1 ++ [w / 2 ^ s.2.toNat % 16], s.2 - 4) else (s.1 ++ [imm c w], s.2)
def goD (w : Int) (l : List Nat) : List Int × Int := l.foldl (stepD w) ([], 22)
def fieldsOf (fm : Str) (w : Int) : List Int := (goD w fm.cps.toList).1
theorem cps_dss : (("dss" : Str).cps.toList) = [100, 115, 115] := rfl
theorem cps_dsi : (("dsi" : Str).cps.toList) = [100, 115, 105] := rfl
theorem cps_ssi : (("ssi" : Str).cps.toList) = [115, 115, 105] := rfl
theorem cps_du : (("du" : Str).cps.toList) = [100, 117] := rfl
theorem cps_dj : (("dj" : Str).cps.toList) = [100, 106] := rfl
theorem cps_d : (("d" : Str).cps.toList) = [100] := rfl
theorem cps_s : (("s" : Str).cps.toList) = [115] := rfl
section
variable {n : Nat} {a b c : Int}
local macro_rules | `(tactic| walk_at "enc") => `(tactic| (simp only [encW, goE, cps_dss, cps_dsi, cps_ssi, cps_du, cps_dj, cps_d, cps_s, List.zip_cons_cons, List.zip_nil_left, List.foldl_cons, List.foldl_nil, stepE]; simp))
theorem enc_dss : encW n "dss" [a, b, c] = ((n : Int) + 1) * 67108864 + a * 4194304 + b * 262144 + c * 16384 := by walk_at "enc"
theorem enc_dsi : encW n "dsi" [a, b, c] = ((n : Int) + 1) * 67108864 + a * 4194304 + b * 262144 + c % 16384 := by walk_at "enc"
theorem enc_ssi : encW n "ssi" [a, b, c] = ((n : Int) + 1) * 67108864 + a * 4194304 + b * 262144 + c % 16384 := by walk_at "enc"
theorem enc_du : encW n "du" [a, c] = ((n : Int) + 1) * 67108864 + a * 4194304 + c % 262144 := by walk_at "enc"
theorem enc_dj : encW n "dj" [a, c] = ((n : Int) + 1) * 67108864 + a * 4194304 + c % 262144 := by walk_at "enc"
theorem enc_d : encW n "d" [a] = ((n : Int) + 1) * 67108864 + a * 4194304 := by walk_at "enc"
theorem enc_s : encW n "s" [a] = ((n : Int) + 1) * 67108864 + a * 4194304 := by walk_at "enc"
end
section
variable {w : Int}
local macro_rules | `(tactic| walk_at "fld") => `(tactic| (simp only [fieldsOf, goD, cps_dss, cps_dsi, cps_ssi, cps_du, cps_dj, cps_d, cps_s, List.foldl_cons, List.foldl_nil, stepD, imm]; simp))
theorem fld_dss : fieldsOf "dss" w = [w / 4194304 % 16, w / 262144 % 16, w / 16384 % 16] := by walk_at "fld"
theorem fld_dsi : fieldsOf "dsi" w = [w / 4194304 % 16, w / 262144 % 16, sg (w % 16384) 8192] := by walk_at "fld"
theorem fld_ssi : fieldsOf "ssi" w = [w / 4194304 % 16, w / 262144 % 16, sg (w % 16384) 8192] := by walk_at "fld"
theorem fld_du : fieldsOf "du" w = [w / 4194304 % 16, w % 262144] := by walk_at "fld"
theorem fld_dj : fieldsOf "dj" w = [w / 4194304 % 16, sg (w % 262144) 131072] := by walk_at "fld"
theorem fld_d : fieldsOf "d" w = [w / 4194304 % 16] := by walk_at "fld"
theorem fld_s : fieldsOf "s" w = [w / 4194304 % 16] := by walk_at "fld"
end
theorem Fits.enc {n : Nat} {fm : Str} {xs : List Int} (h : Fits fm xs) : fieldsOf fm (encW n fm xs) = xs ∧ encW n fm xs / 67108864 = (n : Int) + 1 ∧ 0 ≤ encW n fm xs := by
  cases h with
  | dss ha hb hc => rw [enc_dss, fld_dss]; unfold R16 at ha hb hc; refine ⟨?_, by omega, by omega⟩; congr 1; omega; congr 1; omega; congr 1; omega
  | dsi ha hb hc => rw [enc_dsi, fld_dsi]; unfold R16 at ha hb; refine ⟨?_, by omega, by omega⟩; congr 1; omega; congr 1; omega; congr 1; unfold sg; split <;> omega
  | ssi ha hb hc => rw [enc_ssi, fld_ssi]; unfold R16 at ha hb; refine ⟨?_, by omega, by omega⟩; congr 1; omega; congr 1; omega; congr 1; unfold sg; split <;> omega
  | du ha hc => rw [enc_du, fld_du]; unfold R16 at ha; refine ⟨?_, by omega, by omega⟩; congr 1; omega; congr 1; omega
  | dj ha hc => rw [enc_dj, fld_dj]; unfold R16 at ha; refine ⟨?_, by omega, by omega⟩; congr 1; omega; congr 1; unfold sg; split <;> omega
  | d ha => rw [enc_d, fld_d]; unfold R16 at ha; refine ⟨?_, by omega, by omega⟩; congr 1; omega
  | s ha => rw [enc_s, fld_s]; unfold R16 at ha; refine ⟨?_, by omega, by omega⟩; congr 1; omega
def forms : List Str := ["dss", "dsi", "ssi", "du", "dj", "d", "s"]
theorem r16m (x : Int) : R16 (x % 16) := ⟨Int.emod_nonneg _ (by decide), Int.emod_lt_of_pos _ (by decide)⟩
theorem fits_of {fm : Str} (h : fm ∈ forms) (w : Int) : Fits fm (fieldsOf fm w) := by
  simp only [forms, List.mem_cons, List.not_mem_nil, or_false] at h
  rcases h with rfl | rfl | rfl | rfl | rfl | rfl | rfl
  · rw [fld_dss]; exact .dss (r16m _) (r16m _) (r16m _)
  · rw [fld_dsi]; exact .dsi (r16m _) (r16m _) (by unfold sg; split <;> omega)
  · rw [fld_ssi]; exact .ssi (r16m _) (r16m _) (by unfold sg; split <;> omega)
  · rw [fld_du]; exact .du (r16m _) (by omega)
  · rw [fld_dj]; exact .dj (r16m _) (by unfold sg; split <;> omega)
  · rw [fld_d]; exact .d (r16m _)
  · rw [fld_s]; exact .s (r16m _)
theorem ops_forms : ∀ p ∈ opsT, p.2 ∈ forms := by decide +kernel
theorem ops_nodup : ∀ m, m < 38 → ∀ n, n < 38 → (opsT[m]?.map (·.1)) = (opsT[n]?.map (·.1)) → m = n := by decide +kernel
/-- the n-th op with its form and fields that fit -/
structure Ins (n : Nat) (op fm : Str) (xs : List Int) : Prop where
  at_ : opsT[n]? = some (op, fm)
  fits : Fits fm xs
theorem Ins.inj {n n' : Nat} {op op' fm fm' : Str} {xs xs' : List Int} (h : Ins n op fm xs) (h' : Ins n' op' fm' xs') (e : encW n fm xs = encW n' fm' xs') : op = op' ∧ fm = fm' ∧ xs = xs' ∧ n = n' := by
  have a1 := h.fits.enc (n := n)
  have a2 := h'.fits.enc (n := n')
  have en : n = n' := by rw [e] at a1; omega
  subst en
  have q := Option.some.inj (h.at_.symm.trans h'.at_)
  cases q
  refine ⟨rfl, rfl, ?_, rfl⟩
  rw [← a1.1, e, a2.1]
end K00

namespace K00
theorem sc_encode : FnScope ["instruction", "op", "word", "shift", "kind", "operand"] ["instruction"] (defScope s_encode) := ⟨rfl, rfl, rfl, by decide +kernel, rfl, by decide +kernel, by decide +kernel⟩
theorem sc_with_sign : FnScope ["bits", "half"] ["bits", "half"] (defScope s_with_sign) := ⟨rfl, rfl, rfl, by decide +kernel, rfl, by decide +kernel, by decide +kernel⟩
theorem sc_immediate : FnScope ["kind", "word"] ["kind", "word"] (defScope s_immediate) := ⟨rfl, rfl, rfl, by decide +kernel, rfl, by decide +kernel, by decide +kernel⟩
theorem sc_decode : FnScope ["word", "number", "op", "operands", "shift", "kind", "found"] ["word"] (defScope s_decode) := ⟨rfl, rfl, rfl, by decide +kernel, rfl, by decide +kernel, by decide +kernel⟩
theorem sc_reads : FnScope ["instruction", "kinds", "used", "kind", "operand", "number"] ["instruction"] (defScope s_reads) := ⟨rfl, rfl, rfl, by decide +kernel, rfl, by decide +kernel, by decide +kernel⟩
theorem sc_writes : FnScope ["instruction"] ["instruction"] (defScope s_writes) := ⟨rfl, rfl, rfl, by decide +kernel, rfl, by decide +kernel, by decide +kernel⟩
/-- a tuple that the module has written -/
def WTup (K : PySem.W.Frag) (O : Addr) (xs : List V) : Prop := ∃ (its : Array Value) (n : Nat) (sl : Array (Option Value)), K.lookup O = some ⟨.type "tuple", none, .seq its n, sl⟩ ∧ its.size ≤ sizeLine ∧ Vals xs its.toList
theorem WTup.sq {K : PySem.W.Frag} {O : Addr} {xs : List V} (h : WTup K O xs) (H : Hp) : SqT K H O xs := by
  obtain ⟨its, n, sl, l, z, v⟩ := h
  exact .inr ⟨_, its, n, l, rfl, rfl, z, v⟩
theorem WTup.ty {K : PySem.W.Frag} {O : Addr} {xs : List V} (h : WTup K O xs) {H : Hp} {B : Prop} (q : B) : tyV K "tuple" (.ref O) H ∧ B := by
  obtain ⟨its, n, sl, l, z, v⟩ := h
  exact ⟨.inr (.inl ⟨rfl, _, l, rfl, rfl⟩), q⟩
structure Env0 (K : PySem.W.Frag) (w : World) (mg : Str → Option Value) (O F : Addr) : Prop where
  g_OPS : GV mg "OPS" (.ref O)
  g_FORMS : GV mg "FORMS" (.ref F)
  g_LOW_14 : GV mg "LOW_14" (.int 16383)
  g_LOW_18 : GV mg "LOW_18" (.int 262143)
  ops : WTup K O ((opsT.map (·.1)).map V.str)
  rows : ∀ p ∈ opsT, KDct K w F p.1 (.str p.2)
def insV (op : Str) (xs : List Int) : List V := .str op :: xs.map V.int
def spEnc (K : PySem.W.Frag) : Sp := fun vs H Q _ => ∃ (t : Addr) (n : Nat) (op fm : Str) (xs : List Int), vs = [.ref t] ∧ SqT K H t (insV op xs) ∧ Ins n op fm xs ∧ ∀ H', Same H H' → Q (.int (encW n fm xs)) H'
theorem first_at {n : Nat} {op fm : Str} (h : opsT[n]? = some (op, fm)) : (opsT.map (·.1))[n]? = some op ∧ (∀ m, m < n → (opsT.map (·.1))[m]? ≠ some op) := by
  have hn : n < 38 := (List.getElem?_eq_some_iff.mp h).1
  have e : (opsT.map (·.1))[n]? = some op := by rw [List.getElem?_map, h]; rfl
  refine ⟨e, fun m hm z => ?_⟩
  have := ops_nodup m (by omega) n hn (by rw [← List.getElem?_map, ← List.getElem?_map, z, e])
  omega
theorem Ins.n38 {n : Nat} {op fm : Str} {xs : List Int} (h : Ins n op fm xs) : n < 38 := (List.getElem?_eq_some_iff.mp h.at_).1
theorem Fits.len {fm : Str} {xs : List Int} (h : Fits fm xs) : fm.cps.size = xs.length ∧ xs.length ≤ 3 ∧ ∀ x ∈ xs, -131072 ≤ x ∧ x < 262144 := by
  cases h <;> (refine ⟨rfl, by simp, fun x hx => ?_⟩; simp only [List.mem_cons, List.not_mem_nil, or_false] at hx; unfold R16 at *; rcases hx with rfl | rfl | rfl) <;> omega
section
variable {P : Program} {w : World} {K : PySem.W.Frag} {mg : Str → Option Value} {base : Heap}
theorem ok_encode {O F : Addr} (T : Env0 K w mg O F) (b_zip : mg "zip" = none) (Z : St1 K mg "encode" s_encode ["instruction"]) : Cd P w K mg base 1 "encode" (spEnc K) := by
  obtain ⟨g_OPS, g_FORMS, g_LOW_14, g_LOW_18, ops, rows⟩ := T
  refine Z.cd sc_encode (fun vs H Q E h => by obtain ⟨t, n, op, fm, xs, rfl, _⟩ := h; rfl) (fun f cdv A outer s H vs Q E hr h => ?_)
  obtain ⟨t, n, op, fm, xs, rfl, ht, hi, q⟩ := h
  have hr0 := rows (op, fm) (List.mem_of_getElem? hi.at_)
  have hn := hi.n38
  obtain ⟨fl, f3, fb⟩ := hi.fits.len
  obtain ⟨at1, at2⟩ := first_at hi.at_
  refine ⟨_, (pss_cons (ps_set (i := 1) sc_encode.nd rfl (.inl rfl) (pe_ix ix_tup (pv 0) pe_int (fun _ _ => rfl)))
      (pss_cons (ps_set (i := 2) sc_encode.nd rfl (.inl rfl) (pe_op op_shl (pe_op op_add (pe_bm PySem.F.plainAttrs_tuple PySem.F.slot_tuple_index PySem.F.type_tuple_index mt_tupIxQ (pe_gv (by rfl) g_OPS) (pa_cons (pv 1) pa_nil)) pe_int) pe_int))
      (pss_cons (ps_set (i := 3) sc_encode.nd rfl (.inl rfl) pe_int)
      (Evl.pss_cut (ps_for PassesOwn.never rfl (pi_zipST (by rfl) b_zip (pa_cons (pe_ix ix_kdict (pe_gv (by rfl) g_FORMS) (pv 1) (fun _ _ => rfl)) (pa_cons (pe_slice sl_tupA (pv 0) (po_some pe_int) po_none) pa_nil))) (pg_tup rfl (pgs_cons (pg_name (i := 4) sc_encode.nd rfl (.inl rfl)) (pgs_cons (pg_name (i := 5) sc_encode.nd rfl (.inl rfl)) pgs_nil)))
      (pss_one (ps_if (pt_cmpR op_inSQ (pv 4) pe_str rfl) (pss_cons (ps_aug (i := 2) sc_encode.nd rfl (.inl rfl) (pe_op op_shl (pv 5) (pv 3)) ip_add)
      (pss_one (ps_aug (i := 3) sc_encode.nd rfl (.inl rfl) pe_int ip_sub))) (pss_one (ps_if (pt_cmpR op_eq (pv 4) pe_str (nomark _)) (pss_one (ps_aug (i := 2) sc_encode.nd rfl (.inl rfl) (pe_op op_and (pv 5) (pe_gv (by rfl) g_LOW_14)) ip_add)) (pss_one (ps_aug (i := 2) sc_encode.nd rfl (.inl rfl) (pe_op op_and (pv 5) (pe_gv (by rfl) g_LOW_18)) ip_add)))))))
      (pss_one (ps_ret (pv 2))))))), ?_⟩
  walk_at "ws"
  refine w_ixTs ht (atI_of (v := .str op) (by decide) rfl) ?_
  walk_at "ws"
  refine ops.ty ?_
  walk_at "ws"
  refine w_tix (ops.sq H) at1 at2 ?_
  walk_at "ws"
  have ew : ((n : Int) + 1) * 2 ^ (26 : Int).toNat = ((n : Int) + 1) * 67108864 := rfl
  obtain ⟨x0, xr, rfl⟩ : ∃ x0 xr, xs = x0 :: xr := by cases hi.fits <;> exact ⟨_, _, rfl⟩
  have inv0 : ∀ v4 v5 v6 : Option V, True := fun _ _ _ => trivial
  refine Evl.q_cut (M := fun σ' H' => Same H H' ∧ ∃ v4 v5 v6, σ' = [some (.ref t), some (.str op), some (.int (encW n fm (x0 :: xr))), v4, v5, v6]) ?_ ?_
  · walk_at "ws"
    refine w_ixD hr0 ?_
    walk_at "ws"
    refine w_rSl1 ht fun p H1 np sm hp => ?_
    walk_at "ws"
    have zl : (fm.cps.toList.zip (x0 :: xr)).length = (x0 :: xr).length := by rw [List.length_zip]; simp only [Array.length_toList, fl, Nat.min_self]
    refine w_forZ ((x0 :: xr).map V.int) (fun i σ' H' => Same H1 H' ∧ ∃ v4 v5 v6 : Option V, σ' = [some (.ref t), some (.str op), some (.int (goE ((fm.cps.toList.zip (x0 :: xr)).take i) (((n : Int) + 1) * 67108864)).1), some (.int (goE ((fm.cps.toList.zip (x0 :: xr)).take i) (((n : Int) + 1) * 67108864)).2), v5, v6] ∧ 22 - 4 * (i : Int) ≤ (goE ((fm.cps.toList.zip (x0 :: xr)).take i) (((n : Int) + 1) * 67108864)).2 ∧ (goE ((fm.cps.toList.zip (x0 :: xr)).take i) (((n : Int) + 1) * 67108864)).2 ≤ 22) (.of hp) (by rw [List.length_map]; exact fl) ⟨Same.refl _, none, none, none, rfl, by show (22 : Int) - 4 * 0 ≤ 22; decide, by show (22 : Int) ≤ 22; decide⟩ (fun i σ' H' ⟨sm', _⟩ => .of (sm' _ _ hp)) ?_ ?_
    · rintro i c y T σ' H' H'' hc hy ⟨sm', v4, v5, v6, rfl, lo, hi'⟩ nT sT hT
      obtain ⟨x, hx, rfl⟩ := map_get hy
      have hil : i < (x0 :: xr).length := (List.getElem?_eq_some_iff.mp hx).1
      have hb := fb x (List.mem_of_getElem? hx)
      have hz : (fm.cps.toList.zip (x0 :: xr))[i]? = some (c, x) := by
        rw [List.getElem?_zip_eq_some]
        exact ⟨by simpa using hc, hx⟩
      have tk := take_more hz
      have st : goE ((fm.cps.toList.zip (x0 :: xr)).take (i + 1)) (((n : Int) + 1) * 67108864) = stepE (goE ((fm.cps.toList.zip (x0 :: xr)).take i) (((n : Int) + 1) * 67108864)) (c, x) := by
        rw [tk]; unfold goE; rw [List.foldl_append]; rfl
      generalize goE ((fm.cps.toList.zip (x0 :: xr)).take i) (((n : Int) + 1) * 67108864) = s0 at *
      obtain ⟨wd, sh⟩ := s0
      walk_at "ws"
      have hi3 : i < 3 := by omega
      simp only at lo hi'
      refine w_dec (fun e => ?_) (fun e => ?_)
      · have e' : c = 100 ∨ c = 115 := by simpa using (show c ∈ [100, 115] from e)
        walk_at "ws"
        have s1 : stepE (wd, sh) (c, x) = (wd + x * 2 ^ sh.toNat, sh - 4) := if_pos e'
        rw [s1] at st
        exact ⟨sm'.trans sT, none, _, _, by rw [st]; rfl, by rw [st]; show 22 - 4 * ((i + 1 : Nat) : Int) ≤ sh - 4; omega, by rw [st]; show sh - 4 ≤ 22; omega⟩
      · have e' : ¬ (c = 100 ∨ c = 115) := fun z => e (show c ∈ [100, 115] by simpa using z)
        walk_at "ws"
        refine w_dec (fun e2 => ?_) (fun e2 => ?_)
        · have e3 : c = 105 := Option.some.inj (congrArg (fun z : Str => z.cps[0]?) e2)
          walk_at "ws"
          have s1 : stepE (wd, sh) (c, x) = (wd + x % 16384, sh) := (if_neg e').trans (if_pos e3)
          rw [s1] at st
          have eb : Builtin.bitAnd x 16383 = x % 16384 := PySem.W.kbt_mask x 14
          refine ⟨sm'.trans sT, none, _, _, by rw [st, eb]; rfl, by rw [st]; show 22 - 4 * ((i + 1 : Nat) : Int) ≤ sh; omega, by rw [st]; show sh ≤ 22; omega⟩
        · have e3 : c ≠ 105 := fun z => e2 (by rw [z]; rfl)
          walk_at "ws"
          have s1 : stepE (wd, sh) (c, x) = (wd + x % 262144, sh) := (if_neg e').trans (if_neg e3)
          rw [s1] at st
          have eb : Builtin.bitAnd x 262143 = x % 262144 := PySem.W.kbt_mask x 18
          refine ⟨sm'.trans sT, none, _, _, by rw [st, eb]; rfl, by rw [st]; show 22 - 4 * ((i + 1 : Nat) : Int) ≤ sh; omega, by rw [st]; show sh ≤ 22; omega⟩
    · rintro σ' H' ⟨sm', v4, v5, v6, rfl, _⟩
      rw [List.length_map, ← zl, List.take_length]
      exact ⟨sm.trans sm', _, _, _, rfl⟩
  · rintro σ' H' ⟨sm, v4, v5, v6, rfl⟩
    walk_at "ws"
    exact q H' sm
theorem ok_with_sign (Z : St1 K mg "_with_sign" s_with_sign ["bits", "half"]) : Cd P w K mg base 1 "_with_sign" (spI2 (fun _ h => 0 ≤ h ∧ h < 1000000) fun b h => .int (sg b h)) := by
  refine Z.cd sc_with_sign len_spI2 (fun f cdv A outer s H vs Q E hr h => ?_)
  obtain ⟨b, h, rfl, ⟨h0, h1⟩, q⟩ := h
  refine ⟨_, (pss_one (ps_ret (pe_ifExp (pt_cmpR op_ge (pv 0) (pv 1) (nomark _)) (pe_op op_sub (pv 0) (pe_op op_mul pe_int (pv 1))) (pv 0)))), ?_⟩
  walk_at "ws"
  refine w_dec (fun e => ?_) (fun e => ?_)
  · walk_at "ws"
    simpa only [sg, if_pos e] using q
  · walk_at "ws"
    simpa only [sg, if_neg e] using q
def spImm : Sp := fun vs H Q _ => ∃ (c : Nat) (w : Int), vs = [.str ⟨#[c]⟩, .int w] ∧ Q (.int (imm c w)) H
theorem one_eq {c k : Nat} {x : Str} (hx : x.cps[0]? = some k) (hs : x = ⟨#[k]⟩) : ((⟨#[c]⟩ : Str) = x) ↔ c = k := by
  constructor
  · intro e
    have := congrArg (fun z : Str => z.cps[0]?) e
    rw [hx] at this
    exact Option.some.inj this
  · intro e
    rw [e, hs]
theorem ok_immediate {O F : Addr} (T : Env0 K w mg O F) (c_with_sign : Cd P w K mg base 1 "_with_sign" (spI2 (fun _ h => 0 ≤ h ∧ h < 1000000) fun b h => .int (sg b h))) (Z : St1 K mg "_immediate" s_immediate ["kind", "word"]) : Cd P w K mg base 2 "_immediate" spImm := by
  obtain ⟨g_OPS, g_FORMS, g_LOW_14, g_LOW_18, ops, rows⟩ := T
  refine Z.cd sc_immediate (fun vs H Q E h => by obtain ⟨c, x, rfl, _⟩ := h; rfl) (fun f cdv A outer s H vs Q E hr h => ?_)
  obtain ⟨c, x, rfl, q⟩ := h
  have e14 : Builtin.bitAnd x 16383 = x % 16384 := PySem.W.kbt_mask x 14
  have e18 : Builtin.bitAnd x 262143 = x % 262144 := PySem.W.kbt_mask x 18
  refine ⟨_, (pss_cons (ps_if (pt_cmpR op_eq (pv 0) pe_str (nomark _)) (pss_one (ps_ret (pe_cd c_with_sign hr (by first | decide | omega) (by rfl) (pa_cons (pe_op op_and (pv 1) (pe_gv (by rfl) g_LOW_14)) (pa_cons (pe_op op_pow pe_int pe_int) pa_nil))))) pss_nil)
      (pss_cons (ps_if (pt_cmpR op_eq (pv 0) pe_str (nomark _)) (pss_one (ps_ret (pe_cd c_with_sign hr (by first | decide | omega) (by rfl) (pa_cons (pe_op op_and (pv 1) (pe_gv (by rfl) g_LOW_18)) (pa_cons (pe_op op_pow pe_int pe_int) pa_nil))))) pss_nil)
      (pss_one (ps_ret (pe_op op_and (pv 1) (pe_gv (by rfl) g_LOW_18)))))), ?_⟩
  walk_at "ws"
  refine w_dec (fun e => ?_) (fun e => ?_)
  · have e' := (one_eq (k := 105) rfl rfl).mp e
    walk_at "ws"
    rw [e14]
    simpa only [imm, if_pos e'] using q
  · have e' := fun z => e ((one_eq (k := 105) rfl rfl).mpr z)
    walk_at "ws"
    refine w_dec (fun e2 => ?_) (fun e2 => ?_)
    · have e2' := (one_eq (k := 106) rfl rfl).mp e2
      walk_at "ws"
      rw [e18]
      simpa only [imm, if_neg e', if_pos e2'] using q
    · have e2' := fun z => e2 ((one_eq (k := 106) rfl rfl).mpr z)
      walk_at "ws"
      rw [e18]
      simpa only [imm, if_neg e', if_neg e2'] using q
end
end K00

namespace K00
def DecOf (x : Int) (v : V) (H' : Hp) : Prop := (∃ (n : Nat) (op fm : Str) (xs : List Int) (t : Addr), Ins n op fm xs ∧ encW n fm xs = x ∧ v = .ref t ∧ H' t = some (.tup (insV op xs))) ∨ ((∀ n op fm xs, Ins n op fm xs → encW n fm xs ≠ x) ∧ v = .non)
def spDec : Sp := fun vs H Q _ => ∃ (x : Int), vs = [.int x] ∧ 0 ≤ x ∧ x < 4294967296 ∧ ∀ v H', Same H H' → DecOf x v H' → Q v H'
section
variable {P : Program} {w : World} {K : PySem.W.Frag} {mg : Str → Option Value} {base : Heap}
theorem ok_decode {O F : Addr} (T : Env0 K w mg O F) (b_len : mg "len" = none) (c_encode : Cd P w K mg base 1 "encode" (spEnc K)) (c_immediate : Cd P w K mg base 2 "_immediate" spImm) (Z : St1 K mg "decode" s_decode ["word"]) : Cd P w K mg base 3 "decode" spDec := by
  obtain ⟨g_OPS, g_FORMS, g_LOW_14, g_LOW_18, ops, rows⟩ := T
  refine Z.cd sc_decode (fun vs H Q E h => by obtain ⟨x, rfl, _⟩ := h; rfl) (fun f cdv A outer s H vs Q E hr h => ?_)
  obtain ⟨x, rfl, x0, x1, q⟩ := h
  have e26 : x / 2 ^ (26 : Int).toNat = x / 67108864 := rfl
  have lo : ((opsT.map (·.1)).map V.str).length = 38 := rfl
  refine ⟨_, (pss_cons (ps_set (i := 1) sc_decode.nd rfl (.inl rfl) (pe_op op_shr (pv 0) pe_int))
      (pss_cons (ps_if (pt_not (pt_chain op_le op_le pe_int (pv 1) (pe_callB call_lenQ (by rfl) b_len PySem.boot_len (pa_cons (pe_gv (by rfl) g_OPS) pa_nil)))) (pss_one (ps_ret pe_non)) pss_nil)
      (pss_cons (ps_set (i := 2) sc_decode.nd rfl (.inl rfl) (pe_ix ix_tup (pe_gv (by rfl) g_OPS) (pe_op op_sub (pv 1) pe_int) (fun _ _ => rfl)))
      (pss_cons (ps_set (i := 3) sc_decode.nd rfl (.inl rfl) (pe_lst pa_nil))
      (pss_cons (ps_set (i := 4) sc_decode.nd rfl (.inl rfl) pe_int)
      (Evl.pss_cut (ps_for PassesOwn.never rfl (pi_str (pe_ix ix_kdict (pe_gv (by rfl) g_FORMS) (pv 2) (fun _ _ => rfl))) (pg_name (i := 5) sc_decode.nd rfl (.inl rfl))
      (pss_one (ps_if (pt_cmpR op_inSQ (pv 5) pe_str rfl) (pss_cons (ps_expr (pe_bm PySem.F.plainAttrs_list PySem.F.slot_list_append PySem.F.type_list_append mt_append (pv 3) (pa_cons (pe_op op_and (pe_op op_shr (pv 0) (pv 4)) pe_int) pa_nil)))
      (pss_one (ps_aug (i := 4) sc_decode.nd rfl (.inl rfl) pe_int ip_sub))) (pss_one (ps_expr (pe_bm PySem.F.plainAttrs_list PySem.F.slot_list_append PySem.F.type_list_append mt_append (pv 3) (pa_cons (pe_cd c_immediate hr (by first | decide | omega) (by rfl) (pa_cons (pv 5) (pa_cons (pv 0) pa_nil))) pa_nil)))))))
      (pss_cons (ps_set (i := 6) sc_decode.nd rfl (.inl rfl) (pe_tup (pa_cons (pv 2) (StX.pa_star (pv 3) pa_nil))))
      (pss_one (ps_ret (pe_ifExp (pt_cmpR op_eq (pe_cd c_encode hr (by first | decide | omega) (by rfl) (pa_cons (pv 6) pa_nil)) (pv 0) (nomark _)) (pv 6) pe_non)))))))))), ?_⟩
  walk_at "ws"
  rw [e26]
  have none_of : (x / 67108864 < 1 ∨ 38 < x / 67108864) → ∀ n op fm xs, Ins n op fm xs → encW n fm xs ≠ x := fun hx n op fm xs hi e => by
    have z := hi.fits.enc (n := n)
    rw [e] at z
    have := hi.n38
    omega
  refine w_dec (fun e1 => ?_) (fun e1 => ?_)
  · walk_at "ws"
    refine w_lenTs (ops.sq H) ?_
    walk_at "ws"
    rw [lo]
    refine w_ndec (fun e2 => ?_) (fun e2 => ?_)
    · walk_at "ws"
      exact q _ _ (Same.refl H) (.inr ⟨none_of (by omega), rfl⟩)
    · walk_at "ws"
      have hn : (x / 67108864 - 1).toNat < opsT.length := by show _ < 38; omega
      obtain ⟨op, fm, hop⟩ : ∃ op fm, opsT[(x / 67108864 - 1).toNat]? = some (op, fm) := ⟨_, _, List.getElem?_eq_getElem hn⟩
      have hfm := ops_forms _ (List.mem_of_getElem? hop)
      have hr0 := rows (op, fm) (List.mem_of_getElem? hop)
      have hft := fits_of hfm x
      obtain ⟨fl, f3, fb⟩ := hft.len
      have hsz : fm.cps.size ≤ 3 := by rw [fl]; exact f3
      refine w_ixTs (v := .str op) (ops.sq H) (atI_of (by omega) (by rw [List.getElem?_map, List.getElem?_map, hop]; rfl)) ?_
      walk_at "ws"
      refine w_kLst (Nat.zero_le _) fun p H1 np sm hp => ?_
      walk_at "ws"
      refine Evl.q_cut (M := fun σ' H' => Same H H' ∧ H' p = some (.lst ((fieldsOf fm x).map V.int)) ∧ ∃ v4 v5 v6 : Option V, σ' = [some (.int x), some (.int (x / 67108864)), some (.str op), some (.ref p), v4, v5, v6]) ?_ ?_
      · walk_at "ws"
        refine w_ixD hr0 ?_
        refine w_forS (fun i σ' H' => Same H H' ∧ H' p = some (.lst ((goD x (fm.cps.toList.take i)).1.map V.int)) ∧ ∃ v5 v6 : Option V, σ' = [some (.int x), some (.int (x / 67108864)), some (.str op), some (.ref p), some (.int (goD x (fm.cps.toList.take i)).2), v5, v6] ∧ 22 - 4 * (i : Int) ≤ (goD x (fm.cps.toList.take i)).2 ∧ (goD x (fm.cps.toList.take i)).1.length = i) ⟨sm, hp, none, none, rfl, by show (22 : Int) - 4 * 0 ≤ 22; decide, rfl⟩ ?_ ?_
        · rintro i c σ' H' hc ⟨sm', hp', v5, v6, rfl, lo', ll⟩
          have hil : i < fm.cps.size := (Array.getElem?_eq_some_iff.mp hc).1
          have hc' : fm.cps.toList[i]? = some c := by simpa using hc
          have st : goD x (fm.cps.toList.take (i + 1)) = stepD x (goD x (fm.cps.toList.take i)) c := by
            rw [take_more hc']; unfold goD; rw [List.foldl_append]; rfl
          generalize goD x (fm.cps.toList.take i) = s0 at *
          obtain ⟨ac, sh⟩ := s0
          simp only at lo' ll hp'
          have hi3 : i < 3 := by omega
          walk_at "ws"
          refine w_dec (fun e => ?_) (fun e => ?_)
          · have e' : c = 100 ∨ c = 115 := by simpa using (show c ∈ [100, 115] from e)
            have s1 : stepD x (ac, sh) c = (ac ++ [x / 2 ^ sh.toNat % 16], sh - 4) := if_pos e'
            rw [s1] at st
            walk_at "ws"
            have eb : Builtin.bitAnd (x / 2 ^ sh.toNat) 15 = x / 2 ^ sh.toNat % 16 := PySem.W.kbt_mask _ 4
            refine w_append hp' (by rw [List.length_map]; exact small1000 (by omega)) fun H2 hp2 b2 => ?_
            walk_at "ws"
            refine ⟨fun b o h => ?_, ?_, some (.str ⟨#[c]⟩), v6, ?_, ?_, ?_⟩
            · have hbp : b ≠ p := fun z => by rw [z, np] at h; cases h
              exact b2 b o hbp (sm' b o h)
            · rw [hp2, st, eb, List.map_append]; rfl
            · rw [st]; rfl
            · rw [st]; show 22 - 4 * ((i + 1 : Nat) : Int) ≤ sh - 4; omega
            · rw [st]; show (ac ++ [_]).length = i + 1; rw [List.length_append]; simp [ll]
          · have e' : ¬ (c = 100 ∨ c = 115) := fun z => e (show c ∈ [100, 115] by simpa using z)
            have s1 : stepD x (ac, sh) c = (ac ++ [imm c x], sh) := if_neg e'
            rw [s1] at st
            walk_at "ws"
            refine ⟨c, x, rfl, ?_⟩
            walk_at "ws"
            refine w_append hp' (by rw [List.length_map]; exact small1000 (by omega)) fun H2 hp2 b2 => ?_
            walk_at "ws"
            refine ⟨fun b o h => ?_, ?_, some (.str ⟨#[c]⟩), v6, ?_, ?_, ?_⟩
            · have hbp : b ≠ p := fun z => by rw [z, np] at h; cases h
              exact b2 b o hbp (sm' b o h)
            · rw [hp2, st, List.map_append]; rfl
            · rw [st]; rfl
            · rw [st]; show 22 - 4 * ((i + 1 : Nat) : Int) ≤ sh; omega
            · rw [st]; show (ac ++ [_]).length = i + 1; rw [List.length_append]; simp [ll]
        · rintro σ' H' ⟨sm', hp', v5, v6, rfl, _⟩
          have e : fm.cps.toList.take fm.cps.size = fm.cps.toList := List.take_of_length_le (by simp)
          rw [e] at hp'
          refine ⟨sm', hp', _, _, _, rfl⟩
      · rintro σ' H' ⟨sm', hp', v4, v5, v6, rfl⟩
        walk_at "ws"
        refine w_stR hp' ?_
        walk_at "ws"
        have hl : (fieldsOf fm x).length ≤ 3 := f3
        refine w_kTup (by simp only [List.length_append, List.length_map, List.length_cons, List.length_nil]; exact Nat.le_of_lt (small1000 (by omega))) fun t H2 nt st ht => ?_
        replace ht : H2 t = some (.tup (insV op (fieldsOf fm x))) := by simpa [insV] using ht
        walk_at "ws"
        have hins : Ins (x / 67108864 - 1).toNat op fm (fieldsOf fm x) := ⟨hop, hft⟩
        refine ⟨t, _, op, fm, fieldsOf fm x, rfl, .of ht, hins, fun H3 s3 => ?_⟩
        walk_at "ws"
        refine w_dec (fun e => ?_) (fun e => ?_)
        · walk_at "ws"
          exact q _ _ (sm'.trans (st.trans s3)) (.inl ⟨_, op, fm, _, t, hins, e, rfl, s3 _ _ ht⟩)
        · walk_at "ws"
          refine q _ _ (sm'.trans (st.trans s3)) (.inr ⟨fun n op' fm' xs hi he => e ?_, rfl⟩)
          have z := hi.fits.enc (n := n)
          rw [he] at z
          have en : (x / 67108864 - 1).toNat = n := by omega
          have q2 := Option.some.inj (hi.at_.symm.trans (en ▸ hop))
          cases q2
          rw [en, z.1]
          exact he
  · walk_at "ws"
    exact q _ _ (Same.refl H) (.inr ⟨none_of (by omega), rfl⟩)
end
end K00

namespace K00
def usedOf (fm : Str) (xs : List Int) : List Int := ((fm.cps.toList.zip xs).filter fun p => decide (p.1 = 115)).map (·.2)
def spReads (K : PySem.W.Frag) : Sp := fun vs H Q _ => ∃ (t : Addr) (n : Nat) (op fm : Str) (xs : List Int), vs = [.ref t] ∧ SqT K H t (insV op xs) ∧ Ins n op fm xs ∧
  ∀ (ms : List Int) (p : Addr) H', Same H H' → ms.Pairwise (· < ·) → (∀ k, k ∈ ms ↔ k ∈ usedOf fm xs ∧ k ≠ 0) → H' p = some (.tup (ms.map V.int)) → Q (.ref p) H'
def spWrites (K : PySem.W.Frag) : Sp := fun vs H Q _ => ∃ (t : Addr) (n : Nat) (op fm : Str) (x : Int) (xs : List Int), vs = [.ref t] ∧ SqT K H t (insV op (x :: xs)) ∧ Ins n op fm (x :: xs) ∧
  Q (.int (if fm.cps[0]? = some 100 ∧ x ≠ 0 then x else -1)) H
section
variable {P : Program} {w : World} {K : PySem.W.Frag} {mg : Str → Option Value} {base : Heap}
theorem ok_reads {O F : Addr} (T : Env0 K w mg O F) (b_zip : mg "zip" = none) (b_tuple : mg "tuple" = none) (b_sorted : mg "sorted" = none) (Z : St1 K mg "reads" s_reads ["instruction"]) : Cd P w K mg base 1 "reads" (spReads K) := by
  obtain ⟨g_OPS, g_FORMS, g_LOW_14, g_LOW_18, ops, rows⟩ := T
  refine Z.cd sc_reads (fun vs H Q E h => by obtain ⟨t, n, op, fm, xs, rfl, _⟩ := h; rfl) (fun f cdv A outer s H vs Q E hr h => ?_)
  obtain ⟨t, n, op, fm, xs, rfl, ht, hi, q⟩ := h
  have hr0 := rows (op, fm) (List.mem_of_getElem? hi.at_)
  obtain ⟨fl, f3, fb⟩ := hi.fits.len
  refine ⟨_, (pss_cons (ps_set (i := 1) sc_reads.nd rfl (.inl rfl) (pe_ix ix_kdict (pe_gv (by rfl) g_FORMS) (pe_ix ix_tup (pv 0) pe_int (fun _ _ => rfl)) (fun _ _ => rfl)))
      (pss_cons (ps_setLc (i := 2) (own := [("kind", 3), ("operand", 4)]) rfl sc_reads.nd rfl rfl (sw_true rfl rfl rfl (by decide +kernel)) (pi_zipST (by rfl) b_zip (pa_cons (pv 1) (pa_cons (pe_slice sl_tupA (pv 0) (po_some pe_int) po_none) pa_nil))) (blkOk_by (own := [("kind", 3), ("operand", 4)]) (N := ["instruction", "kinds", "used", "kind", "operand", "number"]) (sc := (defScope s_reads)) (by decide +kernel)) (fun _ _ _ _ _ => (pg_tupK (K' := K) (n := 2) (by rfl) (by rfl) (pgs_cons (pg_name (i := 3) sc_reads.nd (by rfl) (Or.inl (by rfl)) (by first | exact Or.inl rfl | exact Or.inr rfl)) (pgs_cons (pg_name (i := 4) sc_reads.nd (by rfl) (Or.inl (by rfl)) (by first | exact Or.inl rfl | exact Or.inr rfl)) pgs_nil)))) (fun _ _ _ _ _ => (pts_one (pt_cmpR op_eq (pv 3) pe_str (nomark _)))) (fun _ _ _ _ _ => (pv 4)))
      (pss_one (ps_ret (pe_callTy call_tupQ (by rfl) b_tuple (by decide +kernel) (pa_cons (pe_callB (cr_sortedSet rfl) (by rfl) b_sorted (by decide +kernel) (pa_cons (pe_sci1 (own := [("number", 5)]) rfl sc_reads.nd (pi_list (pv 2)) (blkOk_by (own := [("number", 5)]) (N := ["instruction", "kinds", "used", "kind", "operand", "number"]) (sc := (defScope s_reads)) (by decide +kernel)) (fun _ _ _ _ _ => (pg_name (i := 5) sc_reads.nd rfl (.inl rfl))) (fun _ _ _ _ _ => (pts_one (pt_cmpR op_ne (pv 5) pe_int (nomark _)))) (fun _ _ _ _ _ => (pv 5))) pa_nil)) pa_nil)))))), ?_⟩
  walk_at "ws"
  refine w_ixTs ht (atI_of (v := .str op) (by decide) rfl) ?_
  refine w_ixD hr0 ?_
  walk_at "ws"
  obtain ⟨x0, xr, rfl⟩ : ∃ x0 xr, xs = x0 :: xr := by cases hi.fits <;> exact ⟨_, _, rfl⟩
  refine w_rSl1 ht fun p H1 np sm hp => ?_
  walk_at "ws"
  have zl : (fm.cps.toList.zip (x0 :: xr)).length = (x0 :: xr).length := by rw [List.length_zip]; simp only [Array.length_toList, fl, Nat.min_self]
  let us : Nat → List Int := fun i => (((fm.cps.toList.zip (x0 :: xr)).take i).filter fun p => decide (p.1 = 115)).map (·.2)
  refine w_lcZ ((x0 :: xr).map V.int) (fun D i H' => H1 D = none ∧ Same H1 H' ∧ H' D = some (.lst ((us i).map V.int)) ∧ (us i).length ≤ i) (.of hp) (by rw [List.length_map]; exact fl) (fun D nD => ⟨nD, Same.new nD, upd_same, Nat.le_refl _⟩) (fun D i H' ⟨_, sm', _⟩ => .of (sm' _ _ hp)) ?_ ?_
  · rintro D i c y T H' H'' hc hy ⟨nD, sm', hD, hul⟩ nT sT hT
    obtain ⟨x, hx, rfl⟩ := map_get hy
    have hil : i < (x0 :: xr).length := (List.getElem?_eq_some_iff.mp hx).1
    have hz : (fm.cps.toList.zip (x0 :: xr))[i]? = some (c, x) := by
      rw [List.getElem?_zip_eq_some]
      exact ⟨by simpa using hc, hx⟩
    have tk := take_more hz
    walk_at "ws"
    refine ⟨rfl, ?_⟩
    walk_at "ws"
    refine w_dec (fun e => ?_) (fun e => ?_)
    · have e' := (one_eq (k := 115) rfl rfl).mp e
      have eu : us (i + 1) = us i ++ [x] := by
        show List.map _ (List.filter _ _) = _
        rw [tk, List.filter_append, List.map_append]
        simp [e', us]
      walk_at "ws"
      refine ⟨_, sT _ _ hD, by rw [List.length_map]; exact small1000 (by omega), nD, fun b o h => ?_, ?_, ?_⟩
      · rw [upd_ne (ne_of_none h nD)]; exact sT _ _ (sm' b o h)
      · rw [upd_same, eu, List.map_append]; rfl
      · rw [eu, List.length_append]; simp; omega
    · have e' : ¬ c = 115 := fun z => e ((one_eq (k := 115) rfl rfl).mpr z)
      have eu : us (i + 1) = us i := by
        show List.map _ (List.filter _ _) = _
        rw [tk, List.filter_append, List.map_append]
        simp [e', us]
      walk_at "ws"
      exact ⟨nD, sm'.trans sT, by rw [eu]; exact sT _ _ hD, by rw [eu]; omega⟩
  · rintro D H' nD ⟨_, sm', hD, hul⟩
    have eu : us ((x0 :: xr).map V.int).length = usedOf fm (x0 :: xr) := by
      show List.map _ (List.filter _ _) = _
      rw [List.length_map, ← zl, List.take_length]; rfl
    rw [eu] at hD
    have hu3 : (usedOf fm (x0 :: xr)).length ≤ 3 := by rw [← eu]; exact Nat.le_trans hul (by rw [List.length_map]; exact f3)
    generalize usedOf fm (x0 :: xr) = used at *
    walk_at "ws"
    refine w_scL (used.map V.int) (fun E i H2 => H' E = none ∧ Same H' H2 ∧ ∃ S n, H2 E = some (SetO w E S n) ∧ n ≤ i ∧ ∀ k, S k = true ↔ k ∈ used.take i ∧ k ≠ 0) (.of hD) (fun E nE => ⟨nE, Same.new nE, _, _, upd_same, Nat.le_refl _, fun k => by simp⟩) (fun E i H2 ⟨_, s2, _⟩ => .of (s2 _ _ hD)) ?_ ?_
    · rintro E i x H2 hx ⟨nE, s2, S, n, hE, hn, hS⟩
      obtain ⟨u, hu, rfl⟩ := map_get hx
      have hiu : i < used.length := (List.getElem?_eq_some_iff.mp hu).1
      walk_at "ws"
      refine ⟨rfl, ?_⟩
      walk_at "ws"
      refine w_ndec (fun e => ?_) (fun e => ?_)
      · walk_at "ws"
        refine ⟨u, S, n, rfl, hE, Nat.lt_of_le_of_lt (show n + 1 ≤ 64 by omega) (by decide), nE, fun b o h => ?_, _, _, upd_same, ?_, fun k => ?_⟩
        · rw [upd_ne (ne_of_none h nE)]; exact s2 b o h
        · split <;> omega
        · rw [take_more hu, List.mem_append, Bool.or_eq_true, hS k]
          simp only [decide_eq_true_eq, List.mem_singleton]
          constructor
          · rintro (⟨a, b⟩ | rfl)
            · exact ⟨.inl a, b⟩
            · exact ⟨.inr rfl, e⟩
          · rintro ⟨a | a, b⟩
            · exact .inl ⟨a, b⟩
            · exact .inr a
      · walk_at "ws"
        refine ⟨nE, s2, S, n, hE, by omega, fun k => ?_⟩
        rw [take_more hu, List.mem_append, hS k]
        simp only [List.mem_singleton]
        constructor
        · rintro ⟨a, b⟩; exact ⟨.inl a, b⟩
        · rintro ⟨a | a, b⟩
          · exact ⟨a, b⟩
          · exact absurd (a.trans e) b
    · rintro E H2 nE ⟨_, s2, S, n, hE, hn, hS⟩
      rw [List.length_map] at hn hS
      rw [List.take_length] at hS
      walk_at "ws"
      refine w_sortedSet hE (by omega) fun ns p2 H3 asc mem ln np2 s3 hp2 => ?_
      walk_at "ws"
      refine w_tupL (.of hp2) fun p3 H4 np3 s4 hp3 => ?_
      exact q ns p3 H4 (sm.trans (sm'.trans (s2.trans (s3.trans s4)))) asc (fun k => by rw [mem k, hS k]) hp3
theorem ok_writes {O F : Addr} (T : Env0 K w mg O F) (Z : St1 K mg "writes" s_writes ["instruction"]) : Cd P w K mg base 1 "writes" (spWrites K) := by
  obtain ⟨g_OPS, g_FORMS, g_LOW_14, g_LOW_18, ops, rows⟩ := T
  refine Z.cd sc_writes (fun vs H Q E h => by obtain ⟨t, n, op, fm, x, xs, rfl, _⟩ := h; rfl) (fun f cdv A outer s H vs Q E hr h => ?_)
  obtain ⟨t, n, op, fm, x, xs, rfl, ht, hi, q⟩ := h
  have hr0 := rows (op, fm) (List.mem_of_getElem? hi.at_)
  refine ⟨_, (pss_cons (ps_if (PW.pt (pw_or (pt_not (pt_val (pe_m1 PySem.F.slot_str_startswith PySem.F.type_str_startswith mt_startsQ (pe_ix ix_kdict (pe_gv (by rfl) g_FORMS) (pe_ix ix_tup (pv 0) pe_int (fun _ _ => rfl)) (fun _ _ => rfl)) pe_str))) (pw_or1 (pt_cmpR op_eq (pe_ix ix_tup (pv 0) pe_int (fun _ _ => rfl)) pe_int (nomark _))))) (pss_one (ps_ret (pe_un un_neg pe_int))) pss_nil)
      (pss_one (ps_ret (pe_ix ix_tup (pv 0) pe_int (fun _ _ => rfl))))), ?_⟩
  walk_at "ws"
  refine w_ixTs ht (atI_of (v := .str op) (by decide) rfl) ?_
  refine w_ixD hr0 ?_
  walk_at "ws"
  have hs : Txt.startswith fm "d" = decide (fm.cps[0]? = some 100) := by
    have := ops_forms _ (List.mem_of_getElem? hi.at_)
    simp only [forms, List.mem_cons, List.not_mem_nil, or_false] at this
    rcases this with h | h | h | h | h | h | h <;> (subst h; decide +kernel)
  rw [hs]
  refine w_ndec (fun e => ?_) (fun e => ?_)
  · walk_at "ws"
    rw [if_neg (fun z => e z.1)] at q
    exact q
  · walk_at "ws"
    refine w_ixTs ht (atI_of (v := .int x) (by decide) rfl) ?_
    walk_at "ws"
    refine w_dec (fun e2 => ?_) (fun e2 => ?_)
    · walk_at "ws"
      rw [if_neg (fun z => z.2 e2)] at q
      exact q
    · walk_at "ws"
      refine w_ixTs ht (atI_of (v := .int x) (by decide) rfl) ?_
      rw [if_pos ⟨e, e2⟩] at q
      exact q
end
end K00

namespace K00
theorem sc_law_ops : FnScope [] [] (defScope s_law_ops) := ⟨rfl, rfl, rfl, by decide +kernel, rfl, by decide +kernel, by decide +kernel⟩
theorem sc_law_word : FnScope ["row", "word"] ["row"] (defScope s_law_word) := ⟨rfl, rfl, rfl, by decide +kernel, rfl, by decide +kernel, by decide +kernel⟩
theorem sc_law_row : FnScope ["draw", "at", "op", "a", "b", "imm"] ["draw"] (defScope s_law_row) := ⟨rfl, rfl, rfl, by decide +kernel, rfl, by decide +kernel, by decide +kernel⟩
theorem sc_law_signed : FnScope ["value", "bits", "top"] ["value", "bits"] (defScope s_law_signed) := ⟨rfl, rfl, rfl, by decide +kernel, rfl, by decide +kernel, by decide +kernel⟩
theorem sc_law_read : FnScope ["word", "number", "op", "a", "b", "row"] ["word"] (defScope s_law_read) := ⟨rfl, rfl, rfl, by decide +kernel, rfl, by decide +kernel, by decide +kernel⟩
theorem sc_law_uses : FnScope ["row", "op", "at"] ["row"] (defScope s_law_uses) := ⟨rfl, rfl, rfl, by decide +kernel, rfl, by decide +kernel, by decide +kernel⟩
abbrev opNames : List Str := opsT.map (·.1)
def spOps : Sp := fun vs H Q _ => vs = [] ∧ ∀ p H', H p = none → Same H H' → H' p = some (.lst (opNames.map V.str)) → Q (.ref p) H'
def spWord (K : PySem.W.Frag) : Sp := spEnc K
def spLSg : Sp := fun vs H Q _ => ∃ (b k : Int), vs = [.int b, .int k] ∧ ((k = 14 ∧ Q (.int (sg b 8192)) H) ∨ (k = 18 ∧ Q (.int (sg b 131072)) H))
theorem op_facts : ∀ n, n < 38 → ∀ p : Str × Str, opsT[n]? = some p → ((p.2 = ("dss" : Str)) ↔ n < 13) ∧ (inV (.str p.1) [.str "get", .str "put", .str "exit"] = decide (p.2 = "d" ∨ p.2 = "s")) ∧ ((p.1 = "lui") ↔ p.2 = "du") ∧ ((p.1 = "jal") ↔ p.2 = "dj") := by
  have h : ∀ n, n < 38 → (match opsT[n]? with | some p => decide (((p.2 = "dss") ↔ n < 13) ∧ (inV (.str p.1) [.str "get", .str "put", .str "exit"] = decide (p.2 = "d" ∨ p.2 = "s")) ∧ ((p.1 = "lui") ↔ p.2 = "du") ∧ ((p.1 = "jal") ↔ p.2 = "dj")) | none => true) = true := by decide +kernel
  intro n hn p e
  have := h n hn
  rw [e] at this
  exact of_decide_eq_true this
section
variable {P : Program} {w : World} {K : PySem.W.Frag} {mg : Str → Option Value} {base : Heap}
theorem ok_law_ops (Z : St1 K mg "_law_ops" s_law_ops []) : Cd P w K mg base 1 "_law_ops" spOps := by
  refine Z.cd sc_law_ops (fun vs H Q E h => by obtain ⟨rfl, _⟩ := h; rfl) (fun f cdv A outer s H vs Q E hr h => ?_)
  obtain ⟨rfl, q⟩ := h
  refine ⟨_, (pss_one (ps_ret (pe_lst (pa_cons pe_str (pa_cons pe_str (pa_cons pe_str (pa_cons pe_str (pa_cons pe_str (pa_cons pe_str (pa_cons pe_str (pa_cons pe_str (pa_cons pe_str (pa_cons pe_str (pa_cons pe_str (pa_cons pe_str (pa_cons pe_str (pa_cons pe_str (pa_cons pe_str (pa_cons pe_str (pa_cons pe_str (pa_cons pe_str (pa_cons pe_str (pa_cons pe_str (pa_cons pe_str (pa_cons pe_str (pa_cons pe_str (pa_cons pe_str (pa_cons pe_str (pa_cons pe_str (pa_cons pe_str (pa_cons pe_str (pa_cons pe_str (pa_cons pe_str (pa_cons pe_str (pa_cons pe_str (pa_cons pe_str (pa_cons pe_str (pa_cons pe_str (pa_cons pe_str (pa_cons pe_str (pa_cons pe_str pa_nil))))))))))))))))))))))))))))))))))))))))), ?_⟩
  walk_at "ws"
  refine w_kLst (by show 38 ≤ sizeLine; decide) fun p H' np sm hp => ?_
  exact q p H' np sm hp
theorem ok_law_signed (Z : St1 K mg "_law_signed" s_law_signed ["value", "bits"]) : Cd P w K mg base 1 "_law_signed" spLSg := by
  refine Z.cd sc_law_signed (fun vs H Q E h => by obtain ⟨b, k, rfl, _⟩ := h; rfl) (fun f cdv A outer s H vs Q E hr h => ?_)
  obtain ⟨b, k, rfl, h⟩ := h
  refine ⟨_, (pss_cons (ps_set (i := 2) sc_law_signed.nd rfl (.inl rfl) (pe_ifExp (pt_cmpR op_eq (pv 1) pe_int (nomark _)) pe_int pe_int))
      (pss_one (ps_ret (pe_ifExp (pt_cmpR op_ge (pe_op op_mul pe_int (pv 0)) (pv 2) (nomark _)) (pe_op op_sub (pv 0) (pv 2)) (pv 0))))), ?_⟩
  rcases h with ⟨rfl, q⟩ | ⟨rfl, q⟩
  · walk_at "wd"
    refine w_dec (fun e => ?_) (fun e => ?_)
    · walk_at "ws"
      unfold sg at q; rw [if_pos (by omega)] at q; exact q
    · walk_at "ws"
      unfold sg at q; rw [if_neg (by omega)] at q; exact q
  · walk_at "wd"
    refine w_dec (fun e => ?_) (fun e => ?_)
    · walk_at "ws"
      unfold sg at q; rw [if_pos (by omega)] at q; exact q
    · walk_at "ws"
      unfold sg at q; rw [if_neg (by omega)] at q; exact q
theorem ok_law_word (b_len : mg "len" = none) (b_int : mg "int" = none) (c_law_ops : Cd P w K mg base 1 "_law_ops" spOps) (Z : St1 K mg "_law_word" s_law_word ["row"]) : Cd P w K mg base 2 "_law_word" (spWord K) := by
  refine Z.cd sc_law_word (fun vs H Q E h => by obtain ⟨t, n, op, fm, xs, rfl, _⟩ := h; rfl) (fun f cdv A outer s H vs Q E hr h => ?_)
  obtain ⟨t, n, op, fm, xs, rfl, ht, hi, q⟩ := h
  have hn := hi.n38
  obtain ⟨at1, at2⟩ := first_at hi.at_
  have of := (op_facts n hn _ hi.at_).1
  refine ⟨_, (pss_cons (ps_set (i := 1) sc_law_word.nd rfl (.inl rfl) (pe_op op_add (pe_op op_mul (pe_op op_add (pe_bm PySem.F.plainAttrs_list PySem.F.slot_list_index PySem.F.type_list_index mt_index (pe_cd0 c_law_ops hr (by first | decide | omega) (by rfl)) (pa_cons (pe_ix ix_tup (pv 0) pe_int (fun _ _ => rfl)) pa_nil)) pe_int) (pe_op op_pow pe_int pe_int)) (pe_op op_mul (pe_ix ix_tup (pv 0) pe_int (fun _ _ => rfl)) (pe_op op_pow pe_int pe_int))))
      (pss_cons (ps_if (pt_cmpR op_eq (pe_callB call_lenQ (by rfl) b_len PySem.boot_len (pa_cons (pv 0) pa_nil)) pe_int (nomark _)) (pss_one (ps_ret (pv 1))) pss_nil)
      (pss_cons (ps_if (pt_cmpR op_eq (pe_callB call_lenQ (by rfl) b_len PySem.boot_len (pa_cons (pv 0) pa_nil)) pe_int (nomark _)) (pss_one (ps_ret (pe_op op_add (pv 1) (pe_op op_mod (pe_callTy call_intQ (by rfl) b_int (by decide +kernel) (pa_cons (pe_ix ix_tup (pv 0) pe_int (fun _ _ => rfl)) pa_nil)) (pe_op op_pow pe_int pe_int))))) pss_nil)
      (pss_cons (ps_if (pt_cmpR op_lt (pe_bm PySem.F.plainAttrs_list PySem.F.slot_list_index PySem.F.type_list_index mt_index (pe_cd0 c_law_ops hr (by first | decide | omega) (by rfl)) (pa_cons (pe_ix ix_tup (pv 0) pe_int (fun _ _ => rfl)) pa_nil)) pe_int (nomark _)) (pss_one (ps_ret (pe_op op_add (pe_op op_add (pv 1) (pe_op op_mul (pe_ix ix_tup (pv 0) pe_int (fun _ _ => rfl)) (pe_op op_pow pe_int pe_int))) (pe_op op_mul (pe_ix ix_tup (pv 0) pe_int (fun _ _ => rfl)) (pe_op op_pow pe_int pe_int))))) pss_nil)
      (pss_one (ps_ret (pe_op op_add (pe_op op_add (pv 1) (pe_op op_mul (pe_ix ix_tup (pv 0) pe_int (fun _ _ => rfl)) (pe_op op_pow pe_int pe_int))) (pe_op op_mod (pe_callTy call_intQ (by rfl) b_int (by decide +kernel) (pa_cons (pe_ix ix_tup (pv 0) pe_int (fun _ _ => rfl)) pa_nil)) (pe_op op_pow pe_int pe_int))))))))), ?_⟩
  walk_at "ws"
  refine ⟨rfl, fun p H1 np sm hp => ?_⟩
  walk_at "ws"
  refine w_ixTs (sm.sqT ht) (atI_of (v := .str op) (by decide) rfl) ?_
  walk_at "ws"
  refine w_lix hp at1 at2 ?_
  walk_at "ws"
  have key : ∀ (a : Int) (r : List Int), xs = a :: r → R16 a := by
    intro a r e
    cases hi.fits <;> (cases e; assumption)
  have hf := hi.fits
  cases hf with
  | dss ha hb hc =>
    rename_i a b c
    have hn13 := of.mp rfl
    unfold R16 at ha hb hc
    refine w_ixTs (sm.sqT ht) (atI_of (v := .int a) (by decide) rfl) ?_
    walk_at "ws"
    refine w_lenTn 4 (sm.sqT ht) rfl ?_
    walk_at "wd"
    refine w_lenTn 4 (sm.sqT ht) rfl ?_
    walk_at "wd"
    refine ⟨rfl, fun p2 H2 np2 sm2 hp2 => ?_⟩
    have ht2 := (sm.trans sm2).sqT ht
    walk_at "ws"
    refine w_ixTs ht2 (atI_of (v := .str op) (by decide) rfl) ?_
    walk_at "ws"
    refine w_lix hp2 at1 at2 ?_
    walk_at "ws"
    refine w_decT (by omega) ?_
    walk_at "ws"
    refine w_ixTs ht2 (atI_of (v := .int b) (by decide) rfl) ?_
    walk_at "ws"
    refine w_ixTs ht2 (atI_of (v := .int c) (by decide) rfl) ?_
    walk_at "ws"
    have e := q H2 (sm.trans sm2)
    rw [enc_dss] at e
    exact e
  | dsi ha hb hc =>
    rename_i a b c
    have hn13 : ¬ n < 13 := fun z => absurd (of.mpr z) (by show ¬ (("dsi" : Str) = "dss"); decide)
    unfold R16 at ha hb
    refine w_ixTs (sm.sqT ht) (atI_of (v := .int a) (by decide) rfl) ?_
    walk_at "ws"
    refine w_lenTn 4 (sm.sqT ht) rfl ?_
    walk_at "wd"
    refine w_lenTn 4 (sm.sqT ht) rfl ?_
    walk_at "wd"
    refine ⟨rfl, fun p2 H2 np2 sm2 hp2 => ?_⟩
    have ht2 := (sm.trans sm2).sqT ht
    walk_at "ws"
    refine w_ixTs ht2 (atI_of (v := .str op) (by decide) rfl) ?_
    walk_at "ws"
    refine w_lix hp2 at1 at2 ?_
    walk_at "ws"
    refine w_decF (by omega) ?_
    walk_at "ws"
    refine w_ixTs ht2 (atI_of (v := .int b) (by decide) rfl) ?_
    walk_at "ws"
    refine w_ixTs ht2 (atI_of (v := .int c) (by decide) rfl) ?_
    walk_at "ws"
    have e := q H2 (sm.trans sm2)
    rw [enc_dsi] at e
    exact e
  | ssi ha hb hc =>
    rename_i a b c
    have hn13 : ¬ n < 13 := fun z => absurd (of.mpr z) (by show ¬ (("ssi" : Str) = "dss"); decide)
    unfold R16 at ha hb
    refine w_ixTs (sm.sqT ht) (atI_of (v := .int a) (by decide) rfl) ?_
    walk_at "ws"
    refine w_lenTn 4 (sm.sqT ht) rfl ?_
    walk_at "wd"
    refine w_lenTn 4 (sm.sqT ht) rfl ?_
    walk_at "wd"
    refine ⟨rfl, fun p2 H2 np2 sm2 hp2 => ?_⟩
    have ht2 := (sm.trans sm2).sqT ht
    walk_at "ws"
    refine w_ixTs ht2 (atI_of (v := .str op) (by decide) rfl) ?_
    walk_at "ws"
    refine w_lix hp2 at1 at2 ?_
    walk_at "ws"
    refine w_decF (by omega) ?_
    walk_at "ws"
    refine w_ixTs ht2 (atI_of (v := .int b) (by decide) rfl) ?_
    walk_at "ws"
    refine w_ixTs ht2 (atI_of (v := .int c) (by decide) rfl) ?_
    walk_at "ws"
    have e := q H2 (sm.trans sm2)
    rw [enc_ssi] at e
    exact e
  | du ha hc =>
    rename_i a c
    unfold R16 at ha
    refine w_ixTs (sm.sqT ht) (atI_of (v := .int a) (by decide) rfl) ?_
    walk_at "ws"
    refine w_lenTn 3 (sm.sqT ht) rfl ?_
    walk_at "wd"
    refine w_lenTn 3 (sm.sqT ht) rfl ?_
    walk_at "wd"
    refine w_ixTs (sm.sqT ht) (atI_of (v := .int c) (by decide) rfl) ?_
    walk_at "ws"
    have e := q H1 sm
    rw [enc_du] at e
    exact e
  | dj ha hc =>
    rename_i a c
    unfold R16 at ha
    refine w_ixTs (sm.sqT ht) (atI_of (v := .int a) (by decide) rfl) ?_
    walk_at "ws"
    refine w_lenTn 3 (sm.sqT ht) rfl ?_
    walk_at "wd"
    refine w_lenTn 3 (sm.sqT ht) rfl ?_
    walk_at "wd"
    refine w_ixTs (sm.sqT ht) (atI_of (v := .int c) (by decide) rfl) ?_
    walk_at "ws"
    have e := q H1 sm
    rw [enc_dj] at e
    exact e
  | d ha =>
    rename_i a
    unfold R16 at ha
    refine w_ixTs (sm.sqT ht) (atI_of (v := .int a) (by decide) rfl) ?_
    walk_at "ws"
    refine w_lenTn 2 (sm.sqT ht) rfl ?_
    walk_at "wd"
    have e := q H1 sm
    rw [enc_d] at e
    exact e
  | s ha =>
    rename_i a
    unfold R16 at ha
    refine w_ixTs (sm.sqT ht) (atI_of (v := .int a) (by decide) rfl) ?_
    walk_at "ws"
    refine w_lenTn 2 (sm.sqT ht) rfl ?_
    walk_at "wd"
    have e := q H1 sm
    rw [enc_s] at e
    exact e
end
end K00

namespace K00
def spRow : Sp := fun vs H Q _ => ∃ (d : Addr), vs = [.ref d] ∧ DrawAt H d ∧ ∀ (t : Addr) H' (n : Nat) (op fm : Str) (xs : List Int), Ins n op fm xs → H' t = some (.tup (insV op xs)) → DrawAt H' d → But d H H' → Q (.ref t) H'
theorem pick6 {k a b c d e f : Int} (h0 : 0 ≤ k) (h1 : k < 6) {B : Int → Prop} (ha : B a) (hb : B b) (hc : B c) (hd : B d) (he : B e) (hf : B f) : ∃ v, B v ∧ atI [V.int a, V.int b, V.int c, V.int d, V.int e, V.int f] k = some (.int v) := by
  have e' : k = 0 ∨ k = 1 ∨ k = 2 ∨ k = 3 ∨ k = 4 ∨ k = 5 := by omega
  rcases e' with rfl | rfl | rfl | rfl | rfl | rfl
  · exact ⟨a, ha, rfl⟩
  · exact ⟨b, hb, rfl⟩
  · exact ⟨c, hc, rfl⟩
  · exact ⟨d, hd, rfl⟩
  · exact ⟨e, he, rfl⟩
  · exact ⟨f, hf, rfl⟩
theorem pick5 {k a b c d e : Int} (h0 : 0 ≤ k) (h1 : k < 5) {B : Int → Prop} (ha : B a) (hb : B b) (hc : B c) (hd : B d) (he : B e) : ∃ v, B v ∧ atI [V.int a, V.int b, V.int c, V.int d, V.int e] k = some (.int v) := by
  have e' : k = 0 ∨ k = 1 ∨ k = 2 ∨ k = 3 ∨ k = 4 := by omega
  rcases e' with rfl | rfl | rfl | rfl | rfl
  · exact ⟨a, ha, rfl⟩
  · exact ⟨b, hb, rfl⟩
  · exact ⟨c, hc, rfl⟩
  · exact ⟨d, hd, rfl⟩
  · exact ⟨e, he, rfl⟩
theorem pick4 {k a b c d : Int} (h0 : 0 ≤ k) (h1 : k < 4) {B : Int → Prop} (ha : B a) (hb : B b) (hc : B c) (hd : B d) : ∃ v, B v ∧ atI [V.int a, V.int b, V.int c, V.int d] k = some (.int v) := by
  have e' : k = 0 ∨ k = 1 ∨ k = 2 ∨ k = 3 := by omega
  rcases e' with rfl | rfl | rfl | rfl
  · exact ⟨a, ha, rfl⟩
  · exact ⟨b, hb, rfl⟩
  · exact ⟨c, hc, rfl⟩
  · exact ⟨d, hd, rfl⟩
theorem DrawAt.ne {H : Hp} {d p : Addr} (h : DrawAt H d) (np : H p = none) : p ≠ d := by
  obtain ⟨c, cs, i, cur, seed, e, _⟩ := h
  exact (ne_of_none e np).symm
section
variable {P : Program} {w : World} {K : PySem.W.Frag} {mg : Str → Option Value} {base : Heap}
theorem ok_law_row (c_law_take : Cd P w K mg base 1 "_law_take" spTake) (c_law_ops : Cd P w K mg base 1 "_law_ops" spOps) (Z : St1 K mg "_law_row" s_law_row ["draw"]) : Cd P w K mg base 2 "_law_row" spRow := by
  refine Z.cd sc_law_row (fun vs H Q E h => by obtain ⟨d, rfl, _⟩ := h; rfl) (fun f cdv A outer s H vs Q E hr h => ?_)
  obtain ⟨d, rfl, hd, q⟩ := h
  refine ⟨_, (pss_cons (ps_set (i := 1) sc_law_row.nd rfl (.inl rfl) (pe_cd c_law_take hr (by first | decide | omega) (by rfl) (pa_cons (pv 0) (pa_cons pe_int pa_nil))))
      (pss_cons (ps_set (i := 2) sc_law_row.nd rfl (.inl rfl) (pe_ix ix_list (pe_cd0 c_law_ops hr (by first | decide | omega) (by rfl)) (pv 1) (fun _ _ => rfl)))
      (pss_cons (ps_set (i := 3) sc_law_row.nd rfl (.inl rfl) (pe_cd c_law_take hr (by first | decide | omega) (by rfl) (pa_cons (pv 0) (pa_cons pe_int pa_nil))))
      (pss_cons (ps_set (i := 4) sc_law_row.nd rfl (.inl rfl) (pe_cd c_law_take hr (by first | decide | omega) (by rfl) (pa_cons (pv 0) (pa_cons pe_int pa_nil))))
      (pss_cons (ps_set (i := 5) sc_law_row.nd rfl (.inl rfl) (pe_ix ix_list (pe_lst (pa_cons pe_int (pa_cons pe_int (pa_cons (pe_un un_neg pe_int) (pa_cons pe_int (pa_cons (pe_un un_neg pe_int) (pa_cons (pe_op op_sub (pe_cd c_law_take hr (by first | decide | omega) (by rfl) (pa_cons (pv 0) (pa_cons pe_int pa_nil))) pe_int) pa_nil))))))) (pe_cd c_law_take hr (by first | decide | omega) (by rfl) (pa_cons (pv 0) (pa_cons pe_int pa_nil))) (fun _ _ => rfl)))
      (pss_cons (ps_if (pt_cmpR op_lt (pv 1) pe_int (nomark _)) (pss_one (ps_ret (pe_tup (pa_cons (pv 2) (pa_cons (pv 3) (pa_cons (pv 4) (pa_cons (pe_cd c_law_take hr (by first | decide | omega) (by rfl) (pa_cons (pv 0) (pa_cons pe_int pa_nil))) pa_nil))))))) pss_nil)
      (pss_cons (ps_if (pt_cmpR op_in_seq (pv 2) (pe_lst (pa_cons pe_str (pa_cons pe_str (pa_cons pe_str pa_nil)))) rfl) (pss_one (ps_ret (pe_tup (pa_cons (pv 2) (pa_cons (pv 3) pa_nil))))) pss_nil)
      (pss_cons (ps_if (pt_cmpR op_eq (pv 2) pe_str (nomark _)) (pss_one (ps_ret (pe_tup (pa_cons (pv 2) (pa_cons (pv 3) (pa_cons (pe_ix ix_list (pe_lst (pa_cons pe_int (pa_cons pe_int (pa_cons (pe_op op_sub (pe_op op_pow pe_int pe_int) pe_int) (pa_cons (pe_cd c_law_take hr (by first | decide | omega) (by rfl) (pa_cons (pv 0) (pa_cons (pe_op op_pow pe_int pe_int) pa_nil))) pa_nil))))) (pe_cd c_law_take hr (by first | decide | omega) (by rfl) (pa_cons (pv 0) (pa_cons pe_int pa_nil))) (fun _ _ => rfl)) pa_nil)))))) pss_nil)
      (pss_cons (ps_if (pt_cmpR op_eq (pv 2) pe_str (nomark _)) (pss_one (ps_ret (pe_tup (pa_cons (pv 2) (pa_cons (pv 3) (pa_cons (pe_ix ix_list (pe_lst (pa_cons pe_int (pa_cons (pe_un un_neg pe_int) (pa_cons pe_int (pa_cons (pe_un un_neg pe_int) (pa_cons (pe_op op_sub (pe_cd c_law_take hr (by first | decide | omega) (by rfl) (pa_cons (pv 0) (pa_cons (pe_op op_pow pe_int pe_int) pa_nil))) (pe_op op_pow pe_int pe_int)) pa_nil)))))) (pe_cd c_law_take hr (by first | decide | omega) (by rfl) (pa_cons (pv 0) (pa_cons pe_int pa_nil))) (fun _ _ => rfl)) pa_nil)))))) pss_nil)
      (pss_one (ps_ret (pe_tup (pa_cons (pv 2) (pa_cons (pv 3) (pa_cons (pv 4) (pa_cons (pv 5) pa_nil)))))))))))))))), ?_⟩
  walk_at "ws"
  refine w_take hd (by decide) (by decide) fun n H1 n0 n1 hd1 b1 => ?_
  obtain ⟨n, rfl⟩ := Int.eq_ofNat_of_zero_le n0
  have hn : n < 38 := by omega
  obtain ⟨⟨op, fm⟩, hop⟩ : ∃ p, opsT[n]? = some p := ⟨_, List.getElem?_eq_getElem (show n < opsT.length from hn)⟩
  obtain ⟨of1, of2, of3, of4⟩ := op_facts n hn _ hop
  walk_at "ws"
  refine ⟨rfl, fun p H2 np s2 hp => ?_⟩
  walk_at "ws"
  refine w_ixL (v := .str op) hp (atI_nat (by rw [List.getElem?_map, List.getElem?_map, hop]; rfl)) ?_
  walk_at "ws"
  refine w_take (hd1.same s2) (by decide) (by decide) fun a H3 a0 a1 hd3 b3 => ?_
  walk_at "ws"
  refine w_take hd3 (by decide) (by decide) fun b H4 b0 b1' hd4 b4 => ?_
  walk_at "ws"
  refine w_take hd4 (by decide) (by decide) fun c H5 c0 c1 hd5 b5 => ?_
  walk_at "ws"
  refine w_kLst (by show 6 ≤ sizeLine; decide) fun l H6 nl s6 hl => ?_
  walk_at "ws"
  refine w_take (hd5.same s6) (by decide) (by decide) fun k H7 k0 k1 hd7 b7 => ?_
  have hl7 := b7 l _ (hd5.ne nl) hl
  obtain ⟨im, him, hat⟩ := pick6 k0 k1 (B := fun v => -8192 ≤ v ∧ v ≤ 8191) (a := 0) (b := 1) (c := -1) (d := 8191) (e := -8192) (f := c - 8192) (by decide) (by decide) (by decide) (by decide) (by decide) (by omega)
  refine w_ixL hl7 hat ?_
  walk_at "ws"
  have bt : But d H H7 := b1.trans ((But.of s2).trans (b3.trans (b4.trans (b5.trans ((But.of s6).trans b7)))))
  have fin : ∀ (t : Addr) (H' : Hp) (xs : List Int), Fits fm xs → H' t = some (.tup (insV op xs)) → DrawAt H' d → But d H7 H' → Q (.ref t) H' := fun t H' xs hf ht hd' b' => q t H' n op fm xs ⟨hop, hf⟩ ht hd' (bt.trans b')
  refine w_dec (fun e => ?_) (fun e => ?_)
  · have ef : fm = "dss" := of1.mpr (by omega)
    walk_at "ws"
    refine w_take hd7 (by decide) (by decide) fun c' H8 c0' c1' hd8 b8 => ?_
    walk_at "ws"
    refine w_kTup (by show 4 ≤ sizeLine; decide) fun t H9 nt s9 ht => ?_
    exact fin t H9 [a, b, c'] (by rw [ef]; exact .dss ⟨a0, a1⟩ ⟨b0, b1'⟩ ⟨c0', c1'⟩) ht (hd8.same s9) (b8.trans (.of s9))
  · have nf : fm ≠ "dss" := fun z => by have := of1.mp z; omega
    walk_at "ws"
    refine w_kLst (by show 3 ≤ sizeLine; decide) fun l2 H8 nl2 s8 hl2 => ?_
    refine w_inL hl2 rfl rfl of2 ?_
    walk_at "ws"
    have hd8 := hd7.same s8
    refine w_dec (fun e2 => ?_) (fun e2 => ?_)
    · walk_at "ws"
      refine w_kTup (by show 2 ≤ sizeLine; decide) fun t H9 nt s9 ht => ?_
      exact fin t H9 [a] (by rcases e2 with e2 | e2 <;> (rw [show fm = _ from e2]; constructor; exact ⟨a0, a1⟩)) ht (hd8.same s9) (.of (s8.trans s9))
    · walk_at "ws"
      refine w_dec (fun e3 => ?_) (fun e3 => ?_)
      · have ef : fm = "du" := of3.mp e3
        walk_at "ws"
        refine w_take hd8 (by decide) (by decide) fun u H9 u0 u1 hd9 b9 => ?_
        walk_at "ws"
        refine w_kLst (by show 4 ≤ sizeLine; decide) fun l3 H10 nl3 s10 hl3 => ?_
        walk_at "ws"
        refine w_take (hd9.same s10) (by decide) (by decide) fun k2 H11 k20 k21 hd11 b11 => ?_
        obtain ⟨u', hu, hat⟩ := pick4 k20 k21 (B := fun v => 0 ≤ v ∧ v < 262144) (a := 0) (b := 1) (c := 262144 - 1) (d := u) (by decide) (by decide) (by decide) ⟨u0, u1⟩
        refine w_ixL (b11 l3 _ (hd9.ne nl3) hl3) hat ?_
        walk_at "ws"
        refine w_kTup (by show 3 ≤ sizeLine; decide) fun t H12 nt s12 ht => ?_
        exact fin t H12 [a, u'] (by rw [ef]; exact .du ⟨a0, a1⟩ hu) ht (hd11.same s12) ((But.of s8).trans (b9.trans ((But.of s10).trans (b11.trans (.of s12)))))
      · walk_at "ws"
        refine w_dec (fun e4 => ?_) (fun e4 => ?_)
        · have ef : fm = "dj" := of4.mp e4
          walk_at "ws"
          refine w_take hd8 (by decide) (by decide) fun u H9 u0 u1 hd9 b9 => ?_
          walk_at "ws"
          refine w_kLst (by show 5 ≤ sizeLine; decide) fun l3 H10 nl3 s10 hl3 => ?_
          walk_at "ws"
          refine w_take (hd9.same s10) (by decide) (by decide) fun k2 H11 k20 k21 hd11 b11 => ?_
          obtain ⟨u', hu, hat⟩ := pick5 k20 k21 (B := fun v => -131072 ≤ v ∧ v ≤ 131071) (a := 0) (b := -1) (c := 131071) (d := -131072) (e := u - 131072) (by decide) (by decide) (by decide) (by decide) (by omega)
          refine w_ixL (b11 l3 _ (hd9.ne nl3) hl3) hat ?_
          walk_at "ws"
          refine w_kTup (by show 3 ≤ sizeLine; decide) fun t H12 nt s12 ht => ?_
          exact fin t H12 [a, u'] (by rw [ef]; exact .dj ⟨a0, a1⟩ hu) ht (hd11.same s12) ((But.of s8).trans (b9.trans ((But.of s10).trans (b11.trans (.of s12)))))
        · walk_at "ws"
          refine w_kTup (by show 4 ≤ sizeLine; decide) fun t H9 nt s9 ht => ?_
          refine fin t H9 [a, b, im] ?_ ht (hd8.same s9) (.of (s8.trans s9))
          have := ops_forms _ (List.mem_of_getElem? hop)
          simp only [forms, List.mem_cons, List.not_mem_nil, or_false] at this
          rcases this with h | h | h | h | h | h | h
          · exact absurd h nf
          · rw [h]; exact .dsi ⟨a0, a1⟩ ⟨b0, b1'⟩ him
          · rw [h]; exact .ssi ⟨a0, a1⟩ ⟨b0, b1'⟩ him
          · exact absurd (of3.mpr h) e3
          · exact absurd (of4.mpr h) e4
          · exact absurd (.inl h) e2
          · exact absurd (.inr h) e2
end
end K00

namespace K00
section
variable {P : Program} {w : World} {K : PySem.W.Frag} {mg : Str → Option Value} {base : Heap}
theorem ok_law_read (b_int : mg "int" = none) (c_law_ops : Cd P w K mg base 1 "_law_ops" spOps) (c_law_word : Cd P w K mg base 2 "_law_word" (spWord K)) (c_law_signed : Cd P w K mg base 1 "_law_signed" spLSg) (Z : St1 K mg "_law_read" s_law_read ["word"]) : Cd P w K mg base 3 "_law_read" spDec := by
  refine Z.cd sc_law_read (fun vs H Q E h => by obtain ⟨x, rfl, _⟩ := h; rfl) (fun f cdv A outer s H vs Q E hr h => ?_)
  obtain ⟨x, rfl, x0, x1, q⟩ := h
  refine ⟨_, (pss_cons (ps_set (i := 1) sc_law_read.nd rfl (.inl rfl) (pe_op op_fdiv (pv 0) pe_int))
      (pss_cons (ps_if (pt_not (pt_chain op_le op_le pe_int (pv 1) pe_int)) (pss_one (ps_ret pe_non)) pss_nil)
      (pss_cons (ps_set (i := 2) sc_law_read.nd rfl (.inl rfl) (pe_ix ix_list (pe_cd0 c_law_ops hr (by first | decide | omega) (by rfl)) (pe_op op_sub (pv 1) pe_int) (fun _ _ => rfl)))
      (pss_cons (ps_set (i := 3) sc_law_read.nd rfl (.inl rfl) (pe_op op_mod (pe_op op_fdiv (pv 0) pe_int) pe_int))
      (pss_cons (ps_set (i := 4) sc_law_read.nd rfl (.inl rfl) (pe_op op_mod (pe_op op_fdiv (pv 0) pe_int) pe_int))
      (Evl.pss_cut (ps_if (pt_cmpR op_in_seq (pv 2) (pe_lst (pa_cons pe_str (pa_cons pe_str (pa_cons pe_str pa_nil)))) rfl) (pss_one (ps_set (i := 5) sc_law_read.nd rfl (.inl rfl) (pe_tup (pa_cons (pv 2) (pa_cons (pv 3) pa_nil))))) (pss_one (ps_if (pt_cmpR op_eq (pv 2) pe_str (nomark _)) (pss_one (ps_set (i := 5) sc_law_read.nd rfl (.inl rfl) (pe_tup (pa_cons (pv 2) (pa_cons (pv 3) (pa_cons (pe_op op_mod (pe_callTy call_intQ (by rfl) b_int (by decide +kernel) (pa_cons (pv 0) pa_nil)) pe_int) pa_nil)))))) (pss_one (ps_if (pt_cmpR op_eq (pv 2) pe_str (nomark _)) (pss_one (ps_set (i := 5) sc_law_read.nd rfl (.inl rfl) (pe_tup (pa_cons (pv 2) (pa_cons (pv 3) (pa_cons (pe_cd c_law_signed hr (by first | decide | omega) (by rfl) (pa_cons (pe_op op_mod (pe_callTy call_intQ (by rfl) b_int (by decide +kernel) (pa_cons (pv 0) pa_nil)) pe_int) (pa_cons pe_int pa_nil))) pa_nil)))))) (pss_one (ps_if (pt_cmpR op_lt (pv 1) pe_int (nomark _)) (pss_one (ps_set (i := 5) sc_law_read.nd rfl (.inl rfl) (pe_tup (pa_cons (pv 2) (pa_cons (pv 3) (pa_cons (pv 4) (pa_cons (pe_op op_mod (pe_op op_fdiv (pv 0) pe_int) pe_int) pa_nil))))))) (pss_one (ps_set (i := 5) sc_law_read.nd rfl (.inl rfl) (pe_tup (pa_cons (pv 2) (pa_cons (pv 3) (pa_cons (pv 4) (pa_cons (pe_cd c_law_signed hr (by first | decide | omega) (by rfl) (pa_cons (pe_op op_mod (pe_callTy call_intQ (by rfl) b_int (by decide +kernel) (pa_cons (pv 0) pa_nil)) pe_int) (pa_cons pe_int pa_nil))) pa_nil))))))))))))))
      (pss_one (ps_ret (pe_ifExp (pt_cmpR op_eq (pe_cd c_law_word hr (by first | decide | omega) (by rfl) (pa_cons (pv 5) pa_nil)) (pv 0) (nomark _)) (pv 5) pe_non))))))))), ?_⟩
  walk_at "ws"
  have none_of : (x / 67108864 < 1 ∨ 38 < x / 67108864) → ∀ n op fm xs, Ins n op fm xs → encW n fm xs ≠ x := fun hx n op fm xs hi e => by
    have z := hi.fits.enc (n := n)
    rw [e] at z
    have := hi.n38
    omega
  refine w_dec (fun e1 => ?_) (fun e1 => ?_)
  · walk_at "ws"
    refine w_ndec (fun e2 => ?_) (fun e2 => ?_)
    · walk_at "ws"
      exact q _ _ (Same.refl H) (.inr ⟨none_of (by omega), rfl⟩)
    · walk_at "ws"
      obtain ⟨n, hn⟩ : ∃ n : Nat, x / 67108864 - 1 = n := ⟨(x / 67108864 - 1).toNat, by omega⟩
      have hn38 : n < opsT.length := by show _ < 38; omega
      obtain ⟨⟨op, fm⟩, hop⟩ : ∃ p, opsT[n]? = some p := ⟨_, List.getElem?_eq_getElem hn38⟩
      obtain ⟨of1, of2, of3, of4⟩ := op_facts n hn38 _ hop
      have hfm := ops_forms _ (List.mem_of_getElem? hop)
      have hft := fits_of hfm x
      refine ⟨rfl, fun p H1 np s1 hp => ?_⟩
      walk_at "ws"
      rw [hn]
      refine w_ixL (v := .str op) hp (atI_nat (by rw [List.getElem?_map, List.getElem?_map, hop]; rfl)) ?_
      walk_at "ws"
      refine Evl.q_cut (M := fun σ' H' => Same H H' ∧ ∃ t, H' t = some (.tup (insV op (fieldsOf fm x))) ∧ ∃ v1 v2 v3 v4 : Option V, σ' = [some (.int x), v1, v2, v3, v4, some (.ref t)]) ?_ ?_
      · walk_at "ws"
        refine w_kLst (by show 3 ≤ sizeLine; decide) fun l2 H2 nl2 s2 hl2 => ?_
        refine w_inL hl2 rfl rfl of2 ?_
        walk_at "ws"
        refine w_dec (fun e3 => ?_) (fun e3 => ?_)
        · walk_at "ws"
          refine w_kTup (by show 2 ≤ sizeLine; decide) fun t H3 nt s3 ht => ?_
          walk_at "ws"
          refine ⟨s1.trans (s2.trans s3), t, ?_, _, _, _, _, rfl⟩
          rcases e3 with h | h
          · rw [show fm = _ from h, fld_d]; exact ht
          · rw [show fm = _ from h, fld_s]; exact ht
        · walk_at "ws"
          refine w_dec (fun e4 => ?_) (fun e4 => ?_)
          · walk_at "ws"
            refine w_kTup (by show 3 ≤ sizeLine; decide) fun t H3 nt s3 ht => ?_
            walk_at "ws"
            refine ⟨s1.trans (s2.trans s3), t, ?_, _, _, _, _, rfl⟩
            rw [show fm = _ from of3.mp e4, fld_du]; exact ht
          · walk_at "ws"
            refine w_dec (fun e5 => ?_) (fun e5 => ?_)
            · walk_at "ws"
              refine ⟨_, _, rfl, .inr ⟨rfl, ?_⟩⟩
              walk_at "ws"
              refine w_kTup (by show 3 ≤ sizeLine; decide) fun t H3 nt s3 ht => ?_
              walk_at "ws"
              refine ⟨s1.trans (s2.trans s3), t, ?_, _, _, _, _, rfl⟩
              rw [show fm = _ from of4.mp e5, fld_dj]; exact ht
            · walk_at "ws"
              refine w_dec (fun e6 => ?_) (fun e6 => ?_)
              · walk_at "ws"
                refine w_kTup (by show 4 ≤ sizeLine; decide) fun t H3 nt s3 ht => ?_
                walk_at "ws"
                refine ⟨s1.trans (s2.trans s3), t, ?_, _, _, _, _, rfl⟩
                rw [show fm = _ from of1.mpr (by omega), fld_dss]; exact ht
              · walk_at "ws"
                refine ⟨_, _, rfl, .inl ⟨rfl, ?_⟩⟩
                walk_at "ws"
                refine w_kTup (by show 4 ≤ sizeLine; decide) fun t H3 nt s3 ht => ?_
                walk_at "ws"
                refine ⟨s1.trans (s2.trans s3), t, ?_, _, _, _, _, rfl⟩
                simp only [forms, List.mem_cons, List.not_mem_nil, or_false] at hfm
                rcases hfm with h | h | h | h | h | h | h
                · have := of1.mp h; omega
                · rw [h, fld_dsi]; exact ht
                · rw [h, fld_ssi]; exact ht
                · exact absurd (of3.mpr h) e4
                · exact absurd (of4.mpr h) e5
                · exact absurd (.inl h) e3
                · exact absurd (.inr h) e3
      · rintro σ' H' ⟨sm, t, ht, v1, v2, v3, v4, rfl⟩
        walk_at "ws"
        have hins : Ins n op fm (fieldsOf fm x) := ⟨hop, hft⟩
        refine ⟨t, n, op, fm, fieldsOf fm x, rfl, .of ht, hins, fun H3 s3 => ?_⟩
        walk_at "ws"
        refine w_dec (fun e => ?_) (fun e => ?_)
        · walk_at "ws"
          exact q _ _ (sm.trans s3) (.inl ⟨_, op, fm, _, t, hins, e, rfl, s3 _ _ ht⟩)
        · walk_at "ws"
          refine q _ _ (sm.trans s3) (.inr ⟨fun n' op' fm' xs hi he => e ?_, rfl⟩)
          have z := hi.fits.enc (n := n')
          rw [he] at z
          have en : n = n' := by omega
          subst en
          have q2 := Option.some.inj (hi.at_.symm.trans hop)
          cases q2
          rw [z.1]
          exact he
  · walk_at "ws"
    exact q _ _ (Same.refl H) (.inr ⟨none_of (by omega), rfl⟩)
/-- the registers that are read, the one that is written: as the law has them -/
def spUses (K : PySem.W.Frag) : Sp := fun vs H Q _ => ∃ (t : Addr) (n : Nat) (op fm : Str) (x : Int) (xs : List Int), vs = [.ref t] ∧ SqT K H t (insV op (x :: xs)) ∧ Ins n op fm (x :: xs) ∧
  ∀ (p l : Addr) H', Same H H' → H' p = some (.tup [.ref l, .int (if fm.cps[0]? = some 100 then x else -1)]) → H' l = some (.lst ((usedOf fm (x :: xs)).map V.int)) → Q (.ref p) H'
theorem use_facts : ∀ n, n < 38 → ∀ p : Str × Str, opsT[n]? = some p → (inV (.str p.1) [.str "sw", .str "sb"] = true ∨ (27 ≤ n ∧ n < 33) ↔ p.2 = ("ssi" : Str)) ∧ (inV (.str p.1) [.str "put", .str "exit"] = decide (p.2 = ("s" : Str))) ∧ (inV (.str p.1) [.str "lui", .str "jal", .str "get"] = decide (p.2 = ("du" : Str) ∨ p.2 = ("dj" : Str) ∨ p.2 = ("d" : Str))) := by
  have h : ∀ n, n < 38 → (match opsT[n]? with | some p => decide ((inV (.str p.1) [.str "sw", .str "sb"] = true ∨ (27 ≤ n ∧ n < 33) ↔ p.2 = ("ssi" : Str)) ∧ (inV (.str p.1) [.str "put", .str "exit"] = decide (p.2 = ("s" : Str))) ∧ (inV (.str p.1) [.str "lui", .str "jal", .str "get"] = decide (p.2 = ("du" : Str) ∨ p.2 = ("dj" : Str) ∨ p.2 = ("d" : Str)))) | none => true) = true := by decide +kernel
  intro n hn p e
  have := h n hn
  rw [e] at this
  exact of_decide_eq_true this
theorem ok_law_uses (c_law_ops : Cd P w K mg base 1 "_law_ops" spOps) (Z : St1 K mg "_law_uses" s_law_uses ["row"]) : Cd P w K mg base 2 "_law_uses" (spUses K) := by
  refine Z.cd sc_law_uses (fun vs H Q E h => by obtain ⟨t, n, op, fm, x, xs, rfl, _⟩ := h; rfl) (fun f cdv A outer s H vs Q E hr h => ?_)
  obtain ⟨t, n, op, fm, x, xs, rfl, ht, hi, q⟩ := h
  have hn := hi.n38
  obtain ⟨at1, at2⟩ := first_at hi.at_
  have of := (op_facts n hn _ hi.at_).1
  obtain ⟨u1, u2, u3⟩ := use_facts n hn _ hi.at_
  refine ⟨_, (pss_cons (ps_set (i := 1) sc_law_uses.nd rfl (.inl rfl) (pe_ix ix_tup (pv 0) pe_int (fun _ _ => rfl)))
      (pss_cons (ps_set (i := 2) sc_law_uses.nd rfl (.inl rfl) (pe_bm PySem.F.plainAttrs_list PySem.F.slot_list_index PySem.F.type_list_index mt_index (pe_cd0 c_law_ops hr (by first | decide | omega) (by rfl)) (pa_cons (pv 1) pa_nil)))
      (pss_cons (ps_if (pt_cmpR op_lt (pv 2) pe_int (nomark _)) (pss_one (ps_ret (pe_tup (pa_cons (pe_lst (pa_cons (pe_ix ix_tup (pv 0) pe_int (fun _ _ => rfl)) (pa_cons (pe_ix ix_tup (pv 0) pe_int (fun _ _ => rfl)) pa_nil))) (pa_cons (pe_ix ix_tup (pv 0) pe_int (fun _ _ => rfl)) pa_nil))))) pss_nil)
      (Evl.pss_cut (ps_if (PW.pt (pw_or (pt_cmpR op_in_seq (pv 1) (pe_lst (pa_cons pe_str (pa_cons pe_str pa_nil))) rfl) (pw_or1 (pt_chain op_le op_lt pe_int (pv 2) pe_int)))) (pss_one (ps_ret (pe_tup (pa_cons (pe_lst (pa_cons (pe_ix ix_tup (pv 0) pe_int (fun _ _ => rfl)) (pa_cons (pe_ix ix_tup (pv 0) pe_int (fun _ _ => rfl)) pa_nil))) (pa_cons (pe_un un_neg pe_int) pa_nil))))) pss_nil)
      (pss_cons (ps_if (pt_cmpR op_in_seq (pv 1) (pe_lst (pa_cons pe_str (pa_cons pe_str pa_nil))) rfl) (pss_one (ps_ret (pe_tup (pa_cons (pe_lst (pa_cons (pe_ix ix_tup (pv 0) pe_int (fun _ _ => rfl)) pa_nil)) (pa_cons (pe_un un_neg pe_int) pa_nil))))) pss_nil)
      (pss_cons (ps_if (pt_cmpR op_in_seq (pv 1) (pe_lst (pa_cons pe_str (pa_cons pe_str (pa_cons pe_str pa_nil)))) rfl) (pss_one (ps_ret (pe_tup (pa_cons (pe_lst pa_nil) (pa_cons (pe_ix ix_tup (pv 0) pe_int (fun _ _ => rfl)) pa_nil))))) pss_nil)
      (pss_one (ps_ret (pe_tup (pa_cons (pe_lst (pa_cons (pe_ix ix_tup (pv 0) pe_int (fun _ _ => rfl)) pa_nil)) (pa_cons (pe_ix ix_tup (pv 0) pe_int (fun _ _ => rfl)) pa_nil))))))))))), ?_⟩
  walk_at "ws"
  refine w_ixTs ht (atI_of (v := .str op) (by decide) rfl) ?_
  walk_at "ws"
  refine ⟨rfl, fun p H1 np sm hp => ?_⟩
  walk_at "ws"
  refine w_lix hp at1 at2 ?_
  walk_at "ws"
  have ht1 := sm.sqT ht
  have hf := hi.fits
  have nss : ∀ {F : Str}, fm = F → F ≠ "dss" → ¬ ((n : Nat) : Int) < 13 := fun e ne z => ne (e ▸ of.mpr (by omega))
  refine w_dec (fun e => ?_) (fun e => ?_)
  · have ef : fm = "dss" := of.mpr (by omega)
    subst ef
    cases hf with
    | dss ha hb hc =>
      rename_i b c
      walk_at "ws"
      refine w_ixTs ht1 (atI_of (v := .int b) (by decide) rfl) ?_
      walk_at "ws"
      refine w_ixTs ht1 (atI_of (v := .int c) (by decide) rfl) ?_
      walk_at "ws"
      refine w_kLst (by show 2 ≤ sizeLine; decide) fun l H2 nl s2 hl => ?_
      walk_at "ws"
      refine w_ixTs (s2.sqT ht1) (atI_of (v := .int x) (by decide) rfl) ?_
      walk_at "ws"
      refine w_kTup (by show 2 ≤ sizeLine; decide) fun p2 H3 np2 s3 hp2 => ?_
      exact q p2 l H3 (sm.trans (s2.trans s3)) hp2 (s3 _ _ hl)
  · have nd : fm ≠ "dss" := fun z => e (by have := of.mp z; omega)
    walk_at "ws"
    refine Evl.q_cut (M := fun σ' H' => fm ≠ "ssi" ∧ Same H1 H' ∧ σ' = [some (.ref t), some (.str op), some (.int (n : Nat))]) ?_ ?_
    · have ssi : fm = "ssi" → ∀ H2, Same H1 H2 → ∃ b c, xs = [b, c] ∧ SqT K H2 t [.str op, .int x, .int b, .int c] := fun ef H2 s2 => by
        subst ef
        cases hf with
        | ssi ha hb hc => exact ⟨_, _, rfl, s2.sqT ht1⟩
      walk_at "ws"
      refine w_kLst (by show 2 ≤ sizeLine; decide) fun l2 H2 nl2 s2 hl2 => ?_
      refine w_inL hl2 rfl rfl rfl ?_
      walk_at "ws"
      have ret : fm = "ssi" → ∀ D' : Ends, D'.rt = Q → ∀ (σ' : L2.St) v3 v4, σ' = [some (.ref t), v3, v4] → (tRet (tTup (tCons (tLst (tCons (tOp (rIxT K) (tVar 0) (tC (.int 1))) (tCons (tOp (rIxT K) (tVar 0) (tC (.int 2))) tNil))) (tCons (tUn (rU fun i => .int (-i)) (tC (.int 1))) tNil)))) D' σ' H2 := by
        intro ef D' hD σ' v3 v4 es
        subst es
        obtain ⟨b, c, rfl, h2⟩ := ssi ef H2 s2
        walk_at "ws"
        refine w_ixTs h2 rfl ?_
        walk_at "ws"
        refine w_ixTs h2 rfl ?_
        walk_at "ws"
        refine w_kLst (by show 2 ≤ sizeLine; decide) fun l H3 nl s3 hl => ?_
        walk_at "ws"
        refine w_kTup (by show 2 ≤ sizeLine; decide) fun p2 H4 np2 s4 hp2 => ?_
        rw [hD]
        subst ef
        exact q p2 l H4 (sm.trans (s2.trans (s3.trans s4))) hp2 (s4 _ _ hl)
      refine w_bool (fun e2 => ?_) (fun e2 => ?_)
      · refine w_itT ?_
        exact ret (u1.mp (.inl e2)) _ rfl _ _ _ rfl
      · walk_at "ws"
        refine w_dec (fun e3 => ?_) (fun e3 => ?_)
        · walk_at "ws"
          refine w_dec (fun e4 => ?_) (fun e4 => ?_)
          · exact ret (u1.mp (.inr ⟨by omega, by omega⟩)) _ rfl _ _ _ rfl
          · walk_at "ws"
            exact ⟨fun z => by rcases u1.mpr z with h | h; rw [h] at e2; cases e2; omega, s2, rfl⟩
        · walk_at "ws"
          exact ⟨fun z => by rcases u1.mpr z with h | h; rw [h] at e2; cases e2; omega, s2, rfl⟩
    · rintro σ' H2 ⟨ns, s2, rfl⟩
      have ht2 := s2.sqT ht1
      walk_at "ws"
      refine w_kLst (by show 2 ≤ sizeLine; decide) fun l3 H3 nl3 s3 hl3 => ?_
      refine w_inL hl3 rfl rfl u2 ?_
      walk_at "ws"
      have ht3 := s3.sqT ht2
      refine w_dec (fun e3 => ?_) (fun e3 => ?_)
      · subst e3
        cases hf with
        | s ha =>
          walk_at "ws"
          refine w_ixTs ht3 (atI_of (v := .int x) (by decide) rfl) ?_
          walk_at "ws"
          refine w_kLst (by show 1 ≤ sizeLine; decide) fun l H4 nl s4 hl => ?_
          walk_at "ws"
          refine w_kTup (by show 2 ≤ sizeLine; decide) fun p2 H5 np2 s5 hp2 => ?_
          exact q p2 l H5 (sm.trans (s2.trans (s3.trans (s4.trans s5)))) hp2 (s5 _ _ hl)
      · walk_at "ws"
        refine w_kLst (by show 3 ≤ sizeLine; decide) fun l4 H4 nl4 s4 hl4 => ?_
        refine w_inL hl4 rfl rfl u3 ?_
        walk_at "ws"
        have ht4 := s4.sqT ht3
        refine w_dec (fun e4 => ?_) (fun e4 => ?_)
        · walk_at "ws"
          refine w_kLst (Nat.zero_le _) fun l H5 nl s5 hl => ?_
          walk_at "ws"
          refine w_ixTs (s5.sqT ht4) (atI_of (v := .int x) (by decide) rfl) ?_
          walk_at "ws"
          refine w_kTup (by show 2 ≤ sizeLine; decide) fun p2 H6 np2 s6 hp2 => ?_
          have s06 := sm.trans (s2.trans (s3.trans (s4.trans (s5.trans s6))))
          rcases e4 with h | h | h
          · subst h; cases hf with
            | du ha hc => exact q p2 l H6 s06 hp2 (s6 _ _ hl)
          · subst h; cases hf with
            | dj ha hc => exact q p2 l H6 s06 hp2 (s6 _ _ hl)
          · subst h; cases hf with
            | d ha => exact q p2 l H6 s06 hp2 (s6 _ _ hl)
        · have ef : fm = "dsi" := by
            have := ops_forms _ (List.mem_of_getElem? hi.at_)
            simp only [forms, List.mem_cons, List.not_mem_nil, or_false] at this
            rcases this with h | h | h | h | h | h | h
            · exact absurd h nd
            · exact h
            · exact absurd h ns
            · exact absurd (.inl h) e4
            · exact absurd (.inr (.inl h)) e4
            · exact absurd (.inr (.inr h)) e4
            · exact absurd h e3
          subst ef
          cases hf with
          | dsi ha hb hc =>
            rename_i b c
            walk_at "ws"
            refine w_ixTs ht4 (atI_of (v := .int b) (by decide) rfl) ?_
            walk_at "ws"
            refine w_kLst (by show 1 ≤ sizeLine; decide) fun l H5 nl s5 hl => ?_
            walk_at "ws"
            refine w_ixTs (s5.sqT ht4) (atI_of (v := .int x) (by decide) rfl) ?_
            walk_at "ws"
            refine w_kTup (by show 2 ≤ sizeLine; decide) fun p2 H6 np2 s6 hp2 => ?_
            exact q p2 l H6 (sm.trans (s2.trans (s3.trans (s4.trans (s5.trans s6))))) hp2 (s6 _ _ hl)
end
end K00

namespace K00
theorem sc_law : FnScope ["script", "draw", "j", "row", "word", "read", "written", "due", "other", "k"] ["script"] (defScope s_law) := ⟨rfl, rfl, rfl, by decide +kernel, rfl, by decide +kernel, by decide +kernel⟩
def insD (op : Str) (xs : List Int) : PyData := .tuple (.str op :: xs.map .int)
theorem lay_ints : ∀ xs : List Int, PyData.canLayAll0 (xs.map .int) = true ∧ PyData.depthAll (xs.map .int) = 0
  | [] => by simp [PyData.canLayAll0, PyData.depthAll]
  | x :: r => by
    have := lay_ints r
    simp [PyData.canLayAll0, PyData.depthAll, PyData.canLay0, PyData.depth, this.1, this.2]
theorem lay_strs : ∀ xs : List Str, (∀ x ∈ xs, PyData.strOk x = true) → PyData.canLayAll0 (xs.map .str) = true ∧ PyData.depthAll (xs.map .str) = 0
  | [], _ => by simp [PyData.canLayAll0, PyData.depthAll]
  | x :: r, h => by
    have := lay_strs r fun y hy => h y (List.mem_cons_of_mem _ hy)
    simp [PyData.canLayAll0, PyData.depthAll, PyData.canLay0, PyData.depth, this.1, this.2, h x (List.mem_cons_self ..)]
theorem ops_ok : ∀ x ∈ opsT.map (·.1), PyData.strOk x = true := by decide +kernel
theorem ins_shaped {n : Nat} {fm op : Str} {xs : List Int} (h : Ins n op fm xs) : SeqAt.shaped (insD op xs) = true := by
  have l := lay_ints xs
  have o : PyData.strOk op = true := ops_ok op (List.mem_map.mpr ⟨_, List.mem_of_getElem? h.at_, rfl⟩)
  simp [SeqAt.shaped, insD, PyData.canLay0, PyData.canLayAll0, PyData.depth, PyData.depthAll, l.1, l.2, o]
theorem dpInts {K : PySem.W.Frag} {H : Hp} : ∀ xs : List Int, DpAll K H (xs.map V.int) (xs.map .int)
  | [] => .nil
  | x :: r => .cons (.int x) (dpInts r)
theorem dpStrs {K : PySem.W.Frag} {H : Hp} : ∀ xs : List Str, DpAll K H (xs.map V.str) (xs.map .str)
  | [] => .nil
  | x :: r => .cons (.str x) (dpStrs r)
theorem ins_dp {K : PySem.W.Frag} {H : Hp} {t : Addr} {op : Str} {xs : List Int} (h : SqT K H t (insV op xs)) : Dp K H (.ref t) (insD op xs) := .tup h (.cons (.str op) (dpInts xs))
theorem ints_shaped (ns : List Int) : SeqAt.shaped (.tuple (ns.map .int)) = true := by
  have l := lay_ints ns
  simp [SeqAt.shaped, PyData.canLay0, PyData.depth, l.1, l.2]
theorem strs_shaped {xs : List Str} (h : ∀ x ∈ xs, PyData.strOk x = true) : SeqAt.shaped (.list (xs.map .str)) = true := by
  have l := lay_strs xs h
  simp [SeqAt.shaped, PyData.canLay0, PyData.depth, l.1, l.2]
theorem dec_same {K : PySem.W.Frag} {x : Int} {v v' : V} {H H' : Hp} (a : DecOf x v H) (b : DecOf x v' H') (s : Same H H') : ∃ d, Dp K H' v d ∧ Dp K H' v' d ∧ SeqAt.shaped d = true := by
  rcases a with ⟨n, op, fm, xs, t, hi, he, rfl, ht⟩ | ⟨no, rfl⟩
  · rcases b with ⟨n', op', fm', xs', t', hi', he', rfl, ht'⟩ | ⟨no', rfl⟩
    · obtain ⟨rfl, rfl, rfl, rfl⟩ := hi.inj hi' (he.trans he'.symm)
      exact ⟨_, ins_dp (.of (s _ _ ht)), ins_dp (.of ht'), ins_shaped hi⟩
    · exact absurd he (no' n op fm xs hi)
  · rcases b with ⟨n', op', fm', xs', t', hi', he', rfl, ht'⟩ | ⟨no', rfl⟩
    · exact absurd he' (no n' op' fm' xs' hi')
    · exact ⟨.none, .non, .non, rfl⟩
theorem enc_lt {n : Nat} {op fm : Str} {xs : List Int} (h : Ins n op fm xs) : 0 ≤ encW n fm xs ∧ encW n fm xs < 4294967296 := by
  have z := h.fits.enc (n := n)
  have := h.n38
  omega
theorem Fits.cons {fm : Str} {xs : List Int} (h : Fits fm xs) : ∃ x r, xs = x :: r := by cases h <;> exact ⟨_, _, rfl⟩
theorem used_r16 {fm : Str} {xs : List Int} (h : Fits fm xs) : ∀ k ∈ usedOf fm xs, R16 k := by
  cases h <;> (intro k hk; simp [usedOf, cps_dss, cps_dsi, cps_ssi, cps_du, cps_dj, cps_d, cps_s] at hk) <;> (first | (rcases hk with rfl | rfl <;> assumption) | (subst hk; assumption))
theorem flat_ints (xs : List Int) : (xs.map V.int).all flatV = true := by
  rw [List.all_eq_true]
  intro v hv
  obtain ⟨s, _, rfl⟩ := List.mem_map.mp hv
  rfl
theorem inV_ints (k : Int) (xs : List Int) : inV (.int k) (xs.map V.int) = decide (k ∈ xs) := by
  induction xs with
  | nil => rfl
  | cons x r ih =>
    have e : inV (.int k) ((x :: r).map V.int) = ((x == k) || inV (.int k) (r.map V.int)) := rfl
    rw [e, ih, Bool.eq_iff_iff]
    simp only [Bool.or_eq_true, beq_iff_eq, decide_eq_true_eq, List.mem_cons]
    constructor
    · rintro (h | h)
      · exact .inl h.symm
      · exact .inr h
    · rintro (h | h)
      · exact .inl h.symm
      · exact .inr h
theorem w_lcR2 {g : TG} {tt : TT} {te : TE} {vs : List Nat} {σ : L2.St} {H : Hp} {Q : VK} {lo hi : Int} (n : Nat) (Pv : Addr → Nat → Hp → Prop) (hn : (hi - lo).toNat = n) (hb : -(2 ^ 62) ≤ lo ∧ lo < 2 ^ 62 ∧ -(2 ^ 62) ≤ hi ∧ hi < 2 ^ 62) (h0 : ∀ D, H D = none → Pv D 0 (upd H D (.lst [])))
    (hs : ∀ D i H, i < n → Pv D i H → g (.int (lo + (i : Int))) (wipe σ vs) H fun σ2 H2 => wipe σ2 vs = wipe σ vs ∧ tt σ2 H2 fun b H3 =>
      if b = true then te σ2 H3 fun y H4 => ∃ acc, H4 D = some (.lst acc) ∧ acc.length < sizeLine ∧ Pv D (i + 1) (upd H4 D (.lst (acc ++ [y]))) else Pv D (i + 1) H3) (hd : ∀ D H', H D = none → Pv D n H' → Q (.ref D) H') : kR2 (kLc g tt te vs σ Q) [.int lo, .int hi] H := by
  subst hn
  exact ⟨lo, hi, rfl, hb, fun D nD => lc_range (lo := lo) (n := (hi - lo).toNat) (Pv D) (h0 D nD) (hs D) (fun H' p => hd D H' nD p)⟩
def from1 (i : Nat) : List Int := (List.range i).map fun k : Nat => (1 : Int) + (k : Int)
theorem from1_succ (i : Nat) : from1 (i + 1) = from1 i ++ [1 + (i : Int)] := by unfold from1; rw [List.range_succ, List.map_append]; rfl
theorem from1_len (i : Nat) : (from1 i).length = i := by unfold from1; rw [List.length_map, List.length_range]
theorem mem_from1 {i : Nat} {k : Int} : k ∈ from1 i ↔ 1 ≤ k ∧ k < 1 + i := by
  unfold from1
  rw [List.mem_map]
  constructor
  · rintro ⟨n, hn, rfl⟩
    have := List.mem_range.mp hn
    omega
  · rintro ⟨h1, h2⟩
    exact ⟨(k - 1).toNat, List.mem_range.mpr (by omega), by omega⟩
theorem from1_asc (i : Nat) : (from1 i).Pairwise (· < ·) := by
  unfold from1
  rw [List.pairwise_map]
  exact List.pairwise_lt_range.imp (fun {a b} h => by omega)
def dueOf (us : List Int) (i : Nat) : List Int := (from1 i).filter fun k => decide (k ∈ us)
theorem dueOf_len (us : List Int) (i : Nat) : (dueOf us i).length ≤ i := Nat.le_trans (List.length_filter_le ..) (Nat.le_of_eq (from1_len i))
theorem dueOf_eq {us ms : List Int} (hu : ∀ k ∈ us, R16 k) (asc : ms.Pairwise (· < ·)) (hm : ∀ k, k ∈ ms ↔ k ∈ us ∧ k ≠ 0) : ms = dueOf us 15 := by
  refine asc_eq asc ((from1_asc 15).filter _) fun k => ?_
  unfold dueOf
  rw [hm k, List.mem_filter, mem_from1, decide_eq_true_eq]
  constructor
  · rintro ⟨h, hk⟩
    have := hu k h
    unfold R16 at this
    exact ⟨by omega, h⟩
  · rintro ⟨h, hk⟩
    exact ⟨hk, by omega⟩
theorem pow2_lt {n : Nat} (h : n < 32) : (0 : Int) < 2 ^ n ∧ (2 : Int) ^ n < 4294967296 := (by decide : ∀ n : _root_.Fin 32, (0 : Int) < 2 ^ n.val ∧ (2 : Int) ^ n.val < 4294967296) ⟨n, h⟩
def spLaw (K : PySem.W.Frag) : Sp := fun vs H Q _ => ∃ (a : Addr) (ns : List Int), vs = [.ref a] ∧ SqL K H a (ns.map V.int) ∧ ns.length ≤ 63 ∧ ∀ H', Q (.bl true) H'
section
variable {P : Program} {w : World} {K : PySem.W.Frag} {mg : Str → Option Value} {base : Heap}
theorem w_spDec {x : Int} {H : Hp} {Q : VK} {E : XK} (h0 : 0 ≤ x) (h1 : x < 4294967296) (q : ∀ v H', Same H H' → DecOf x v H' → Q v H') : spDec [.int x] H Q E := ⟨x, rfl, h0, h1, q⟩
theorem ok_law {O F : Addr} (T : Env0 K w mg O F) (b_int : mg "int" = none) (b_bool : mg "bool" = none) (b_range : mg "range" = none) (b_isinstance : mg "isinstance" = none) (b_list : mg "list" = none) (b_tuple : mg "tuple" = none)
    (c_law_draw : Cd P w K mg base 1 "_law_draw" (spDraw K)) (c_law_take : Cd P w K mg base 1 "_law_take" spTake) (c_law_ops : Cd P w K mg base 1 "_law_ops" spOps) (c_law_row : Cd P w K mg base 2 "_law_row" spRow) (c_encode : Cd P w K mg base 1 "encode" (spEnc K)) (c_law_word : Cd P w K mg base 2 "_law_word" (spWord K)) (c_decode : Cd P w K mg base 3 "decode" spDec) (c_law_read : Cd P w K mg base 3 "_law_read" spDec) (c_law_uses : Cd P w K mg base 2 "_law_uses" (spUses K)) (c_reads : Cd P w K mg base 1 "reads" (spReads K)) (c_writes : Cd P w K mg base 1 "writes" (spWrites K))
    {f : Addr} {fd : FuncData} (F : Fun K "law" "law" s_law f fd) : FnOk P w K mg base CX0 4 f fd ["script"] (spLaw K) := by
  obtain ⟨g_OPS, g_FORMS, g_LOW_14, g_LOW_18, ops, rows⟩ := T
  refine F.ok sc_law (fun vs H Q E h => by obtain ⟨op, g, rfl, _⟩ := h; rfl) (fun cdv A outer s H vs Q E hr h => ?_)
  obtain ⟨a, ns, rfl, hS, hlen, q⟩ := h
  refine ⟨_, (pss_cons (ps_set (i := 1) sc_law.nd rfl (.inl rfl) (pe_cd c_law_draw hr (by first | decide | omega) (by rfl) (pa_cons (pv 0) pa_nil)))
      (pss_cons (ps_if (pt_cmpR (op_neD hr.units) (pe_callTy call_listQ (by rfl) b_list (by decide +kernel) (pa_cons (pe_gv (by rfl) g_OPS) pa_nil)) (pe_cd0 c_law_ops hr (by first | decide | omega) (by rfl)) (nomark _)) (pss_one (ps_ret pe_bl)) pss_nil)
      (pss_cons (ps_for PassesOwn.never rfl (pi_range1 (by rfl) b_range (pa_cons pe_int pa_nil)) (pg_name (i := 2) sc_law.nd rfl (.inl rfl))
      (pss_cons (ps_set (i := 3) sc_law.nd rfl (.inl rfl) (pe_cd c_law_row hr (by first | decide | omega) (by rfl) (pa_cons (pv 1) pa_nil)))
      (pss_cons (ps_set (i := 4) sc_law.nd rfl (.inl rfl) (pe_cd c_encode hr (by first | decide | omega) (by rfl) (pa_cons (pv 3) pa_nil)))
      (pss_cons (ps_if (PW.pt (pw_or (pt_cmpR op_ne (pv 4) (pe_cd c_law_word hr (by first | decide | omega) (by rfl) (pa_cons (pv 3) pa_nil)) (nomark _)) (pw_or (pt_val (pe_callB call_isi (by rfl) b_isinstance (by decide +kernel) (pa_cons (pv 4) (pa_cons (pe_bltn (v := .ty "bool") (by rfl) b_bool (by decide +kernel) rfl) pa_nil)))) (pw_or1 (pt_cmpR (op_neD hr.units) (pe_cd c_decode hr (by first | decide | omega) (by rfl) (pa_cons (pv 4) pa_nil)) (pv 3) (nomark _)))))) (pss_one (ps_ret pe_bl)) pss_nil)
      (pss_cons (ps_asg (pe_cd c_law_uses hr (by first | decide | omega) (by rfl) (pa_cons (pv 3) pa_nil)) (pg_tup rfl (pgs_cons (pg_name (i := 5) sc_law.nd rfl (.inr rfl)) (pgs_cons (pg_name (i := 6) sc_law.nd rfl (.inl rfl)) pgs_nil))))
      (pss_cons (ps_setLc (i := 7) (own := [("k", 9)]) rfl sc_law.nd rfl rfl (sw_true rfl rfl rfl (by decide +kernel)) (pi_range2 (by rfl) b_range (pa_cons pe_int (pa_cons pe_int pa_nil))) (blkOk_by (own := [("k", 9)]) (N := ["script", "draw", "j", "row", "word", "read", "written", "due", "other", "k"]) (sc := (defScope s_law)) (by decide +kernel)) (fun _ _ _ _ _ => (pg_name (i := 9) sc_law.nd rfl (.inl rfl))) (fun _ _ _ _ _ => (pts_one (pt_cmpR (op_in_seqK (K' := K) (by rfl)) (pv 9) (pv 5) rfl))) (fun _ _ _ _ _ => (pv 9)))
      (Evl.pss_cut (ps_if (PW.pt (pw_or (pt_cmpR (op_neD hr.units) (pe_cd c_reads hr (by first | decide | omega) (by rfl) (pa_cons (pv 3) pa_nil)) (pe_callTy call_tupQ (by rfl) b_tuple (by decide +kernel) (pa_cons (pv 7) pa_nil)) (nomark _)) (pw_or1 (pt_cmpR op_ne (pe_cd c_writes hr (by first | decide | omega) (by rfl) (pa_cons (pv 3) pa_nil)) (pe_ifExp (pt_cmpR op_ne (pv 6) pe_int (nomark _)) (pv 6) (pe_un un_neg pe_int)) (nomark _))))) (pss_one (ps_ret pe_bl)) pss_nil)
      (pss_cons (ps_set (i := 8) sc_law.nd rfl (.inl rfl) (pe_ix ix_list (pe_lst (pa_cons (pe_op op_add (pv 4) (pe_op op_shl pe_int (pe_cd c_law_take hr (by first | decide | omega) (by rfl) (pa_cons (pv 1) (pa_cons pe_int pa_nil))))) (pa_cons (pe_cd c_law_take hr (by first | decide | omega) (by rfl) (pa_cons (pv 1) (pa_cons (pe_op op_pow pe_int pe_int) pa_nil))) (pa_cons (pe_op op_mul (pe_cd c_law_take hr (by first | decide | omega) (by rfl) (pa_cons (pv 1) (pa_cons pe_int pa_nil))) (pe_op op_pow pe_int pe_int)) (pa_cons (pe_op op_add (pe_op op_mod (pe_callTy call_intQ (by rfl) b_int (by decide +kernel) (pa_cons (pv 4) pa_nil)) (pe_op op_pow pe_int pe_int)) (pe_op op_mul (pe_cd c_law_take hr (by first | decide | omega) (by rfl) (pa_cons (pv 1) (pa_cons pe_int pa_nil))) (pe_op op_pow pe_int pe_int))) pa_nil))))) (pe_cd c_law_take hr (by first | decide | omega) (by rfl) (pa_cons (pv 1) (pa_cons pe_int pa_nil))) (fun _ _ => rfl)))
      (pss_cons (ps_set (i := 8) sc_law.nd rfl (.inl rfl) (pe_op op_mod (pe_callTy call_intQ (by rfl) b_int (by decide +kernel) (pa_cons (pv 8) pa_nil)) (pe_op op_pow pe_int pe_int)))
      (pss_one (ps_if (pt_cmpR (op_neD hr.units) (pe_cd c_decode hr (by first | decide | omega) (by rfl) (pa_cons (pv 8) pa_nil)) (pe_cd c_law_read hr (by first | decide | omega) (by rfl) (pa_cons (pv 8) pa_nil)) (nomark _)) (pss_one (ps_ret pe_bl)) pss_nil)))))))))))
      (pss_one (ps_ret pe_bl))))), ?_⟩
  walk_at "ws"
  refine ⟨a, ns, rfl, hS, hlen, fun d H1 _ _ hd => ?_⟩
  walk_at "ws"
  refine w_listT (ops.sq H1) fun l H2 nl s2 hl => ?_
  walk_at "ws"
  refine ⟨rfl, fun p H3 np s3 hp => ?_⟩
  refine w_neD (d := .list (opNames.map .str)) (.lst (.of (s3 _ _ hl)) (dpStrs _)) (.lst (.of hp) (dpStrs _)) (strs_shaped ops_ok) ?_
  walk_at "ws"
  refine w_forR 8 (fun i σ' H' => DrawAt H' d ∧ ∃ r : L2.St, σ' = some (.ref a) :: some (.ref d) :: r ∧ r.length = 8) rfl (by decide) ⟨hd.same (s2.trans s3), _, rfl, rfl⟩ ?_ ?_
  · rintro i σ1 G0 _ ⟨hd0, r, rfl, hr8⟩
    obtain ⟨r1, r2, r3, r4, r5, r6, r7, r8, rfl⟩ : ∃ r1 r2 r3 r4 r5 r6 r7 r8, r = [r1, r2, r3, r4, r5, r6, r7, r8] := by
      match r, hr8 with
      | [r1, r2, r3, r4, r5, r6, r7, r8], _ => exact ⟨_, _, _, _, _, _, _, _, rfl⟩
    walk_at "ws"
    refine ⟨d, rfl, hd0, fun t G1 n op fm xs hi ht hd1 b1 => ?_⟩
    walk_at "ws"
    obtain ⟨w0, w1⟩ := enc_lt hi
    refine ⟨t, n, op, fm, xs, rfl, .of ht, hi, fun G2 m2 => ?_⟩
    walk_at "ws"
    refine ⟨t, n, op, fm, xs, rfl, .of (m2 _ _ ht), hi, fun G3 m3 => ?_⟩
    walk_at "wr"
    refine w_spDec w0 w1 fun v G4 m4 hv => ?_
    walk_at "ws"
    have ht4 := m4 _ _ (m3 _ _ (m2 _ _ ht))
    rcases hv with ⟨n', op', fm', xs', t', hi', he', rfl, ht'⟩ | ⟨no, _⟩
    case inr => exact absurd rfl (no n op fm xs hi)
    obtain ⟨rfl, rfl, rfl, rfl⟩ := hi.inj hi' he'.symm
    refine w_neD (ins_dp (.of ht')) (ins_dp (.of ht4)) (ins_shaped hi) ?_
    walk_at "ws"
    obtain ⟨x, r, rfl⟩ := hi.fits.cons
    refine ⟨t, n, op, fm, x, r, rfl, .of ht4, hi, fun p l G5 m5 hp hl => ?_⟩
    walk_at "ws"
    have hur := used_r16 hi.fits
    obtain ⟨us, hus⟩ : ∃ us, us = usedOf fm (x :: r) := ⟨_, rfl⟩
    rw [← hus] at hl hur
    refine w_lcR2 15 (fun D i H' => G5 D = none ∧ Same G5 H' ∧ H' D = some (.lst ((dueOf us i).map V.int))) rfl (by decide) (fun D nD => ⟨nD, Same.new nD, upd_same⟩) ?_ ?_
    · rintro D i H' hi15 ⟨nD, sm, hD⟩
      walk_at "ws"
      refine ⟨rfl, ?_⟩
      walk_at "ws"
      refine w_inL (sm _ _ hl) rfl (flat_ints us) (inV_ints _ us) ?_
      walk_at "ws"
      have du : dueOf us (i + 1) = dueOf us i ++ (if 1 + (i : Int) ∈ us then [1 + (i : Int)] else []) := by
        unfold dueOf
        rw [from1_succ, List.filter_append]
        congr 1
        by_cases c : 1 + (i : Int) ∈ us <;> simp [c]
      refine w_dec (fun e => ?_) (fun e => ?_)
      · walk_at "ws"
        rw [if_pos e] at du
        refine ⟨_, hD, by rw [List.length_map]; exact small1000 (by have := dueOf_len us i; omega), nD, fun b o h => ?_, ?_⟩
        · rw [upd_ne (ne_of_none h nD)]; exact sm b o h
        · rw [upd_same, du, List.map_append]; rfl
      · walk_at "ws"
        rw [if_neg e, List.append_nil] at du
        exact ⟨nD, sm, by rw [du]; exact hD⟩
    · rintro D G6 nD ⟨_, m6, hD⟩
      have ht6 := m6 _ _ (m5 _ _ ht4)
      have hd6 : DrawAt G6 d := hd1.same (m2.trans (m3.trans (m4.trans (m5.trans m6))))
      refine Evl.q_cut (M := fun σ' H' => Same G6 H' ∧ ∃ s2 s3 s5 s6 s7 s8 s9 : Option V, σ' = [some (.ref a), some (.ref d), s2, s3, some (.int (encW n fm (x :: r))), s5, s6, s7, s8, s9]) ?_ ?_
      · walk_at "ws"
        refine ⟨t, n, op, fm, x :: r, rfl, .of ht6, hi, fun ms p7 G7 m7 asc mem hp7 => ?_⟩
        rw [← hus] at mem
        walk_at "ws"
        refine w_tupL (.of (m7 _ _ hD)) fun p8 G8 np8 m8 hp8 => ?_
        have hms : ms = dueOf us 15 := dueOf_eq hur asc mem
        refine w_neD (d := .tuple (ms.map .int)) (.tup (.of (m8 _ _ hp7)) (dpInts ms)) (.tup (.of (by rw [hms]; exact hp8)) (dpInts ms)) (ints_shaped ms) ?_
        walk_at "ws"
        refine ⟨t, n, op, fm, x, r, rfl, .of (m8 _ _ (m7 _ _ ht6)), hi, ?_⟩
        walk_at "ws"
        refine w_ndec (fun e => ?_) (fun e => ?_)
        · walk_at "ws"
          have ee : (if fm.cps[0]? = some 100 ∧ x ≠ 0 then x else -1) = (if fm.cps[0]? = some 100 then x else -1) := by
            by_cases c : fm.cps[0]? = some 100
            · rw [if_pos c] at e ⊢; rw [if_pos ⟨c, e⟩]
            · rw [if_neg c, if_neg (fun z => c z.1)]
          rw [ee]
          refine w_ndecF rfl ?_
          walk_at "ws"
          exact ⟨m7.trans m8, _, _, _, _, _, _, _, rfl⟩
        · walk_at "ws"
          have ee : (if fm.cps[0]? = some 100 ∧ x ≠ 0 then x else -1) = -1 := by
            by_cases c : fm.cps[0]? = some 100
            · rw [if_pos c] at e; rw [if_neg (fun z => z.2 e)]
            · rw [if_neg (fun z => c z.1)]
          rw [ee]
          refine w_ndecF rfl ?_
          walk_at "ws"
          exact ⟨m7.trans m8, _, _, _, _, _, _, _, rfl⟩
      · rintro σ' G9 ⟨m9, s2, s3, s5, s6, s7, s8, s9, rfl⟩
        have hd9 := hd6.same m9
        walk_at "ws"
        refine w_take hd9 (by decide) (by decide) fun k1 J1 k10 k11 hj1 _ => ?_
        have p2 := pow2_lt (n := k1.toNat) (by omega)
        walk_at "ws"
        refine w_take hj1 (by decide) (by decide) fun k2 J2 k20 k21 hj2 _ => ?_
        walk_at "ws"
        refine w_take hj2 (by decide) (by decide) fun k3 J3 k30 k31 hj3 _ => ?_
        walk_at "ws"
        refine w_take hj3 (by decide) (by decide) fun k4 J4 k40 k41 hj4 _ => ?_
        walk_at "ws"
        refine w_kLst (by show 4 ≤ sizeLine; decide) fun l5 J5 nl5 s5' hl5 => ?_
        walk_at "ws"
        refine w_take (hj4.same s5') (by decide) (by decide) fun k6 J6 k60 k61 hj6 b6 => ?_
        obtain ⟨o, _, hat⟩ := pick4 k60 k61 (B := fun _ => True) (a := encW n fm (x :: r) + 1 * 2 ^ k1.toNat) (b := k2) (c := k3 * 67108864) (d := encW n fm (x :: r) % 67108864 + k4 * 67108864) trivial trivial trivial trivial
        refine w_ixL (b6 l5 _ (hj4.ne nl5) hl5) hat ?_
        walk_at "ws"
        have o0 : 0 ≤ o % 4294967296 := Int.emod_nonneg _ (by decide)
        have o1 : o % 4294967296 < 4294967296 := Int.emod_lt_of_pos _ (by decide)
        refine w_spDec o0 o1 fun v7 J7 s7' hv7 => ?_
        walk_at "ws"
        refine w_spDec o0 o1 fun v8 J8 s8' hv8 => ?_
        obtain ⟨dd, h1, h2, h3⟩ := dec_same (K := K) hv7 hv8 s8'
        refine w_neD h1 h2 h3 ?_
        walk_at "ws"
        exact ⟨(hj6.same s7').same s8', _, rfl, rfl⟩
  · rintro σ' H' ⟨hd, r, rfl, _⟩
    walk_at "ws"
    exact q _
end
end K00

namespace K00
theorem all_mk {l : PySem.W.OpenLaw} {w : World} {K : PySem.W.Frag} {h : Heap} {mg : Str → Option Value} {fa : Addr} (X : K.In h) (G : h.Ns mainGlobals mg) (hfa : mg "law" = some (.ref fa))
    {f_encode : Addr} {od_encode an_encode : Option Addr} {sl_encode : Array (Option Value)} {oc_encode kV_encode dc_encode pm_encode cd_encode ct_encode : Value}
    {f_decode : Addr} {od_decode an_decode : Option Addr} {sl_decode : Array (Option Value)} {oc_decode kV_decode dc_decode pm_decode cd_decode ct_decode : Value}
    {f_immediate : Addr} {od_immediate an_immediate : Option Addr} {sl_immediate : Array (Option Value)} {oc_immediate kV_immediate dc_immediate pm_immediate cd_immediate ct_immediate : Value}
    {f_with_sign : Addr} {od_with_sign an_with_sign : Option Addr} {sl_with_sign : Array (Option Value)} {oc_with_sign kV_with_sign dc_with_sign pm_with_sign cd_with_sign ct_with_sign : Value}
    {f_reads : Addr} {od_reads an_reads : Option Addr} {sl_reads : Array (Option Value)} {oc_reads kV_reads dc_reads pm_reads cd_reads ct_reads : Value}
    {f_writes : Addr} {od_writes an_writes : Option Addr} {sl_writes : Array (Option Value)} {oc_writes kV_writes dc_writes pm_writes cd_writes ct_writes : Value}
    {f_law_draw : Addr} {od_law_draw an_law_draw : Option Addr} {sl_law_draw : Array (Option Value)} {oc_law_draw kV_law_draw dc_law_draw pm_law_draw cd_law_draw ct_law_draw : Value}
    {f_law_take : Addr} {od_law_take an_law_take : Option Addr} {sl_law_take : Array (Option Value)} {oc_law_take kV_law_take dc_law_take pm_law_take cd_law_take ct_law_take : Value}
    {f_law_ops : Addr} {od_law_ops an_law_ops : Option Addr} {sl_law_ops : Array (Option Value)} {oc_law_ops kV_law_ops dc_law_ops pm_law_ops cd_law_ops ct_law_ops : Value}
    {f_law_word : Addr} {od_law_word an_law_word : Option Addr} {sl_law_word : Array (Option Value)} {oc_law_word kV_law_word dc_law_word pm_law_word cd_law_word ct_law_word : Value}
    {f_law_row : Addr} {od_law_row an_law_row : Option Addr} {sl_law_row : Array (Option Value)} {oc_law_row kV_law_row dc_law_row pm_law_row cd_law_row ct_law_row : Value}
    {f_law_signed : Addr} {od_law_signed an_law_signed : Option Addr} {sl_law_signed : Array (Option Value)} {oc_law_signed kV_law_signed dc_law_signed pm_law_signed cd_law_signed ct_law_signed : Value}
    {f_law_read : Addr} {od_law_read an_law_read : Option Addr} {sl_law_read : Array (Option Value)} {oc_law_read kV_law_read dc_law_read pm_law_read cd_law_read ct_law_read : Value}
    {f_law_uses : Addr} {od_law_uses an_law_uses : Option Addr} {sl_law_uses : Array (Option Value)} {oc_law_uses kV_law_uses dc_law_uses pm_law_uses cd_law_uses ct_law_uses : Value}
    {f_law : Addr} {od_law an_law : Option Addr} {sl_law : Array (Option Value)} {oc_law kV_law dc_law pm_law cd_law ct_law : Value}
    {tk_LOW_14 : Tok}
    {tk_LOW_18 : Tok}
    (a_encode : PySem.W.nsIn K mainGlobals "encode" = some (some (.ref f_encode))) (l_encode : K.lookup f_encode = some ⟨oc_encode, od_encode, .func (PySem.W.fnOf "encode" "encode" (defArgs s_encode) (defBody s_encode) (defScope s_encode) .none kV_encode dc_encode pm_encode an_encode cd_encode ct_encode), sl_encode⟩) (cc_encode : PySem.W.codeIn K cd_encode "encode" = true) (kk_encode : PySem.W.keepIn K (.ref f_encode) = true)
    (a_decode : PySem.W.nsIn K mainGlobals "decode" = some (some (.ref f_decode))) (l_decode : K.lookup f_decode = some ⟨oc_decode, od_decode, .func (PySem.W.fnOf "decode" "decode" (defArgs s_decode) (defBody s_decode) (defScope s_decode) .none kV_decode dc_decode pm_decode an_decode cd_decode ct_decode), sl_decode⟩) (cc_decode : PySem.W.codeIn K cd_decode "decode" = true) (kk_decode : PySem.W.keepIn K (.ref f_decode) = true)
    (a_immediate : PySem.W.nsIn K mainGlobals "_immediate" = some (some (.ref f_immediate))) (l_immediate : K.lookup f_immediate = some ⟨oc_immediate, od_immediate, .func (PySem.W.fnOf "_immediate" "_immediate" (defArgs s_immediate) (defBody s_immediate) (defScope s_immediate) .none kV_immediate dc_immediate pm_immediate an_immediate cd_immediate ct_immediate), sl_immediate⟩) (cc_immediate : PySem.W.codeIn K cd_immediate "_immediate" = true) (kk_immediate : PySem.W.keepIn K (.ref f_immediate) = true)
    (a_with_sign : PySem.W.nsIn K mainGlobals "_with_sign" = some (some (.ref f_with_sign))) (l_with_sign : K.lookup f_with_sign = some ⟨oc_with_sign, od_with_sign, .func (PySem.W.fnOf "_with_sign" "_with_sign" (defArgs s_with_sign) (defBody s_with_sign) (defScope s_with_sign) .none kV_with_sign dc_with_sign pm_with_sign an_with_sign cd_with_sign ct_with_sign), sl_with_sign⟩) (cc_with_sign : PySem.W.codeIn K cd_with_sign "_with_sign" = true) (kk_with_sign : PySem.W.keepIn K (.ref f_with_sign) = true)
    (a_reads : PySem.W.nsIn K mainGlobals "reads" = some (some (.ref f_reads))) (l_reads : K.lookup f_reads = some ⟨oc_reads, od_reads, .func (PySem.W.fnOf "reads" "reads" (defArgs s_reads) (defBody s_reads) (defScope s_reads) .none kV_reads dc_reads pm_reads an_reads cd_reads ct_reads), sl_reads⟩) (cc_reads : PySem.W.codeIn K cd_reads "reads" = true) (kk_reads : PySem.W.keepIn K (.ref f_reads) = true)
    (a_writes : PySem.W.nsIn K mainGlobals "writes" = some (some (.ref f_writes))) (l_writes : K.lookup f_writes = some ⟨oc_writes, od_writes, .func (PySem.W.fnOf "writes" "writes" (defArgs s_writes) (defBody s_writes) (defScope s_writes) .none kV_writes dc_writes pm_writes an_writes cd_writes ct_writes), sl_writes⟩) (cc_writes : PySem.W.codeIn K cd_writes "writes" = true) (kk_writes : PySem.W.keepIn K (.ref f_writes) = true)
    (a_law_draw : PySem.W.nsIn K mainGlobals "_law_draw" = some (some (.ref f_law_draw))) (l_law_draw : K.lookup f_law_draw = some ⟨oc_law_draw, od_law_draw, .func (PySem.W.fnOf "_law_draw" "_law_draw" (defArgs s_law_draw) (defBody s_law_draw) (defScope s_law_draw) .none kV_law_draw dc_law_draw pm_law_draw an_law_draw cd_law_draw ct_law_draw), sl_law_draw⟩) (cc_law_draw : PySem.W.codeIn K cd_law_draw "_law_draw" = true) (kk_law_draw : PySem.W.keepIn K (.ref f_law_draw) = true)
    (a_law_take : PySem.W.nsIn K mainGlobals "_law_take" = some (some (.ref f_law_take))) (l_law_take : K.lookup f_law_take = some ⟨oc_law_take, od_law_take, .func (PySem.W.fnOf "_law_take" "_law_take" (defArgs s_law_take) (defBody s_law_take) (defScope s_law_take) .none kV_law_take dc_law_take pm_law_take an_law_take cd_law_take ct_law_take), sl_law_take⟩) (cc_law_take : PySem.W.codeIn K cd_law_take "_law_take" = true) (kk_law_take : PySem.W.keepIn K (.ref f_law_take) = true)
    (a_law_ops : PySem.W.nsIn K mainGlobals "_law_ops" = some (some (.ref f_law_ops))) (l_law_ops : K.lookup f_law_ops = some ⟨oc_law_ops, od_law_ops, .func (PySem.W.fnOf "_law_ops" "_law_ops" (defArgs s_law_ops) (defBody s_law_ops) (defScope s_law_ops) .none kV_law_ops dc_law_ops pm_law_ops an_law_ops cd_law_ops ct_law_ops), sl_law_ops⟩) (cc_law_ops : PySem.W.codeIn K cd_law_ops "_law_ops" = true) (kk_law_ops : PySem.W.keepIn K (.ref f_law_ops) = true)
    (a_law_word : PySem.W.nsIn K mainGlobals "_law_word" = some (some (.ref f_law_word))) (l_law_word : K.lookup f_law_word = some ⟨oc_law_word, od_law_word, .func (PySem.W.fnOf "_law_word" "_law_word" (defArgs s_law_word) (defBody s_law_word) (defScope s_law_word) .none kV_law_word dc_law_word pm_law_word an_law_word cd_law_word ct_law_word), sl_law_word⟩) (cc_law_word : PySem.W.codeIn K cd_law_word "_law_word" = true) (kk_law_word : PySem.W.keepIn K (.ref f_law_word) = true)
    (a_law_row : PySem.W.nsIn K mainGlobals "_law_row" = some (some (.ref f_law_row))) (l_law_row : K.lookup f_law_row = some ⟨oc_law_row, od_law_row, .func (PySem.W.fnOf "_law_row" "_law_row" (defArgs s_law_row) (defBody s_law_row) (defScope s_law_row) .none kV_law_row dc_law_row pm_law_row an_law_row cd_law_row ct_law_row), sl_law_row⟩) (cc_law_row : PySem.W.codeIn K cd_law_row "_law_row" = true) (kk_law_row : PySem.W.keepIn K (.ref f_law_row) = true)
    (a_law_signed : PySem.W.nsIn K mainGlobals "_law_signed" = some (some (.ref f_law_signed))) (l_law_signed : K.lookup f_law_signed = some ⟨oc_law_signed, od_law_signed, .func (PySem.W.fnOf "_law_signed" "_law_signed" (defArgs s_law_signed) (defBody s_law_signed) (defScope s_law_signed) .none kV_law_signed dc_law_signed pm_law_signed an_law_signed cd_law_signed ct_law_signed), sl_law_signed⟩) (cc_law_signed : PySem.W.codeIn K cd_law_signed "_law_signed" = true) (kk_law_signed : PySem.W.keepIn K (.ref f_law_signed) = true)
    (a_law_read : PySem.W.nsIn K mainGlobals "_law_read" = some (some (.ref f_law_read))) (l_law_read : K.lookup f_law_read = some ⟨oc_law_read, od_law_read, .func (PySem.W.fnOf "_law_read" "_law_read" (defArgs s_law_read) (defBody s_law_read) (defScope s_law_read) .none kV_law_read dc_law_read pm_law_read an_law_read cd_law_read ct_law_read), sl_law_read⟩) (cc_law_read : PySem.W.codeIn K cd_law_read "_law_read" = true) (kk_law_read : PySem.W.keepIn K (.ref f_law_read) = true)
    (a_law_uses : PySem.W.nsIn K mainGlobals "_law_uses" = some (some (.ref f_law_uses))) (l_law_uses : K.lookup f_law_uses = some ⟨oc_law_uses, od_law_uses, .func (PySem.W.fnOf "_law_uses" "_law_uses" (defArgs s_law_uses) (defBody s_law_uses) (defScope s_law_uses) .none kV_law_uses dc_law_uses pm_law_uses an_law_uses cd_law_uses ct_law_uses), sl_law_uses⟩) (cc_law_uses : PySem.W.codeIn K cd_law_uses "_law_uses" = true) (kk_law_uses : PySem.W.keepIn K (.ref f_law_uses) = true)
    (a_law : PySem.W.nsIn K mainGlobals "law" = some (some (.ref f_law))) (l_law : K.lookup f_law = some ⟨oc_law, od_law, .func (PySem.W.fnOf "law" "law" (defArgs s_law) (defBody s_law) (defScope s_law) .none kV_law dc_law pm_law an_law cd_law ct_law), sl_law⟩) (cc_law : PySem.W.codeIn K cd_law "law" = true) (kk_law : PySem.W.keepIn K (.ref f_law) = true)
    (a_LOW_14 : PySem.W.nsIn K mainGlobals "LOW_14" = some (some (.int 16383 tk_LOW_14)))
    (a_LOW_18 : PySem.W.nsIn K mainGlobals "LOW_18" = some (some (.int 262143 tk_LOW_18)))
    (z_abs : PySem.W.nsIn K mainGlobals "abs" = some none)
    (z_bool : PySem.W.nsIn K mainGlobals "bool" = some none)
    (z_int : PySem.W.nsIn K mainGlobals "int" = some none)
    (z_isinstance : PySem.W.nsIn K mainGlobals "isinstance" = some none)
    (z_len : PySem.W.nsIn K mainGlobals "len" = some none)
    (z_list : PySem.W.nsIn K mainGlobals "list" = some none)
    (z_range : PySem.W.nsIn K mainGlobals "range" = some none)
    (z_sorted : PySem.W.nsIn K mainGlobals "sorted" = some none)
    (z_tuple : PySem.W.nsIn K mainGlobals "tuple" = some none)
    (z_zip : PySem.W.nsIn K mainGlobals "zip" = some none)
    {O F : Addr} {its : Array Value} {nO nF : Nat} {slO : Array (Option Value)} {es : Array DictEntry} (aO : PySem.W.nsIn K mainGlobals "OPS" = some (some (.ref O))) (lO : K.lookup O = some ⟨.type "tuple", none, .seq its nO, slO⟩) (zO : its.size ≤ sizeLine) (vO : Vals ((opsT.map (·.1)).map V.str) its.toList) (aF : PySem.W.nsIn K mainGlobals "FORMS" = some (some (.ref F))) (lF : K.lookup F = some ⟨.type "dict", none, .dict es nF, #[]⟩) (kl : PySem.W.KeysLit w.params es.toList) {t_add t_sub t_mul t_and t_or t_xor t_shl t_shr t_sar t_slt t_sltu t_divu t_remu t_addi t_andi t_ori t_xori t_shli t_shri t_sari t_slti t_lui t_lw t_lb t_lbu t_sw t_sb t_beq t_bne t_blt t_bge t_bltu t_bgeu t_jal t_jalr t_get t_put t_exit : Tok} (r_add : PySem.W.nsIn K F "add" = some (some (.str "dss" t_add))) (r_sub : PySem.W.nsIn K F "sub" = some (some (.str "dss" t_sub))) (r_mul : PySem.W.nsIn K F "mul" = some (some (.str "dss" t_mul))) (r_and : PySem.W.nsIn K F "and" = some (some (.str "dss" t_and))) (r_or : PySem.W.nsIn K F "or" = some (some (.str "dss" t_or))) (r_xor : PySem.W.nsIn K F "xor" = some (some (.str "dss" t_xor))) (r_shl : PySem.W.nsIn K F "shl" = some (some (.str "dss" t_shl))) (r_shr : PySem.W.nsIn K F "shr" = some (some (.str "dss" t_shr))) (r_sar : PySem.W.nsIn K F "sar" = some (some (.str "dss" t_sar))) (r_slt : PySem.W.nsIn K F "slt" = some (some (.str "dss" t_slt))) (r_sltu : PySem.W.nsIn K F "sltu" = some (some (.str "dss" t_sltu))) (r_divu : PySem.W.nsIn K F "divu" = some (some (.str "dss" t_divu))) (r_remu : PySem.W.nsIn K F "remu" = some (some (.str "dss" t_remu))) (r_addi : PySem.W.nsIn K F "addi" = some (some (.str "dsi" t_addi))) (r_andi : PySem.W.nsIn K F "andi" = some (some (.str "dsi" t_andi))) (r_ori : PySem.W.nsIn K F "ori" = some (some (.str "dsi" t_ori))) (r_xori : PySem.W.nsIn K F "xori" = some (some (.str "dsi" t_xori))) (r_shli : PySem.W.nsIn K F "shli" = some (some (.str "dsi" t_shli))) (r_shri : PySem.W.nsIn K F "shri" = some (some (.str "dsi" t_shri))) (r_sari : PySem.W.nsIn K F "sari" = some (some (.str "dsi" t_sari))) (r_slti : PySem.W.nsIn K F "slti" = some (some (.str "dsi" t_slti))) (r_lui : PySem.W.nsIn K F "lui" = some (some (.str "du" t_lui))) (r_lw : PySem.W.nsIn K F "lw" = some (some (.str "dsi" t_lw))) (r_lb : PySem.W.nsIn K F "lb" = some (some (.str "dsi" t_lb))) (r_lbu : PySem.W.nsIn K F "lbu" = some (some (.str "dsi" t_lbu))) (r_sw : PySem.W.nsIn K F "sw" = some (some (.str "ssi" t_sw))) (r_sb : PySem.W.nsIn K F "sb" = some (some (.str "ssi" t_sb))) (r_beq : PySem.W.nsIn K F "beq" = some (some (.str "ssi" t_beq))) (r_bne : PySem.W.nsIn K F "bne" = some (some (.str "ssi" t_bne))) (r_blt : PySem.W.nsIn K F "blt" = some (some (.str "ssi" t_blt))) (r_bge : PySem.W.nsIn K F "bge" = some (some (.str "ssi" t_bge))) (r_bltu : PySem.W.nsIn K F "bltu" = some (some (.str "ssi" t_bltu))) (r_bgeu : PySem.W.nsIn K F "bgeu" = some (some (.str "ssi" t_bgeu))) (r_jal : PySem.W.nsIn K F "jal" = some (some (.str "dj" t_jal))) (r_jalr : PySem.W.nsIn K F "jalr" = some (some (.str "dsi" t_jalr))) (r_get : PySem.W.nsIn K F "get" = some (some (.str "d" t_get))) (r_put : PySem.W.nsIn K F "put" = some (some (.str "s" t_put))) (r_exit : PySem.W.nsIn K F "exit" = some (some (.str "s" t_exit))) : 
    ∃ fd : FuncData, (∀ (s : Shared) (v : Value), BindsTo s fd ⟨[v], []⟩ [("script", v)]) ∧ ∀ base : Heap, K.In base → base.Ns mainGlobals mg → FnOk l.prog w K mg base CX0 4 fa fd ["script"] (spLaw K) := by
  have e := hfa.symm.trans (PySem.W.mg_of X G a_law)
  cases e
  have Z_encode : St1 K mg "encode" s_encode ["instruction"] := mkSt1 X G a_encode l_encode cc_encode kk_encode (fun _ _ _ _ _ _ us hl => match us, hl with | [_], _ => rfl)
  have Z_decode : St1 K mg "decode" s_decode ["word"] := mkSt1 X G a_decode l_decode cc_decode kk_decode (fun _ _ _ _ _ _ us hl => match us, hl with | [_], _ => rfl)
  have Z_immediate : St1 K mg "_immediate" s_immediate ["kind", "word"] := mkSt1 X G a_immediate l_immediate cc_immediate kk_immediate (fun _ _ _ _ _ _ us hl => match us, hl with | [_, _], _ => rfl)
  have Z_with_sign : St1 K mg "_with_sign" s_with_sign ["bits", "half"] := mkSt1 X G a_with_sign l_with_sign cc_with_sign kk_with_sign (fun _ _ _ _ _ _ us hl => match us, hl with | [_, _], _ => rfl)
  have Z_reads : St1 K mg "reads" s_reads ["instruction"] := mkSt1 X G a_reads l_reads cc_reads kk_reads (fun _ _ _ _ _ _ us hl => match us, hl with | [_], _ => rfl)
  have Z_writes : St1 K mg "writes" s_writes ["instruction"] := mkSt1 X G a_writes l_writes cc_writes kk_writes (fun _ _ _ _ _ _ us hl => match us, hl with | [_], _ => rfl)
  have Z_law_draw : St1 K mg "_law_draw" s_law_draw ["script"] := mkSt1 X G a_law_draw l_law_draw cc_law_draw kk_law_draw (fun _ _ _ _ _ _ us hl => match us, hl with | [_], _ => rfl)
  have Z_law_take : St1 K mg "_law_take" s_law_take ["draw", "many"] := mkSt1 X G a_law_take l_law_take cc_law_take kk_law_take (fun _ _ _ _ _ _ us hl => match us, hl with | [_, _], _ => rfl)
  have Z_law_ops : St1 K mg "_law_ops" s_law_ops [] := mkSt1 X G a_law_ops l_law_ops cc_law_ops kk_law_ops (fun _ _ _ _ _ _ us hl => match us, hl with | [], _ => rfl)
  have Z_law_word : St1 K mg "_law_word" s_law_word ["row"] := mkSt1 X G a_law_word l_law_word cc_law_word kk_law_word (fun _ _ _ _ _ _ us hl => match us, hl with | [_], _ => rfl)
  have Z_law_row : St1 K mg "_law_row" s_law_row ["draw"] := mkSt1 X G a_law_row l_law_row cc_law_row kk_law_row (fun _ _ _ _ _ _ us hl => match us, hl with | [_], _ => rfl)
  have Z_law_signed : St1 K mg "_law_signed" s_law_signed ["value", "bits"] := mkSt1 X G a_law_signed l_law_signed cc_law_signed kk_law_signed (fun _ _ _ _ _ _ us hl => match us, hl with | [_, _], _ => rfl)
  have Z_law_read : St1 K mg "_law_read" s_law_read ["word"] := mkSt1 X G a_law_read l_law_read cc_law_read kk_law_read (fun _ _ _ _ _ _ us hl => match us, hl with | [_], _ => rfl)
  have Z_law_uses : St1 K mg "_law_uses" s_law_uses ["row"] := mkSt1 X G a_law_uses l_law_uses cc_law_uses kk_law_uses (fun _ _ _ _ _ _ us hl => match us, hl with | [_], _ => rfl)
  have Z_law : St1 K mg "law" s_law ["script"] := mkSt1 X G a_law l_law cc_law kk_law (fun _ _ _ _ _ _ us hl => match us, hl with | [_], _ => rfl)
  have g_LOW_14 : GV mg "LOW_14" (.int 16383) := ⟨_, PySem.W.mg_of X G a_LOW_14, ⟨_, rfl⟩⟩
  have g_LOW_18 : GV mg "LOW_18" (.int 262143) := ⟨_, PySem.W.mg_of X G a_LOW_18, ⟨_, rfl⟩⟩
  have b_abs : mg "abs" = none := PySem.W.mg_none_of X G z_abs
  have b_bool : mg "bool" = none := PySem.W.mg_none_of X G z_bool
  have b_int : mg "int" = none := PySem.W.mg_none_of X G z_int
  have b_isinstance : mg "isinstance" = none := PySem.W.mg_none_of X G z_isinstance
  have b_len : mg "len" = none := PySem.W.mg_none_of X G z_len
  have b_list : mg "list" = none := PySem.W.mg_none_of X G z_list
  have b_range : mg "range" = none := PySem.W.mg_none_of X G z_range
  have b_sorted : mg "sorted" = none := PySem.W.mg_none_of X G z_sorted
  have b_tuple : mg "tuple" = none := PySem.W.mg_none_of X G z_tuple
  have b_zip : mg "zip" = none := PySem.W.mg_none_of X G z_zip
  have F_law := fun_mk (st := s_law) l_law cc_law kk_law
  have T : Env0 K w mg O F := ⟨⟨_, PySem.W.mg_of X G aO, rfl⟩, ⟨_, PySem.W.mg_of X G aF, rfl⟩, g_LOW_14, g_LOW_18, ⟨its, nO, slO, lO, zO, vO⟩, by
    intro p hp
    simp only [opsT, List.mem_cons, List.not_mem_nil, or_false] at hp
    rcases hp with rfl | rfl | rfl | rfl | rfl | rfl | rfl | rfl | rfl | rfl | rfl | rfl | rfl | rfl | rfl | rfl | rfl | rfl | rfl | rfl | rfl | rfl | rfl | rfl | rfl | rfl | rfl | rfl | rfl | rfl | rfl | rfl | rfl | rfl | rfl | rfl | rfl | rfl
    · exact ⟨es, nF, _, lF, kl, r_add, ⟨_, rfl⟩⟩
    · exact ⟨es, nF, _, lF, kl, r_sub, ⟨_, rfl⟩⟩
    · exact ⟨es, nF, _, lF, kl, r_mul, ⟨_, rfl⟩⟩
    · exact ⟨es, nF, _, lF, kl, r_and, ⟨_, rfl⟩⟩
    · exact ⟨es, nF, _, lF, kl, r_or, ⟨_, rfl⟩⟩
    · exact ⟨es, nF, _, lF, kl, r_xor, ⟨_, rfl⟩⟩
    · exact ⟨es, nF, _, lF, kl, r_shl, ⟨_, rfl⟩⟩
    · exact ⟨es, nF, _, lF, kl, r_shr, ⟨_, rfl⟩⟩
    · exact ⟨es, nF, _, lF, kl, r_sar, ⟨_, rfl⟩⟩
    · exact ⟨es, nF, _, lF, kl, r_slt, ⟨_, rfl⟩⟩
    · exact ⟨es, nF, _, lF, kl, r_sltu, ⟨_, rfl⟩⟩
    · exact ⟨es, nF, _, lF, kl, r_divu, ⟨_, rfl⟩⟩
    · exact ⟨es, nF, _, lF, kl, r_remu, ⟨_, rfl⟩⟩
    · exact ⟨es, nF, _, lF, kl, r_addi, ⟨_, rfl⟩⟩
    · exact ⟨es, nF, _, lF, kl, r_andi, ⟨_, rfl⟩⟩
    · exact ⟨es, nF, _, lF, kl, r_ori, ⟨_, rfl⟩⟩
    · exact ⟨es, nF, _, lF, kl, r_xori, ⟨_, rfl⟩⟩
    · exact ⟨es, nF, _, lF, kl, r_shli, ⟨_, rfl⟩⟩
    · exact ⟨es, nF, _, lF, kl, r_shri, ⟨_, rfl⟩⟩
    · exact ⟨es, nF, _, lF, kl, r_sari, ⟨_, rfl⟩⟩
    · exact ⟨es, nF, _, lF, kl, r_slti, ⟨_, rfl⟩⟩
    · exact ⟨es, nF, _, lF, kl, r_lui, ⟨_, rfl⟩⟩
    · exact ⟨es, nF, _, lF, kl, r_lw, ⟨_, rfl⟩⟩
    · exact ⟨es, nF, _, lF, kl, r_lb, ⟨_, rfl⟩⟩
    · exact ⟨es, nF, _, lF, kl, r_lbu, ⟨_, rfl⟩⟩
    · exact ⟨es, nF, _, lF, kl, r_sw, ⟨_, rfl⟩⟩
    · exact ⟨es, nF, _, lF, kl, r_sb, ⟨_, rfl⟩⟩
    · exact ⟨es, nF, _, lF, kl, r_beq, ⟨_, rfl⟩⟩
    · exact ⟨es, nF, _, lF, kl, r_bne, ⟨_, rfl⟩⟩
    · exact ⟨es, nF, _, lF, kl, r_blt, ⟨_, rfl⟩⟩
    · exact ⟨es, nF, _, lF, kl, r_bge, ⟨_, rfl⟩⟩
    · exact ⟨es, nF, _, lF, kl, r_bltu, ⟨_, rfl⟩⟩
    · exact ⟨es, nF, _, lF, kl, r_bgeu, ⟨_, rfl⟩⟩
    · exact ⟨es, nF, _, lF, kl, r_jal, ⟨_, rfl⟩⟩
    · exact ⟨es, nF, _, lF, kl, r_jalr, ⟨_, rfl⟩⟩
    · exact ⟨es, nF, _, lF, kl, r_get, ⟨_, rfl⟩⟩
    · exact ⟨es, nF, _, lF, kl, r_put, ⟨_, rfl⟩⟩
    · exact ⟨es, nF, _, lF, kl, r_exit, ⟨_, rfl⟩⟩⟩
  refine ⟨PySem.W.fnOf "law" "law" (defArgs s_law) (defBody s_law) (defScope s_law) .none kV_law dc_law pm_law an_law cd_law ct_law, fun s v => .of_eq rfl, fun base _ _ => ?_⟩
  have c_law_take : Cd l.prog w K mg base 1 "_law_take" spTake := ok_take b_int b_abs b_len Z_law_take
  have c_law_draw : Cd l.prog w K mg base 1 "_law_draw" (spDraw K) := ok_draw b_int b_abs b_len Z_law_draw
  have c_law_ops : Cd l.prog w K mg base 1 "_law_ops" spOps := ok_law_ops Z_law_ops
  have c_encode : Cd l.prog w K mg base 1 "encode" (spEnc K) := ok_encode T b_zip Z_encode
  have c_law_word : Cd l.prog w K mg base 2 "_law_word" (spWord K) := ok_law_word b_len b_int c_law_ops Z_law_word
  have c_decode : Cd l.prog w K mg base 3 "decode" spDec := ok_decode T b_len c_encode (ok_immediate T (ok_with_sign Z_with_sign) Z_immediate) Z_decode
  have c_law_read : Cd l.prog w K mg base 3 "_law_read" spDec := ok_law_read b_int c_law_ops c_law_word (ok_law_signed Z_law_signed) Z_law_read
  exact ok_law T b_int b_bool b_range b_isinstance b_list b_tuple c_law_draw c_law_take c_law_ops (ok_law_row c_law_take c_law_ops Z_law_row) c_encode c_law_word c_decode c_law_read (ok_law_uses c_law_ops Z_law_uses) (ok_reads T b_zip b_tuple b_sorted Z_reads) (ok_writes T Z_writes) F_law
end K00
open PySem PySem.W PyProof.Rows
set_option maxRecDepth 100000 in
set_option maxHeartbeats 0 in
theorem PySem.Challenge.cw_restitch_k00_words_of_instructions_holds : PySem.Challenge.rw_restitch_k00_words_of_instructions.Holds := by
  w_on; o_law; k_head; (case hw => w_witness2)
  k_fill
  refine L2.walk_of (l := PySem.Challenge.rw_restitch_k00_words_of_instructions) (n := 63) (k := 4) (x := "script") (CX := fun _ => L2.CX0) (sp := fun w => K00.spLaw _) rfl (by decide) rfl ⟨rfl, by decide, by decide⟩ (fun w h Y => PySem.W.kIn_of Y) ?F (fun _ _ a ns hl _ hS => ⟨a, ns, rfl, hS, hl, fun _ => rfl⟩) (fun _ _ _ _ _ h => h)
  case F =>
    intro w mg fa h KX G hmg
    refine' K00.all_mk KX G hmg ?a_encode ?l_encode ?cc_encode ?kk_encode ?a_decode ?l_decode ?cc_decode ?kk_decode ?a_immediate ?l_immediate ?cc_immediate ?kk_immediate ?a_with_sign ?l_with_sign ?cc_with_sign ?kk_with_sign ?a_reads ?l_reads ?cc_reads ?kk_reads ?a_writes ?l_writes ?cc_writes ?kk_writes ?a_law_draw ?l_law_draw ?cc_law_draw ?kk_law_draw ?a_law_take ?l_law_take ?cc_law_take ?kk_law_take ?a_law_ops ?l_law_ops ?cc_law_ops ?kk_law_ops ?a_law_word ?l_law_word ?cc_law_word ?kk_law_word ?a_law_row ?l_law_row ?cc_law_row ?kk_law_row ?a_law_signed ?l_law_signed ?cc_law_signed ?kk_law_signed ?a_law_read ?l_law_read ?cc_law_read ?kk_law_read ?a_law_uses ?l_law_uses ?cc_law_uses ?kk_law_uses ?a_law ?l_law ?cc_law ?kk_law ?a_LOW_14 ?a_LOW_18 ?z_abs ?z_bool ?z_int ?z_isinstance ?z_len ?z_list ?z_range ?z_sorted ?z_tuple ?z_zip ?aO ?lO ?zO ?vO ?aF ?lF ?kl ?r_add ?r_sub ?r_mul ?r_and ?r_or ?r_xor ?r_shl ?r_shr ?r_sar ?r_slt ?r_sltu ?r_divu ?r_remu ?r_addi ?r_andi ?r_ori ?r_xori ?r_shli ?r_shri ?r_sari ?r_slti ?r_lui ?r_lw ?r_lb ?r_lbu ?r_sw ?r_sb ?r_beq ?r_bne ?r_blt ?r_bge ?r_bltu ?r_bgeu ?r_jal ?r_jalr ?r_get ?r_put ?r_exit
    (case a_encode => k_is)
    (case l_encode => k_is)
    (case cc_encode => k_is)
    (case kk_encode => k_is)
    (case a_decode => k_is)
    (case l_decode => k_is)
    (case cc_decode => k_is)
    (case kk_decode => k_is)
    (case a_immediate => k_is)
    (case l_immediate => k_is)
    (case cc_immediate => k_is)
    (case kk_immediate => k_is)
    (case a_with_sign => k_is)
    (case l_with_sign => k_is)
    (case cc_with_sign => k_is)
    (case kk_with_sign => k_is)
    (case a_reads => k_is)
    (case l_reads => k_is)
    (case cc_reads => k_is)
    (case kk_reads => k_is)
    (case a_writes => k_is)
    (case l_writes => k_is)
    (case cc_writes => k_is)
    (case kk_writes => k_is)
    (case a_law_draw => k_is)
    (case l_law_draw => k_is)
    (case cc_law_draw => k_is)
    (case kk_law_draw => k_is)
    (case a_law_take => k_is)
    (case l_law_take => k_is)
    (case cc_law_take => k_is)
    (case kk_law_take => k_is)
    (case a_law_ops => k_is)
    (case l_law_ops => k_is)
    (case cc_law_ops => k_is)
    (case kk_law_ops => k_is)
    (case a_law_word => k_is)
    (case l_law_word => k_is)
    (case cc_law_word => k_is)
    (case kk_law_word => k_is)
    (case a_law_row => k_is)
    (case l_law_row => k_is)
    (case cc_law_row => k_is)
    (case kk_law_row => k_is)
    (case a_law_signed => k_is)
    (case l_law_signed => k_is)
    (case cc_law_signed => k_is)
    (case kk_law_signed => k_is)
    (case a_law_read => k_is)
    (case l_law_read => k_is)
    (case cc_law_read => k_is)
    (case kk_law_read => k_is)
    (case a_law_uses => k_is)
    (case l_law_uses => k_is)
    (case cc_law_uses => k_is)
    (case kk_law_uses => k_is)
    (case a_law => k_is)
    (case l_law => k_is)
    (case cc_law => k_is)
    (case kk_law => k_is)
    (case a_LOW_14 => k_is)
    (case a_LOW_18 => k_is)
    (case z_abs => k_is)
    (case z_bool => k_is)
    (case z_int => k_is)
    (case z_isinstance => k_is)
    (case z_len => k_is)
    (case z_list => k_is)
    (case z_range => k_is)
    (case z_sorted => k_is)
    (case z_tuple => k_is)
    (case z_zip => k_is)
    (case aO => k_is)
    (case lO => k_is)
    (case zO => first | (show (38 : Nat) ≤ sizeLine; decide) | decide)
    (case vO => exact .cons ⟨_, rfl⟩ (.cons ⟨_, rfl⟩ (.cons ⟨_, rfl⟩ (.cons ⟨_, rfl⟩ (.cons ⟨_, rfl⟩ (.cons ⟨_, rfl⟩ (.cons ⟨_, rfl⟩ (.cons ⟨_, rfl⟩ (.cons ⟨_, rfl⟩ (.cons ⟨_, rfl⟩ (.cons ⟨_, rfl⟩ (.cons ⟨_, rfl⟩ (.cons ⟨_, rfl⟩ (.cons ⟨_, rfl⟩ (.cons ⟨_, rfl⟩ (.cons ⟨_, rfl⟩ (.cons ⟨_, rfl⟩ (.cons ⟨_, rfl⟩ (.cons ⟨_, rfl⟩ (.cons ⟨_, rfl⟩ (.cons ⟨_, rfl⟩ (.cons ⟨_, rfl⟩ (.cons ⟨_, rfl⟩ (.cons ⟨_, rfl⟩ (.cons ⟨_, rfl⟩ (.cons ⟨_, rfl⟩ (.cons ⟨_, rfl⟩ (.cons ⟨_, rfl⟩ (.cons ⟨_, rfl⟩ (.cons ⟨_, rfl⟩ (.cons ⟨_, rfl⟩ (.cons ⟨_, rfl⟩ (.cons ⟨_, rfl⟩ (.cons ⟨_, rfl⟩ (.cons ⟨_, rfl⟩ (.cons ⟨_, rfl⟩ (.cons ⟨_, rfl⟩ (.cons ⟨_, rfl⟩ (.nil)))))))))))))))))))))))))))))))))))))))
    (case aF => k_is)
    (case lF => k_is)
    (case kl => exact ⟨⟨_, _, rfl, rfl⟩, ⟨_, _, rfl, rfl⟩, ⟨_, _, rfl, rfl⟩, ⟨_, _, rfl, rfl⟩, ⟨_, _, rfl, rfl⟩, ⟨_, _, rfl, rfl⟩, ⟨_, _, rfl, rfl⟩, ⟨_, _, rfl, rfl⟩, ⟨_, _, rfl, rfl⟩, ⟨_, _, rfl, rfl⟩, ⟨_, _, rfl, rfl⟩, ⟨_, _, rfl, rfl⟩, ⟨_, _, rfl, rfl⟩, ⟨_, _, rfl, rfl⟩, ⟨_, _, rfl, rfl⟩, ⟨_, _, rfl, rfl⟩, ⟨_, _, rfl, rfl⟩, ⟨_, _, rfl, rfl⟩, ⟨_, _, rfl, rfl⟩, ⟨_, _, rfl, rfl⟩, ⟨_, _, rfl, rfl⟩, ⟨_, _, rfl, rfl⟩, ⟨_, _, rfl, rfl⟩, ⟨_, _, rfl, rfl⟩, ⟨_, _, rfl, rfl⟩, ⟨_, _, rfl, rfl⟩, ⟨_, _, rfl, rfl⟩, ⟨_, _, rfl, rfl⟩, ⟨_, _, rfl, rfl⟩, ⟨_, _, rfl, rfl⟩, ⟨_, _, rfl, rfl⟩, ⟨_, _, rfl, rfl⟩, ⟨_, _, rfl, rfl⟩, ⟨_, _, rfl, rfl⟩, ⟨_, _, rfl, rfl⟩, ⟨_, _, rfl, rfl⟩, ⟨_, _, rfl, rfl⟩, ⟨_, _, rfl, rfl⟩, trivial⟩)
    (case r_add => k_is)
    (case r_sub => k_is)
    (case r_mul => k_is)
    (case r_and => k_is)
    (case r_or => k_is)
    (case r_xor => k_is)
    (case r_shl => k_is)
    (case r_shr => k_is)
    (case r_sar => k_is)
    (case r_slt => k_is)
    (case r_sltu => k_is)
    (case r_divu => k_is)
    (case r_remu => k_is)
    (case r_addi => k_is)
    (case r_andi => k_is)
    (case r_ori => k_is)
    (case r_xori => k_is)
    (case r_shli => k_is)
    (case r_shri => k_is)
    (case r_sari => k_is)
    (case r_slti => k_is)
    (case r_lui => k_is)
    (case r_lw => k_is)
    (case r_lb => k_is)
    (case r_lbu => k_is)
    (case r_sw => k_is)
    (case r_sb => k_is)
    (case r_beq => k_is)
    (case r_bne => k_is)
    (case r_blt => k_is)
    (case r_bge => k_is)
    (case r_bltu => k_is)
    (case r_bgeu => k_is)
    (case r_jal => k_is)
    (case r_jalr => k_is)
    (case r_get => k_is)
    (case r_put => k_is)
    (case r_exit => k_is)


