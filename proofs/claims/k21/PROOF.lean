import PyProof.Rows.All
import Wide.All
import OpenK.AllK
import Wide.FinOn
import HandS.ForMost
import HandS.Wide
import HandS.Style
import HandS.Small
import HandS.TupAny
import HandS.IsInst
import HandS.CallLocal
import HandS.Evl
import HandS.More
import HandS.WrittenGet
import HandS.SetBool
import HandS.Strs
import HandS.Zip
import HandS.Star
import KE.GoesZip
import KE.GoesMore
import PyProof.EnumMake
import PyProof.WalksEnum
import PyProof.ReprRoads
import PyProof.ReprLen
import HandS.SetFor
import KE.DataMinMax
import PyProof.Rows.SortShellAny
import HandS.WideBits
import PySem.Challenge.RW_restitch_k21_results_and_decided_branche
set_option Elab.async false
set_option linter.all false
set_option maxRecDepth 100000
set_option maxHeartbeats 4000000
namespace Co
open PySem PySem.Spec PyProof.Rows L2
def rIntQ : List V → Hp → VK → Prop := fun xs H Q => (∃ i, xs = [.int i] ∧ Q (.int i) H) ∨ ∃ k, xs = [.bl k] ∧ Q (.int (if k then 1 else 0)) H
theorem call_intQ {X : Cx} : CallR X (.type "int") rIntQ := call_int1
def rAbsQ : List V → Hp → VK → Prop := fun xs H Q => ∃ i, xs = [.int i] ∧ Q (.int (if i < 0 then -i else i)) H
theorem call_absQ {X : Cx} : CallR X (.builtin "abs") rAbsQ := call_abs
def rLenQ (K : PySem.W.Frag) : List V → Hp → VK → Prop := fun xs H Q => ∃ p ys, xs = [.ref p] ∧ (SqL K H p ys ∨ SqT K H p ys) ∧ Q (.int (ys.length : Int)) H
theorem call_lenQ {X : Cx} : CallR X (.builtin "len") (rLenQ X.K) := call_len_seq
structure Cd (P : Program) (w : World) (K : PySem.W.Frag) (mg : Str → Option Value) (base : Heap) (k : Nat) (x : Str) (sp : Sp) : Prop where
  ex : ∃ (f : Addr) (fd : FuncData) (ps : List Str), FnOk P w K mg base CX0 k f fd ps sp ∧ mg x = some (.ref f) ∧ PySem.W.keepIn K (.ref f) = true ∧ Binds K fd ps []
def GV (mg : Str → Option Value) (x : Str) (v : V) : Prop := ∃ u, mg x = some u ∧ RelV v u
def tC1 (sp : Sp) (t : TA) : TE := fun σ H Q => t σ H fun vs H1 => sp vs H1 Q E0
section
variable {X : Cx} {k j : Nat} {x : Str} {sp : Sp} {p pos : Pos} {e : Expr} {es : List Expr} {t : TA}
theorem pe_gv {v : V} (hg : Gl X x) (h : GV X.mg x v) (hd : (x == ("__debug__" : Str)) = false := by decide) : PE X (.Name x pos) (tC v) := by
  obtain ⟨u, hm, r⟩ := h
  exact pe_glob hg hm r hd
theorem pe_cd (c : Cd X.prog X.w X.K X.mg X.base k x sp) (hr : Room j X.A) (hk : k ≤ j) (hg : Gl X x) (ha : PA X (e :: es) t)
    (hdb : (x == ("__debug__" : Str)) = false := by decide) (he : starEach (e :: es) X.env = (false, eval e X.env) :: starEach es X.env := by rfl) (hpl : (backTo pos (starEach es X.env)).any (·.1) = false := by rfl) :
    PE X (.Call (.Name x p) (e :: es) [] pos) (tC1 sp t) := by
  obtain ⟨f, fd, ps, F, hm, kp, b⟩ := c.ex
  have z := pe_call (dvs := []) (pos := pos) (p := p) F (hr.mono hk) hg hm kp b .nil pass0 ha hdb he hpl
  refine ⟨fun pins s σ H Q I h => z.run pins s σ H Q I ?_⟩
  show t σ H fun vs H1 => sp (vs ++ []) H1 Q E0
  simp only [List.append_nil]
  exact h
theorem pe_cd0 (c : Cd X.prog X.w X.K X.mg X.base k x sp) (hr : Room j X.A) (hk : k ≤ j) (hg : Gl X x)
    (hdb : (x == ("__debug__" : Str)) = false := by decide) :
    PE X (.Call (.Name x p) [] [] pos) (tC1 sp tNil) := by
  obtain ⟨f, fd, ps, F, hm, kp, b⟩ := c.ex
  exact pe_call0 (dvs := []) (pos := pos) (p := p) F (hr.mono hk) hg hm kp b .nil pass0 hdb
end

/-! ### readings, step by step, from behind -/
def kTup (Q : VK) : List V → Hp → Prop := fun xs H1 => xs.length ≤ sizeLine ∧ ∀ p, H1 p = none → Q (.ref p) (upd H1 p (.tup xs))
def kLst (Q : VK) : List V → Hp → Prop := fun xs H1 => xs.length ≤ sizeLine ∧ ∀ p, H1 p = none → Q (.ref p) (upd H1 p (.lst xs))
def kFor (g : TG) (tb : TS) (D : Ends) (σ : L2.St) : It → Hp → Prop := fun J H1 => ∃ W : Nat → Nat → L2.St → Hp → Prop, (∃ m, W 0 m σ H1) ∧ ∀ i m σ H, W i m σ H →
  (J.stop i H ∧ D.nx σ H) ∨ (J.go i H ∧ ∃ N : L2.St → Hp → Prop, (∀ σ' H', N σ' H' → ∃ m', m' < m ∧ W (i + 1) m' σ' H') ∧ ∀ x H', J.yld i H x H' → g x σ H' fun σ2 H2 => tb { D with nx := N, ct := N, bk := D.nx } σ2 H2)
def kIL (K : PySem.W.Frag) (R : It → Hp → Prop) : V → Hp → Prop := fun x H1 => ∃ a, x = .ref a ∧ (∃ xs, SqL K H1 a xs) ∧ R (Itl K a) H1
def kIT (K : PySem.W.Frag) (R : It → Hp → Prop) : V → Hp → Prop := fun x H1 => ∃ a, x = .ref a ∧ (∃ xs, SqT K H1 a xs) ∧ R (Itt K a) H1
def kR1 (R : It → Hp → Prop) : List V → Hp → Prop := fun vs H1 => ∃ j : Int, vs = [.int j] ∧ -(2 ^ 62) ≤ j ∧ j < 2 ^ 62 ∧ R (Itr 0 j.toNat) H1
def kR2 (R : It → Hp → Prop) : List V → Hp → Prop := fun vs H1 => ∃ i j : Int, vs = [.int i, .int j] ∧ (-(2 ^ 62) ≤ i ∧ i < 2 ^ 62 ∧ -(2 ^ 62) ≤ j ∧ j < 2 ^ 62) ∧ R (Itr i (j - i).toNat) H1
def kLc (g : TG) (tt : TT) (te : TE) (vs : List Nat) (σ : L2.St) (Q : VK) : It → Hp → Prop := fun J H1 => ∀ D, H1 D = none → ∃ W : Nat → Nat → Hp → Prop, (∃ m, W 0 m (upd H1 D (.lst []))) ∧ ∀ i m H, W i m H →
  (J.stop i H ∧ Q (.ref D) H) ∨ (J.go i H ∧ ∃ Nx : Hp → Prop, (∀ H', Nx H' → ∃ m', m' < m ∧ W (i + 1) m' H') ∧ ∀ x H', J.yld i H x H' → g x (wipe σ vs) H' fun σ2 H2 => wipe σ2 vs = wipe σ vs ∧ tt σ2 H2 fun b H3 =>
    if b = true then te σ2 H3 fun y H4 => ∃ acc, H4 D = some (.lst acc) ∧ acc.length < sizeLine ∧ Nx (upd H4 D (.lst (acc ++ [y]))) else Nx H3)
section
variable {σ : L2.St} {H : Hp} {Q : VK} {D : Ends} {ta tb te : TE} {tt tu : TT} {t u : TS} {g : TG} {v x y : V} {i j : Int} {n : Nat} {E : XK}
theorem w_var (h : σ[n]? = some (some v)) (q : Q v H) : tVar n σ H Q := ⟨v, h, q⟩
theorem w_c (q : Q v H) : tC v σ H Q := q
theorem w_op {r : R2} (q : ta σ H fun x H1 => tb σ H1 fun y H2 => r x y H2 Q) : tOp r ta tb σ H Q := q
theorem w_un {r : V → Hp → VK → Prop} (q : ta σ H fun x H1 => r x H1 Q) : tUn r ta σ H Q := q
theorem w_I0 {f : Int → Int → V} (q : Q (f i j) H) : rI0 f (.int i) (.int j) H Q := ⟨i, j, rfl, rfl, q⟩
theorem w_I {C : Int → Int → Prop} {f : Int → Int → V} (c : C i j) (q : Q (f i j) H) : rI C f (.int i) (.int j) H Q := ⟨i, j, rfl, rfl, c, q⟩
theorem w_U {f : Int → V} (q : Q (f i) H) : rU f (.int i) H Q := ⟨i, rfl, q⟩
theorem w_eq (h : scal x y = true) (q : Q (.bl (decide (x = y))) H) : rEq x y H Q := ⟨h, q⟩
theorem w_ne (h : scal x y = true) (q : Q (.bl (!decide (x = y))) H) : rNe x y H Q := ⟨h, q⟩
theorem w_eqI (q : Q (.bl (decide (i = j))) H) : rEq (.int i) (.int j) H Q := ⟨rfl, by
  have e : (decide (V.int i = V.int j)) = decide (i = j) := by
    by_cases h : i = j
    · subst h; simp
    · rw [decide_eq_false h, decide_eq_false (fun z => h (V.int.inj z))]
  rw [e]; exact q⟩
theorem w_neI (q : Q (.bl (!decide (i = j))) H) : rNe (.int i) (.int j) H Q := ⟨rfl, by
  have e : (decide (V.int i = V.int j)) = decide (i = j) := by
    by_cases h : i = j
    · subst h; simp
    · rw [decide_eq_false h, decide_eq_false (fun z => h (V.int.inj z))]
  rw [e]; exact q⟩
theorem w_test {Q : Bool → Hp → Prop} (q : ta σ H fun x H' => ∃ k, x = .bl k ∧ Q k H') : tTest ta σ H Q := q
theorem w_B {Q : Bool → Hp → Prop} (q : ta σ H fun x H' => ∃ k, x = .bl k ∧ Q k H') : tB ta σ H Q := q
theorem w_bl {b : Bool} {Q : Bool → Prop} (q : Q b) : ∃ k, V.bl b = .bl k ∧ Q k := ⟨b, rfl, q⟩
theorem w_if (q : tt σ H fun c H1 => if c = true then ta σ H1 Q else tb σ H1 Q) : tIf tt ta tb σ H Q := q
theorem w_andT {Q : Bool → Hp → Prop} (q : tt σ H fun c H1 => if c = true then tu σ H1 Q else Q false H1) : tAnd tt tu σ H Q := q
theorem w_orT {Q : Bool → Hp → Prop} (q : tt σ H fun c H1 => if c = true then Q true H1 else tu σ H1 Q) : tOr tt tu σ H Q := q
theorem w_notT {Q : Bool → Hp → Prop} (q : tt σ H fun c H1 => Q (!c) H1) : tNot tt σ H Q := q
theorem w_andV (q : ta σ H fun x H1 => ∃ c, x = .bl c ∧ if c = true then tb σ H1 Q else Q (.bl false) H1) : tAndV ta tb σ H Q := q
theorem w_orV (q : ta σ H fun x H1 => ∃ c, x = .bl c ∧ if c = true then Q (.bl true) H1 else tb σ H1 Q) : tOrV ta tb σ H Q := q
theorem w_notV (q : ta σ H fun x H1 => ∃ c, x = .bl c ∧ Q (.bl (!c)) H1) : tNotV ta σ H Q := q
theorem w_chain {r r' : R2} {tc : TE} (q : ta σ H fun x H1 => tb σ H1 fun y H2 => r x y H2 fun z H3 => ∃ k, z = .bl k ∧ if k = true then tc σ H3 fun c H4 => r' y c H4 Q else Q (.bl false) H3) : tChain r r' ta tb tc σ H Q := q
theorem w_seq (q : t { D with nx := u D } σ H) : tSeq t u D σ H := q
theorem w_next (q : D.nx σ H) : tNext D σ H := q
theorem w_ret (q : te σ H D.rt) : tRet te D σ H := q
theorem w_retN (q : D.rt .non H) : tRetN D σ H := q
theorem w_ifS (q : tt σ H fun b H1 => if b = true then t D σ H1 else u D σ H1) : tIfS tt t u D σ H := q
theorem w_asg (q : te σ H fun x H1 => g x σ H1 D.nx) : tAsg te g D σ H := q
theorem w_name {Q : L2.St → Hp → Prop} (q : Q (σ.set n (some v)) H) : gName n v σ H Q := q
theorem w_drop (q : te σ H fun _ H1 => D.nx σ H1) : tDrop te D σ H := q
theorem w_nil {Q : List V → Hp → Prop} (q : Q [] H) : tNil σ H Q := q
theorem w_cons {ta : TE} {tr : TA} {Q : List V → Hp → Prop} (q : ta σ H fun x H1 => tr σ H1 fun xs H2 => Q (x :: xs) H2) : tCons ta tr σ H Q := q
theorem w_call {sp : Sp} {t : TA} (q : t σ H fun vs H1 => sp vs H1 Q E0) : tC1 sp t σ H Q := q
theorem w_cb {r : List V → Hp → VK → Prop} {t : TA} (q : t σ H fun vs H1 => r vs H1 Q) : tCB r t σ H Q := q
theorem w_dec {c : Prop} [Decidable c] {A B : Prop} (h1 : c → A) (h2 : ¬ c → B) : if decide c = true then A else B := by
  by_cases h : c
  · rw [if_pos (decide_eq_true h)]; exact h1 h
  · rw [if_neg (by rw [decide_eq_false h]; exact Bool.false_ne_true)]; exact h2 h
theorem w_ndec {c : Prop} [Decidable c] {A B : Prop} (h1 : ¬ c → A) (h2 : c → B) : if (!decide c) = true then A else B := by
  by_cases h : c
  · rw [if_neg (by rw [decide_eq_true h]; decide)]; exact h2 h
  · rw [if_pos (by rw [decide_eq_false h]; decide)]; exact h1 h
theorem w_itT {A B : Prop} (h : A) : if true = true then A else B := iteT h
theorem w_itF {A B : Prop} (h : B) : if false = true then A else B := iteF h
theorem w_bool {b : Bool} {A B : Prop} (h1 : b = true → A) (h2 : b = false → B) : if b = true then A else B := by
  cases b
  · exact iteF (h2 rfl)
  · exact iteT (h1 rfl)
theorem w_tup {ta : TA} (q : ta σ H (kTup Q)) : tTup ta σ H Q := q
theorem w_lst {ta : TA} (q : ta σ H (kLst Q)) : tLst ta σ H Q := q
theorem w_kTup {xs : List V} (h : xs.length ≤ sizeLine) (q : ∀ p H', H p = none → Same H H' → H' p = some (.tup xs) → Q (.ref p) H') : kTup Q xs H := ⟨h, fun p np => q p _ np (fun b x e => by rw [upd_ne (ne_of_none e np)]; exact e) upd_same⟩
theorem w_kLst {xs : List V} (h : xs.length ≤ sizeLine) (q : ∀ p H', H p = none → Same H H' → H' p = some (.lst xs) → Q (.ref p) H') : kLst Q xs H := ⟨h, fun p np => q p _ np (fun b x e => by rw [upd_ne (ne_of_none e np)]; exact e) upd_same⟩
end
section
variable {K : PySem.W.Frag} {σ : L2.St} {H : Hp} {Q : VK} {p : Addr} {xs : List V} {i : Int} {v x : V} {n : Nat}
theorem w_ixL (h : H p = some (.lst xs)) (ha : atI xs i = some v) (q : Q v H) : rIxL K (.ref p) (.int i) H Q := ⟨p, xs, i, v, rfl, rfl, .inl (.inl h), ha, q⟩
theorem w_ixLs (h : SqL K H p xs) (ha : atI xs i = some v) (q : Q v H) : rIxL K (.ref p) (.int i) H Q := ⟨p, xs, i, v, rfl, rfl, h, ha, q⟩
theorem w_ixT (h : H p = some (.tup xs)) (ha : atI xs i = some v) (q : Q v H) : rIxT K (.ref p) (.int i) H Q := ⟨p, xs, i, v, rfl, rfl, .inl (.inl h), ha, q⟩
theorem w_ixTs (h : SqT K H p xs) (ha : atI xs i = some v) (q : Q v H) : rIxT K (.ref p) (.int i) H Q := ⟨p, xs, i, v, rfl, rfl, h, ha, q⟩
theorem w_sub {to ti : TE} {t : TSet} {Q : L2.St → Hp → Prop} (q : to σ H fun o H1 => ti σ H1 fun i H2 => t o i v H2 fun H3 => Q σ H3) : gSub to ti t v σ H Q := q
theorem w_lenL (h : H p = some (.lst xs)) (q : Q (.int (xs.length : Int)) H) : rLenQ K [.ref p] H Q := ⟨p, xs, rfl, .inl (.inl (.inl h)), q⟩
theorem w_lenLs (h : SqL K H p xs) (q : Q (.int (xs.length : Int)) H) : rLenQ K [.ref p] H Q := ⟨p, xs, rfl, .inl h, q⟩
theorem w_lenT (h : H p = some (.tup xs)) (q : Q (.int (xs.length : Int)) H) : rLenQ K [.ref p] H Q := ⟨p, xs, rfl, .inr (.inl (.inl h)), q⟩
theorem w_int1 (q : Q (.int i) H) : rIntQ [.int i] H Q := .inl ⟨i, rfl, q⟩
theorem w_abs (q : Q (.int (if i < 0 then -i else i)) H) : rAbsQ [.int i] H Q := ⟨i, rfl, q⟩
theorem ixN_lit {n : Nat} {j : Nat} (h : j < n) : ixN n (j : Int) = some j := by
  unfold ixN
  rw [if_pos (Int.natCast_nonneg _), if_pos (by omega)]
  simp
theorem atI_of {α : Type} {xs : List α} {i : Int} {v : α} (h0 : 0 ≤ i) (h : xs[i.toNat]? = some v) : atI xs i = some v := by
  have e : ((i.toNat : Nat) : Int) = i := Int.toNat_of_nonneg h0
  have z := atI_nat (j := i.toNat) h
  rw [e] at z
  exact z
end
section
variable {K : PySem.W.Frag} {σ : L2.St} {H : Hp} {D : Ends} {g : TG} {tb : TS} {wi : TI} {tl : TE} {R : It → Hp → Prop}
theorem w_for (q : wi σ H (kFor g tb D σ)) : tFor wi g tb D σ H := q
theorem w_iL (q : tl σ H (kIL K R)) : iList K tl σ H R := q
theorem w_iT (q : tl σ H (kIT K R)) : iTup K tl σ H R := q
theorem w_rng1 {ta : TA} (q : ta σ H (kR1 R)) : iRng1 ta σ H R := q
theorem w_rng2 {ta : TA} (q : ta σ H (kR2 R)) : iRng2 ta σ H R := q
theorem w_kR1 {j : Int} (h0 : -(2 ^ 62) ≤ j) (h1 : j < 2 ^ 62) (q : R (Itr 0 j.toNat) H) : kR1 R [.int j] H := ⟨j, rfl, h0, h1, q⟩
theorem w_forL {a : Addr} (xs : List V) (Pv : Nat → L2.St → Hp → Prop) (hS : SqL K H a xs) (h0 : Pv 0 σ H) (hl : ∀ i σ H, i ≤ xs.length → Pv i σ H → SqL K H a xs)
    (hs : ∀ i x σ H, xs[i]? = some x → Pv i σ H → g x σ H fun σ2 H2 => tb { D with nx := Pv (i + 1), ct := Pv (i + 1), bk := D.nx } σ2 H2) (hd : ∀ σ H, Pv xs.length σ H → D.nx σ H) : kIL K (kFor g tb D σ) (.ref a) H :=
  ⟨a, rfl, ⟨_, hS⟩, for_list (K := K) (a := a) (xs := xs) Pv h0 hl hs hd⟩
theorem w_forT {a : Addr} (xs : List V) (Pv : Nat → L2.St → Hp → Prop) (hS : SqT K H a xs) (h0 : Pv 0 σ H) (hl : ∀ i σ H, i ≤ xs.length → Pv i σ H → SqT K H a xs)
    (hs : ∀ i x σ H, xs[i]? = some x → Pv i σ H → g x σ H fun σ2 H2 => tb { D with nx := Pv (i + 1), ct := Pv (i + 1), bk := D.nx } σ2 H2) (hd : ∀ σ H, Pv xs.length σ H → D.nx σ H) : kIT K (kFor g tb D σ) (.ref a) H :=
  ⟨a, rfl, ⟨_, hS⟩, for_tup (K := K) (a := a) (xs := xs) Pv h0 hl hs hd⟩
theorem w_forR {j : Int} (n : Nat) (Pv : Nat → L2.St → Hp → Prop) (hn : j.toNat = n) (hj : n < 4611686018427387904 ∧ -4611686018427387904 ≤ j) (h0 : Pv 0 σ H)
    (hs : ∀ i σ H, i < n → Pv i σ H → g (.int (i : Int)) σ H fun σ2 H2 => tb { D with nx := Pv (i + 1), ct := Pv (i + 1), bk := D.nx } σ2 H2) (hd : ∀ σ H, Pv n σ H → D.nx σ H) : kR1 (kFor g tb D σ) [.int j] H := by
  refine ⟨j, rfl, by show -4611686018427387904 ≤ j; omega, by show j < 4611686018427387904; omega, ?_⟩
  subst hn
  refine for_range (lo := 0) (n := j.toNat) Pv h0 (fun i σ H hi p => ?_) hd
  rw [Int.zero_add]
  exact hs i σ H hi p
theorem w_yes {Q : Bool → Hp → Prop} (q : Q true H) : tYes σ H Q := q
theorem w_lc {tt : TT} {te : TE} {vs : List Nat} {Q : VK} (q : wi σ H (kLc g tt te vs σ Q)) : tLc wi g tt te vs σ H Q := q
theorem w_lcL {tt : TT} {te : TE} {vs : List Nat} {Q : VK} {a : Addr} (xs : List V) (Pv : Addr → Nat → Hp → Prop) (hS : SqL K H a xs) (h0 : ∀ D, H D = none → Pv D 0 (upd H D (.lst []))) (hl : ∀ D i H, i ≤ xs.length → Pv D i H → SqL K H a xs)
    (hs : ∀ D i x H, xs[i]? = some x → Pv D i H → g x (wipe σ vs) H fun σ2 H2 => wipe σ2 vs = wipe σ vs ∧ tt σ2 H2 fun b H3 =>
      if b = true then te σ2 H3 fun y H4 => ∃ acc, H4 D = some (.lst acc) ∧ acc.length < sizeLine ∧ Pv D (i + 1) (upd H4 D (.lst (acc ++ [y]))) else Pv D (i + 1) H3) (hd : ∀ D H', H D = none → Pv D xs.length H' → Q (.ref D) H') : kIL K (kLc g tt te vs σ Q) (.ref a) H :=
  ⟨a, rfl, ⟨_, hS⟩, fun D nD => lc_list (K := K) (a := a) (xs := xs) (Pv D) (h0 D nD) (hl D) (hs D) (fun H' p => hd D H' nD p)⟩
theorem w_lcT {tt : TT} {te : TE} {vs : List Nat} {Q : VK} {a : Addr} (xs : List V) (Pv : Addr → Nat → Hp → Prop) (hS : SqT K H a xs) (h0 : ∀ D, H D = none → Pv D 0 (upd H D (.lst []))) (hl : ∀ D i H, i ≤ xs.length → Pv D i H → SqT K H a xs)
    (hs : ∀ D i x H, xs[i]? = some x → Pv D i H → g x (wipe σ vs) H fun σ2 H2 => wipe σ2 vs = wipe σ vs ∧ tt σ2 H2 fun b H3 =>
      if b = true then te σ2 H3 fun y H4 => ∃ acc, H4 D = some (.lst acc) ∧ acc.length < sizeLine ∧ Pv D (i + 1) (upd H4 D (.lst (acc ++ [y]))) else Pv D (i + 1) H3) (hd : ∀ D H', H D = none → Pv D xs.length H' → Q (.ref D) H') : kIT K (kLc g tt te vs σ Q) (.ref a) H :=
  ⟨a, rfl, ⟨_, hS⟩, fun D nD => lc_tup (K := K) (a := a) (xs := xs) (Pv D) (h0 D nD) (hl D) (hs D) (fun H' p => hd D H' nD p)⟩
theorem w_lcR {tt : TT} {te : TE} {vs : List Nat} {Q : VK} {j : Int} (n : Nat) (Pv : Addr → Nat → Hp → Prop) (hn : j.toNat = n) (hj : n < 4611686018427387904 ∧ -4611686018427387904 ≤ j) (h0 : ∀ D, H D = none → Pv D 0 (upd H D (.lst [])))
    (hs : ∀ D i H, i < n → Pv D i H → g (.int (i : Int)) (wipe σ vs) H fun σ2 H2 => wipe σ2 vs = wipe σ vs ∧ tt σ2 H2 fun b H3 =>
      if b = true then te σ2 H3 fun y H4 => ∃ acc, H4 D = some (.lst acc) ∧ acc.length < sizeLine ∧ Pv D (i + 1) (upd H4 D (.lst (acc ++ [y]))) else Pv D (i + 1) H3) (hd : ∀ D H', H D = none → Pv D n H' → Q (.ref D) H') : kR1 (kLc g tt te vs σ Q) [.int j] H := by
  refine ⟨j, rfl, by show -4611686018427387904 ≤ j; omega, by show j < 4611686018427387904; omega, ?_⟩
  subst hn
  refine fun D nD => lc_range (lo := 0) (n := j.toNat) (Pv D) (h0 D nD) (fun i H hi p => ?_) (fun H' p => hd D H' nD p)
  rw [Int.zero_add]
  exact hs D i H hi p
end
theorem take_more {α : Type} : ∀ {l : List α} {i : Nat} {x : α}, l[i]? = some x → l.take (i + 1) = l.take i ++ [x]
  | [], i, x, h => by simp at h
  | a :: l, 0, x, h => by
    have e : a = x := Option.some.inj h
    subst e
    rfl
  | a :: l, i + 1, x, h => by
    have ih := take_more (l := l) (i := i) (x := x) h
    show a :: l.take (i + 1) = a :: l.take i ++ [x]
    rw [ih]
    rfl
theorem map_get {ns : List Int} {i : Nat} {x : V} (h : (ns.map V.int)[i]? = some x) : ∃ n, ns[i]? = some n ∧ x = .int n := by
  rw [List.getElem?_map] at h
  cases e : ns[i]? with
  | none => rw [e] at h; cases h
  | some z => rw [e] at h; exact ⟨z, rfl, (Option.some.inj h).symm⟩
theorem w_p32 {H : Hp} {Q : VK} (q : Q (.int 4294967296) H) : rI CPow (fun i j => .int (i ^ j.toNat)) (.int 2) (.int 32) H Q := ⟨2, 32, rfl, rfl, ⟨by decide, by decide, by decide⟩, q⟩
theorem w_p31 {H : Hp} {Q : VK} (q : Q (.int 2147483648) H) : rI CPow (fun i j => .int (i ^ j.toNat)) (.int 2) (.int 31) H Q := ⟨2, 31, rfl, rfl, ⟨by decide, by decide, by decide⟩, q⟩
theorem w_p26 {H : Hp} {Q : VK} (q : Q (.int 67108864) H) : rI CPow (fun i j => .int (i ^ j.toNat)) (.int 2) (.int 26) H Q := ⟨2, 26, rfl, rfl, ⟨by decide, by decide, by decide⟩, q⟩
theorem w_p22 {H : Hp} {Q : VK} (q : Q (.int 4194304) H) : rI CPow (fun i j => .int (i ^ j.toNat)) (.int 2) (.int 22) H Q := ⟨2, 22, rfl, rfl, ⟨by decide, by decide, by decide⟩, q⟩
theorem w_p20 {H : Hp} {Q : VK} (q : Q (.int 1048576) H) : rI CPow (fun i j => .int (i ^ j.toNat)) (.int 2) (.int 20) H Q := ⟨2, 20, rfl, rfl, ⟨by decide, by decide, by decide⟩, q⟩
theorem w_p18 {H : Hp} {Q : VK} (q : Q (.int 262144) H) : rI CPow (fun i j => .int (i ^ j.toNat)) (.int 2) (.int 18) H Q := ⟨2, 18, rfl, rfl, ⟨by decide, by decide, by decide⟩, q⟩
theorem w_p17 {H : Hp} {Q : VK} (q : Q (.int 131072) H) : rI CPow (fun i j => .int (i ^ j.toNat)) (.int 2) (.int 17) H Q := ⟨2, 17, rfl, rfl, ⟨by decide, by decide, by decide⟩, q⟩
theorem w_p16 {H : Hp} {Q : VK} (q : Q (.int 65536) H) : rI CPow (fun i j => .int (i ^ j.toNat)) (.int 2) (.int 16) H Q := ⟨2, 16, rfl, rfl, ⟨by decide, by decide, by decide⟩, q⟩
theorem w_p14 {H : Hp} {Q : VK} (q : Q (.int 16384) H) : rI CPow (fun i j => .int (i ^ j.toNat)) (.int 2) (.int 14) H Q := ⟨2, 14, rfl, rfl, ⟨by decide, by decide, by decide⟩, q⟩
theorem w_p13 {H : Hp} {Q : VK} (q : Q (.int 8192) H) : rI CPow (fun i j => .int (i ^ j.toNat)) (.int 2) (.int 13) H Q := ⟨2, 13, rfl, rfl, ⟨by decide, by decide, by decide⟩, q⟩
/-- all but d stays -/
def But (d : Addr) (H H' : Hp) : Prop := ∀ b o, b ≠ d → H b = some o → H' b = some o
theorem But.refl (d : Addr) (H : Hp) : But d H H := fun _ _ _ h => h
theorem But.trans {d : Addr} {H H1 H2 : Hp} (a : But d H H1) (b : But d H1 H2) : But d H H2 := fun c o n h => b c o n (a c o n h)
theorem But.of {d : Addr} {H H' : Hp} (s : Same H H') : But d H H' := fun b o _ h => s b o h
theorem But.set {d : Addr} {H : Hp} {o : HO} : But d H (upd H d o) := fun b u n h => by rw [upd_ne n]; exact h
theorem But.tup {d : Addr} {H H' : Hp} {xs ys : List V} {a : Addr} (b : But d H H') (hd : H d = some (.lst ys)) (h : H a = some (.tup xs)) : H' a = some (.tup xs) := b a _ (ne_of h hd (by intro z; cases z)) h
theorem Same.new {H : Hp} {p : Addr} {o : HO} (h : H p = none) : Same H (upd H p o) := fun b x e => by rw [upd_ne (ne_of_none e h)]; exact e
theorem But.new {d : Addr} {H : Hp} {p : Addr} {o : HO} (h : H p = none) : But d H (upd H p o) := .of (Same.new h)
theorem w_setL {p : Addr} {xs : List V} {i : Int} {v : V} {H : Hp} {j : Nat} {Q : Hp → Prop} (h : H p = some (.lst xs)) (hj : ixN xs.length i = some j) (q : ∀ H', H' p = some (.lst (xs.set j v)) → But p H H' → Q H') : rSetL (.ref p) (.int i) v H Q := ⟨p, xs, i, j, rfl, rfl, h, hj, q _ upd_same But.set⟩
section
variable {X : Cx} {k i : Nat} {x : Str} {p pos : Pos} {e : Expr} {es : List Expr} {t : TA}
/-- a local that holds a def, called -/
def tCallZ (P : Program) (w : World) (K : PySem.W.Frag) (mg : Str → Option Value) (base : Heap) (k i : Nat) (t : TA) : TE := fun σ H Q => ∃ f sp, σ[i]? = some (some (.ref f)) ∧ Held P w K mg base k f sp ∧ t σ H fun vs H1 => sp vs H1 Q E0
theorem pe_callZ (hr : Room k X.A) (hN : X.N[i]? = some x) (hv : Vis X.env.scope x) (ha : PA X (e :: es) t)
    (hdb : (x == ("__debug__" : Str)) = false := by decide) (hcd : (x == ("__classdict__" : Str)) = false := by decide)
    (he : starEach (e :: es) X.env = (false, eval e X.env) :: starEach es X.env := by rfl) (hpl : (backTo pos (starEach es X.env)).any (·.1) = false := by rfl) : PE X (.Call (.Name x p) (e :: es) [] pos) (tCallZ X.prog X.w X.K X.mg X.base k i t) := by
  refine ⟨fun pins s σ H Q I h => ?_⟩
  obtain ⟨f, sp, hs, hd, ht⟩ := h
  obtain ⟨fd, ps, F, hk, hb⟩ := hd.ex
  refine (pe_callL (i := i) (f := f) (sp := sp) (dvs := []) (E := E0) F hr hN hv hk hb .nil pass0 ha hdb hcd he hpl).run pins s σ H Q I ⟨hs, ?_⟩
  show t σ H (fun vs H1 => sp (vs ++ []) H1 Q E0)
  simp only [List.append_nil]
  exact ht
end
theorem w_callZ {P : Program} {w : World} {K : PySem.W.Frag} {mg : Str → Option Value} {base : Heap} {k i : Nat} {t : TA} {σ : L2.St} {H : Hp} {Q : VK} {f : Addr} {sp : Sp} (hs : σ[i]? = some (some (.ref f))) (h : Held P w K mg base k f sp) (q : t σ H fun vs H1 => sp vs H1 Q E0) : tCallZ P w K mg base k i t σ H Q := ⟨f, sp, hs, h, q⟩
theorem w_ixD {K : PySem.W.Frag} {w : World} {p : Addr} {z : Str} {v : V} {H : Hp} {Q : VK} (h : KDct K w p z v) (q : Q v H) : rIxD K w (.ref p) (.str z) H Q := ⟨p, z, v, rfl, rfl, h, q⟩
theorem w_eqS {a b : Str} {H : Hp} {Q : VK} (q : Q (.bl (decide (a = b))) H) : rEq (.str a) (.str b) H Q := ⟨rfl, by
  have e : (decide (V.str a = V.str b)) = decide (a = b) := by
    by_cases h : a = b
    · subst h; simp
    · rw [decide_eq_false h, decide_eq_false (fun z => h (V.str.inj z))]
  rw [e]; exact q⟩
theorem w_decT {c : Prop} [Decidable c] {A B : Prop} (h : c) (q : A) : if decide c = true then A else B := by
  rw [if_pos (decide_eq_true h)]; exact q
theorem w_decF {c : Prop} [Decidable c] {A B : Prop} (h : ¬ c) (q : B) : if decide c = true then A else B := by
  rw [if_neg (by rw [decide_eq_false h]; exact Bool.false_ne_true)]; exact q
theorem w_inL {K : PySem.W.Frag} {x : V} {p : Addr} {xs : List V} {H : Hp} {Q : VK} {b : Bool} (h : H p = some (.lst xs)) (hx : flatV x = true) (ha : xs.all flatV = true) (hb : inV x xs = b) (q : Q (.bl b) H) : rIn K false x (.ref p) H Q := ⟨p, xs, rfl, .inl (.inl (.inl h)), hx, ha, by rw [hb]; exact q⟩
def rAddSQ : R2 := fun x y H Q => ∃ i j, x = .str i ∧ y = .str j ∧ i.length + j.length ≤ sizeLine ∧ Q (.str (i ++ j)) H
theorem op_addSQ {X : Cx} : OpR X (binaryOp .Add) rAddSQ := op_add_str
theorem w_addS {a b : Str} {H : Hp} {Q : VK} (h : a.length + b.length ≤ sizeLine) (q : Q (.str (a ++ b)) H) : rAddSQ (.str a) (.str b) H Q := ⟨a, b, rfl, rfl, h, q⟩
section
variable {X : Cx} {c a b : Expr} {tc ta tb : TT} {pos : Pos}
/-- a if c else b, as a test -/
def tIfB (tc ta tb : TT) : TT := fun σ H Q => tc σ H fun k H1 => if k = true then ta σ H1 Q else tb σ H1 Q
theorem pt_ifExp (hc : PT X c tc) (ha : PT X a ta) (hb : PT X b tb) : PT X (.IfExp c a b pos) (tIfB tc ta tb) := by
  refine ⟨fun pins s σ H Q I h => ?_⟩
  refine isTrue_IfExp (thn (hc.run pins s σ H _ I h) fun k s1 ⟨H1, I1, q⟩ => ?_)
  cases k with
  | true => exact ha.run pins s1 σ H1 Q I1 (by simpa using q)
  | false => exact hb.run pins s1 σ H1 Q I1 (by simpa using q)
theorem w_ifB {σ : L2.St} {H : Hp} {Q : Bool → Hp → Prop} (q : tc σ H fun k H1 => if k = true then ta σ H1 Q else tb σ H1 Q) : tIfB tc ta tb σ H Q := q
end
theorem w_gTup {K : PySem.W.Frag} {n : Nat} {t : TGs} {a : Addr} {xs : List V} {σ : L2.St} {H : Hp} {Q : L2.St → Hp → Prop} (h : H a = some (.tup xs)) (hn : xs.length = n) (q : t xs σ H Q) : gTup K n t (.ref a) σ H Q := ⟨a, xs, rfl, .inl (.inl h), hn, q⟩
theorem w_gNil {σ : L2.St} {H : Hp} {Q : L2.St → Hp → Prop} (q : Q σ H) : gNil [] σ H Q := ⟨rfl, q⟩
theorem w_gCons {t : TG} {u : TGs} {v : V} {r : List V} {σ : L2.St} {H : Hp} {Q : L2.St → Hp → Prop} (q : t v σ H fun σ' H' => u r σ' H' Q) : gCons t u (v :: r) σ H Q := ⟨v, r, rfl, q⟩
theorem w_isB {a b : Bool} {H : Hp} {Q : VK} (q : Q (.bl (decide (a = b))) H) : rIsB (.bl a) (.bl b) H Q := ⟨a, b, rfl, rfl, q⟩
theorem w_notB {a b : Bool} {H : Hp} {Q : VK} (q : Q (.bl (!decide (a = b))) H) : rNotB (.bl a) (.bl b) H Q := ⟨a, b, rfl, rfl, q⟩
theorem w_isiInt {K : PySem.W.Frag} {i : Int} {H : Hp} {Q : VK} (q : Q (.bl true) H) : rIsi K [.int i, .ty "int"] H Q := ⟨.int i, .ty "int", .type "int", .type "int", true, rfl, .ty _, .base (.int _), kit_ty (by decide +kernel), q⟩
theorem w_isiIntB {K : PySem.W.Frag} {i : Int} {H : Hp} {Q : VK} (q : Q (.bl false) H) : rIsi K [.int i, .ty "bool"] H Q := ⟨.int i, .ty "bool", .type "int", .type "bool", false, rfl, .ty _, .base (.int _), kit_ty (by decide +kernel), q⟩
theorem w_ndecF {c : Prop} [Decidable c] {A B : Prop} (h : c) (q : B) : if (!decide c) = true then A else B := by
  rw [if_neg (by rw [decide_eq_true h]; decide)]; exact q
theorem w_ndecT {c : Prop} [Decidable c] {A B : Prop} (h : ¬ c) (q : A) : if (!decide c) = true then A else B := by
  rw [if_pos (by rw [decide_eq_false h]; rfl)]; exact q
theorem w_nT {A B : Prop} (q : B) : if (!true) = true then A else B := by rw [if_neg (by decide)]; exact q
theorem w_nF {A B : Prop} (q : A) : if (!false) = true then A else B := by rw [if_pos (by decide)]; exact q
theorem map_get' {α : Type} {f : α → V} {ns : List α} {i : Nat} {x : V} (h : (ns.map f)[i]? = some x) : ∃ n, n ∈ ns ∧ ns[i]? = some n ∧ x = f n := by
  rw [List.getElem?_map] at h
  cases e : ns[i]? with
  | none => rw [e] at h; cases h
  | some z => rw [e] at h; exact ⟨z, List.mem_of_getElem? e, rfl, (Option.some.inj h).symm⟩
/-- pure functions of ints -/
def spI1 (C : Int → Prop) (f : Int → V) : Sp := fun vs H Q _ => ∃ x, vs = [.int x] ∧ C x ∧ Q (f x) H
def spI2 (C : Int → Int → Prop) (f : Int → Int → V) : Sp := fun vs H Q _ => ∃ x y, vs = [.int x, .int y] ∧ C x y ∧ Q (f x y) H
theorem w_spI1 {C : Int → Prop} {f : Int → V} {x : Int} {H : Hp} {Q : VK} {E : XK} (c : C x) (q : Q (f x) H) : spI1 C f [.int x] H Q E := ⟨x, rfl, c, q⟩
theorem w_spI2 {C : Int → Int → Prop} {f : Int → Int → V} {x y : Int} {H : Hp} {Q : VK} {E : XK} (c : C x y) (q : Q (f x y) H) : spI2 C f [.int x, .int y] H Q E := ⟨x, y, rfl, c, q⟩
theorem len_spI1 {C : Int → Prop} {f : Int → V} {s : Str} (vs : List V) (H : Hp) (Q : VK) (E : XK) (h : spI1 C f vs H Q E) : vs.length = [s].length := by
  obtain ⟨x, rfl, _⟩ := h; rfl
theorem len_spI2 {C : Int → Int → Prop} {f : Int → Int → V} {s r : Str} (vs : List V) (H : Hp) (Q : VK) (E : XK) (h : spI2 C f vs H Q E) : vs.length = [s, r].length := by
  obtain ⟨x, y, rfl, _⟩ := h; rfl
/-- a Cd from a def that stands -/
theorem mkCd {P : Program} {w : World} {K : PySem.W.Frag} {mg : Str → Option Value} {base : Heap} {x qual : Str} {st : Stmt} {f : Addr} {fd : FuncData} {k : Nat} {ps : List Str} {sp : Sp} (F : Fun K x qual st f fd) (b : Binds K fd ps []) (m : mg x = some (.ref f)) (ok : FnOk P w K mg base CX0 k f fd ps sp) : Cd P w K mg base k x sp :=
  ⟨f, fd, ps, ok, m, F.kp, b⟩
/-- what stands: the def, how its arguments bind, its name -/
structure St1 (K : PySem.W.Frag) (mg : Str → Option Value) (x : Str) (st : Stmt) (ps : List Str) : Prop where
  ex : ∃ f fd, Fun K x x st f fd ∧ Binds K fd ps [] ∧ mg x = some (.ref f)
theorem St1.cd {P : Program} {w : World} {K : PySem.W.Frag} {mg : Str → Option Value} {base : Heap} {x : Str} {st : Stmt} {k : Nat} {N ps : List Str} {sp : Sp} (Z : St1 K mg x st ps) (S : FnScope N ps (defScope st)) (len : ∀ vs H Q E, sp vs H Q E → vs.length = ps.length)
    (hbody : ∀ (f : Addr) (cdv : Value) (A : Around) (outer : List Env) (s : Shared) (H : Hp) (vs : List V) (Q : VK) (E : XK), Room k (A.deeper (envOfC x (defScope st) s.heap.objs.size f cdv)) → sp vs H Q E →
      ∃ t, PSs (cxOf CX0 P w K mg base N x (defScope st) f cdv A outer s H E).nox (defBody st) t ∧ t { nx := fun _ H' => Q .non H', rt := Q } (start N vs) H) : Cd P w K mg base (k + 1) x sp := by
  obtain ⟨f, fd, F, b, m⟩ := Z.ex
  exact mkCd F b m (F.ok S len (hbody f))
theorem mkSt1 {K : PySem.W.Frag} {mg : Str → Option Value} {x : Str} {st : Stmt} {ps : List Str} {h : Heap} {f : Addr} {oc : Value} {od an : Option Addr} {osl : Array (Option Value)} {kV doc pm cdv ct : Value} (X : K.In h) (G : h.Ns mainGlobals mg)
    (a : PySem.W.nsIn K mainGlobals x = some (some (.ref f))) (l : K.lookup f = some ⟨oc, od, .func (PySem.W.fnOf x x (defArgs st) (defBody st) (defScope st) .none kV doc pm an cdv ct), osl⟩) (c : PySem.W.codeIn K cdv x = true) (k : PySem.W.keepIn K (.ref f) = true)
    (hb : ∀ (kV doc pm : Value) (an : Option Addr) (cdv ct : Value) (us : List Value), us.length = ps.length → bindArgs (PySem.W.fnOf x x (defArgs st) (defBody st) (defScope st) .none kV doc pm an cdv ct) ⟨us, []⟩ = pure (ps.zip us)) : St1 K mg x st ps :=
  ⟨f, _, fun_mk (st := st) l c k, (fun_mk (st := st) l c k).binds hb, PySem.W.mg_of X G a⟩
/-- a def among others that a local may hold -/
theorem Cd.held {P : Program} {w : World} {K : PySem.W.Frag} {mg : Str → Option Value} {base : Heap} {k : Nat} {x : Str} {sp : Sp} {f : Addr} (c : Cd P w K mg base k x sp) (m : mg x = some (.ref f)) : Held P w K mg base k f sp := by
  obtain ⟨f', fd, ps, F, m', kp, b⟩ := c.ex
  cases m'.symm.trans m
  exact ⟨⟨fd, ps, F, kp, b⟩⟩
end Co

set_option Elab.async false
set_option linter.all false
set_option maxRecDepth 100000
set_option maxHeartbeats 4000000
namespace Co
open PySem PySem.Spec PyProof.Rows L2 PpSet
/-! ### a comprehension, clause by clause: one rule for each clause's loop, whatever its turn does -/
/-- a clause's turn, what is done with an item told apart -/
def turnOf (tg src : Expr) (ifs : List Expr) (it : Value) (env : Env) (body : Sem Unit) (c : Code) : Sem PySem.Fin := do
  standAt src.pos
  match ← pyNext it with
  | none => pure (.done .next)
  | some v =>
    letOwnedTupleGo tg it v
    assign tg env v
    let mut ok := true
    for c in ifs do
      if ok then ok ← isTrue c env (eval c env)
    if ok then body
    again c
/-- the body of the innermost clause of a set's comprehension -/
def addTo (elt : Expr) (acc : Value) (env : Env) : Sem Unit := do
  let v ← eval elt env
  standAt elt.pos
  let _ ← call (.builtin "set.add") [acc, v]
theorem turn_s1 (elt t i : Expr) (ifs : List Expr) (sc : Scope) (pos : Pos) (it acc : Value) (env : Env) :
    compTurn (.SetComp elt [⟨t, i, ifs, 0⟩] sc pos) 0 it acc env = turnOf t i ifs it env (addTo elt acc env) (.compLoop (.SetComp elt [⟨t, i, ifs, 0⟩] sc pos) 0 it acc env) := by rfl
theorem turn_s2b (elt t i t1 i1 : Expr) (ifs ifs1 : List Expr) (sc : Scope) (pos : Pos) (it acc : Value) (env : Env) :
    compTurn (.SetComp elt [⟨t, i, ifs, 0⟩, ⟨t1, i1, ifs1, 0⟩] sc pos) 1 it acc env = turnOf t1 i1 ifs1 it env (addTo elt acc env) (.compLoop (.SetComp elt [⟨t, i, ifs, 0⟩, ⟨t1, i1, ifs1, 0⟩] sc pos) 1 it acc env) := by rfl
/-- what an outer clause does with an item: the next clause begins -/
def beginIn (C : Expr) (i1 : Expr) (k : Nat) (acc : Value) (env : Env) : Sem Unit := do
  let x ← eval i1 env
  standAt i1.pos
  let x ← foldedSetIterable i1 env x
  let _ ← runOwn (.compStart C k (← holding [x] (pyIter x)) acc env) env
theorem turn_s2a (elt t i t1 i1 : Expr) (ifs ifs1 : List Expr) (sc : Scope) (pos : Pos) (it acc : Value) (env : Env) :
    compTurn (.SetComp elt [⟨t, i, ifs, 0⟩, ⟨t1, i1, ifs1, 0⟩] sc pos) 0 it acc env = turnOf t i ifs it env (beginIn (.SetComp elt [⟨t, i, ifs, 0⟩, ⟨t1, i1, ifs1, 0⟩] sc pos) i1 1 acc env) (.compLoop (.SetComp elt [⟨t, i, ifs, 0⟩, ⟨t1, i1, ifs1, 0⟩] sc pos) 0 it acc env) := by
  unfold turnOf beginIn
  simp only [bind_assoc, pure_bind]
  rfl

/-- no exception -/
abbrev Never : Value → Shared → Prop := fun _ _ => False
section
variable {prog : Program} {w : World} {A : Around} {s : Shared} {elt : Expr} {gens : List Comprehension} {sc : Scope} {pos : Pos} {k : Nat} {it acc : Value} {env : Env} {tg src : Expr} {ifs : List Expr} {body : Sem Unit}
/-- the tests of a clause -/
def testsOf (ifs : List Expr) (env : Env) : Sem Bool := forIn ifs true fun c r => if r = true then do let ok ← isTrue c env (eval c env); pure (ForInStep.yield ok) else pure (ForInStep.yield r)
/-- one turn: from I n either the source is at its end, or an item goes through and a lesser n is reached -/
theorem clause_loop {R : Shared → Prop} (hC : compTurn (.SetComp elt gens sc pos) k it acc env = turnOf tg src ifs it env body (.compLoop (.SetComp elt gens sc pos) k it acc env)) (I : Nat → Shared → Prop)
    (turn : ∀ n s, I n s → wpAny (model prog w) A (pyNext it) (fun r s1 => (r = none ∧ R s1) ∨ ∃ v, r = some v ∧ wpAny (model prog w) A (letOwnedTupleGo tg it v) (fun _ s2 => wpAny (model prog w) A (assign tg env v) (fun _ s3 => wpAny (model prog w) A (testsOf ifs env) (fun ok s4 =>
      if ok = true then wpAny (model prog w) A body (fun _ s5 => ∃ m, m < n ∧ I m s5) Never s4 else ∃ m, m < n ∧ I m s4) Never s3) Never s2) Never s1) Never s) (n : Nat) (h : I n s) :
    codeAny (model prog w) A (.compLoop (.SetComp elt gens sc pos) k it acc env) (fun r s' => r = .ok .next ∧ R s') s := by
  refine codeAny_loop rfl I (fun n s hI => ?_) n h
  show wpAny _ A ((compTurn (.SetComp elt gens sc pos) k it acc env).onRaise fun x => do noteFrame x env; theTreesLotGoes x) _ _ s
  rw [hC]
  refine wpAny_noted (wpAny_bind (wpAny_standAt (wpAny_bind (thnF (turn n s hI) fun r s1 h1 => ?_))))
  rcases h1 with ⟨rfl, q⟩ | ⟨v, rfl, q⟩
  · exact wpAny_pure ⟨rfl, q⟩
  · refine wpAny_bind (thnF q fun _ s2 q => wpAny_bind (thnF q fun _ s3 q => wpAny_bind (thnF q fun ok s4 q => ?_)))
    cases ok with
    | false => exact wpAny_pure ⟨rfl, q⟩
    | true => exact wpAny_bind (thnF q fun _ s5 q => wpAny_pure ⟨rfl, q⟩)
end
/-! ### the same over the abstract heap -/
/-- what a turn's body does: it leaves the slots beyond vs as they were, and a heap of K -/
abbrev TBd := L2.St → Hp → (Hp → Prop) → Prop
def Kept (vs : List Nat) (σ σ' : L2.St) : Prop := σ'.length = σ.length ∧ ∀ (j : Nat) (v : V), j ∉ vs → σ[j]? = some (some v) → σ'[j]? = some (some v)
theorem Kept.refl {vs : List Nat} {σ : L2.St} : Kept vs σ σ := ⟨rfl, fun _ _ _ e => e⟩
structure PB (X : Cx) (vs : List Nat) (body : Sem Unit) (tb : TBd) : Prop where
  run : ∀ (pins : List (Addr × Obj)) (s : Shared) (σ : L2.St) (H : Hp) (Z : Hp → Prop), Inv X pins σ H s → tb σ H Z → wpAny (model X.prog X.w) X.A body (fun _ s' => ∃ σ' H', Inv X pins σ' H' s' ∧ Kept vs σ σ' ∧ Z H') Never s
/-- a clause's loop over its source -/
def tLp (g : TG) (tt : TT) (tb : TBd) (vs : List Nat) (σ : L2.St) (Z : Hp → Prop) : It → Hp → Prop := fun J H0 => ∃ W : Nat → Nat → Hp → Prop, (∃ m, W 0 m H0) ∧ ∀ i m H, W i m H →
  (J.stop i H ∧ Z H) ∨ (J.go i H ∧ ∃ Nx : Hp → Prop, (∀ H', Nx H' → ∃ m', m' < m ∧ W (i + 1) m' H') ∧ ∀ x H', J.yld i H x H' → g x (wipe σ vs) H' fun σ2 H2 => wipe σ2 vs = wipe σ vs ∧ tt σ2 H2 fun b H3 => if b = true then tb σ2 H3 Nx else Nx H3)
theorem kept_wipe {vs : List Nat} {σ σ2 : L2.St} (h : wipe σ2 vs = wipe σ vs) : (wipe σ vs).length = σ2.length ∧ ∀ (j : Nat) (v : V), (wipe σ vs)[j]? = some (some v) → j ∉ vs ∧ σ2[j]? = some (some v) := by
  rw [← h]
  exact ⟨wipe_length _ _, fun j v e => ⟨(wipe_some e).2, (wipe_some e).1⟩⟩
section
variable {X : Cx} {s : Shared} {elt : Expr} {gens : List Comprehension} {sc : Scope} {pos : Pos} {k : Nat} {acc : Value} {tg src : Expr} {ifs : List Expr} {body : Sem Unit} {g : TG} {tt : TT} {tb : TBd} {wb vs : List Nat}
/-- THE RULE for a clause: its loop, from the state in which its source has just been asked for an iterator -/
theorem clause_run {pins : List (Addr × Obj)} {σ : L2.St} {H : Hp} {it : Addr} {fp : List Addr} {tn : Nat → Heap → Prop} {J : It} {Z : Hp → Prop} (hc : X.calm = true) (never : ∀ e s, X.xe e s → False) (hC : compTurn (.SetComp elt gens sc pos) k (.ref it) acc X.env = turnOf tg src ifs (.ref it) X.env body (.compLoop (.SetComp elt gens sc pos) k (.ref it) acc X.env))
    (hg : PG X tg g) (ht : PTs X ifs tt) (hb : PB X wb body tb) (hw : ∀ j ∈ wb, j ∈ vs) (T : Turn X.prog X.w X.K tg J fp it tn) (I : Inv X pins σ H s) (st : tn 0 s.heap) (hf : ∀ b ∈ fp, FpOk X pins H b) (q : tLp g tt tb vs σ Z J H) :
    codeAny (model X.prog X.w) X.A (.compLoop (.SetComp elt gens sc pos) k (.ref it) acc X.env) (fun r s' => r = .ok .next ∧ ∃ H', Inv X pins (wipe σ vs) H' s' ∧ (∀ b ∈ fp, H' b = none) ∧ Z H') s := by
  obtain ⟨W, ⟨m0, w0⟩, turn⟩ := q
  have fpk : ∀ {H' : Hp}, (∀ b ∈ fp, H' b = none) → ∀ b ∈ fp, FpOk X pins H' b := fun z b hb => ⟨z b hb, (hf b hb).2⟩
  have nv : ∀ {α : Type} {t : Sem α} {Q : α → Shared → Prop} {s : Shared}, wpAny (model X.prog X.w) X.A t Q X.xe s → wpAny (model X.prog X.w) X.A t Q Never s := fun h => wpAny_mono h (fun _ _ q => q) never
  refine clause_loop (R := fun s' => ∃ H', Inv X pins (wipe σ vs) H' s' ∧ (∀ b ∈ fp, H' b = none) ∧ Z H') hC (fun n s' => ∃ i H', Inv X pins (wipe σ vs) H' s' ∧ tn i s'.heap ∧ (∀ b ∈ fp, H' b = none) ∧ W i n H') ?_ m0 ⟨0, H, I.weak (wipe_length _ _) fun j v e => (wipe_some e).1, st, fun b hb => (hf b hb).1, w0⟩
  rintro n s1 ⟨i, H1, I1, st1, n1, w1⟩
  rcases turn i n H1 w1 with ⟨stop, z⟩ | ⟨go, Nx, hNx, step⟩
  · exact thnF (T.done X rfl rfl rfl hc i pins s1 _ H1 Never I1 (fpk n1) st1 stop) fun r s2 ⟨e, I2⟩ => .inl ⟨e, H1, I2, n1, z⟩
  · refine thnF (T.item X rfl rfl rfl hc i pins s1 _ H1 Never I1 (fpk n1) st1 go) fun r s2 ⟨u, e, h2⟩ => .inr ⟨u, e, thnF h2 fun _ s3 ⟨x, H3, I3, r3, y3, st3, n3⟩ => ?_⟩
    have I3p := I3.pinned (fpk n3) (T.obj _ _ st3)
    have fin : ∀ {σ' : L2.St} {s' : Shared} {H' : Hp}, Inv X (pins ++ pinsAt fp s3.heap) σ' H' s' → σ'.length = (wipe σ vs).length → (∀ (j : Nat) (v : V), (wipe σ vs)[j]? = some (some v) → σ'[j]? = some (some v)) → Nx H' →
        ∃ m, m < n ∧ ∃ i H', Inv X pins (wipe σ vs) H' s' ∧ tn i s'.heap ∧ (∀ b ∈ fp, H' b = none) ∧ W i m H' := by
      intro σ' s' H' I' hl hk nx
      obtain ⟨m, hm, w2⟩ := hNx H' nx
      have pinned : ∀ b ∈ fp, ∃ o, s3.heap.get? b = some o ∧ s'.heap.get? b = some o ∧ H' b = none := fun b hb => by
        obtain ⟨o, e, _⟩ := T.obj _ _ st3 b hb
        have p := I'.pin (b, o) (List.mem_append_right _ (List.mem_append_right _ (mem_pinsAt hb e)))
        exact ⟨o, e, p.1, p.2.1⟩
      refine ⟨m, hm, i + 1, H', I'.unpinned.weak hl.symm hk, T.keep _ _ _ st3 fun b hb o e => ?_, fun b hb => ?_, w2⟩
      · obtain ⟨o', e1, e2, _⟩ := pinned b hb
        rw [e] at e1; cases e1; exact e2
      · obtain ⟨_, _, _, e⟩ := pinned b hb; exact e
    refine nv (thn (hg.run _ s3 _ H3 x u _ I3p r3 (step x H3 y3)) fun _ s4 ⟨σ4, H4, I4, hw4, q4⟩ => ?_)
    obtain ⟨l4, k4⟩ := kept_wipe hw4
    refine nv (thn (ht.run _ s4 σ4 H4 _ I4 q4) fun b s5 ⟨H5, I5, q5⟩ => ?_)
    cases b with
    | false => exact iteF (fin I5 l4.symm (fun j v e => (k4 j v e).2) (by simpa using q5))
    | true =>
      refine iteT (thnF (hb.run _ s5 σ4 H5 Nx I5 (by simpa using q5)) fun _ s6 ⟨σ6, H6, I6, kp, z⟩ => ?_)
      exact fin I6 (kp.1.trans l4.symm) (fun j v e => kp.2 j v (fun m => (k4 j v e).1 (hw j m)) (k4 j v e).2) z
end
section
variable {prog : Program} {w : World} {A : Around} {R : Result → Shared → Prop} {s : Shared} {elt : Expr} {gens : List Comprehension} {g : Comprehension} {sc : Scope} {pos : Pos} {k : Nat} {it acc : Value} {env : Env}
/-- a clause's beginning: its source's iterator is asked for itself, or not -/
theorem clause_start (hg : gens[k]? = some g) (ha : g.is_async = 0) (h0 : codeAny (model prog w) A (.compLoop (.SetComp elt gens sc pos) k it acc env) R s)
    (h1 : wpAny (model prog w) A (pyIter it) (fun v s' => codeAny (model prog w) A (.compLoop (.SetComp elt gens sc pos) k v acc env) R s') Never s) : codeAny (model prog w) A (.compStart (.SetComp elt gens sc pos) k it acc env) R s := by
  refine codeAny_of_tree ?_
  show wpAny _ _ ((compStart (.SetComp elt gens sc pos) k it acc env).onRaise fun x => do noteFrame x env; standAt theWindowsPlace) _ _ s
  refine wpAny_notedAt ?_
  unfold compStart
  have e1 : (clausesOf (.SetComp elt gens sc pos))[k]? = some g := hg
  rw [e1]
  have e2 : ((some g).elim false fun x : Comprehension => x.is_async != 0) = false := by show (g.is_async != 0) = false; rw [ha]; rfl
  rw [e2, if_neg (by decide)]
  refine wpAny_bind (wpAny_askSetting ?_)
  split
  · exact wpAny_pure ⟨rfl, h0⟩
  · exact wpAny_bind (wpAny_rule (wpAny_bind (wpAny_standAt (wpAny_bind (thnF h1 fun v s' q => wpAny_pure ⟨rfl, q⟩)))))
end
/-! ### the bodies -/
section
variable {X : Cx}
/-- an int added to the set at D -/
def tAdd (w : World) (D : Addr) (te : TE) : TBd := fun σ H Z => te σ H fun y H4 => ∃ (c : Int) (S : Int → Bool) (n : Nat), y = .int c ∧ H4 D = some (SetO w D S n) ∧ n + 1 < scanBound ∧ Z (upd H4 D (SetO w D (fun j => S j || decide (j = c)) (if S c = true then n else n + 1)))
theorem add_int {pins : List (Addr × Obj)} {σ : L2.St} {H : Hp} {s : Shared} {E : Value → Shared → Prop} {D : Addr} {S : Int → Bool} {n : Nat} {y : Int} {t : Tok} {Q : Value → Shared → Prop} (I : Inv X pins σ H s) (hD : H D = some (SetO X.w D S n)) (room : n + 1 < scanBound)
    (h : ∀ v s', Inv X pins σ (upd H D (SetO X.w D (fun j => S j || decide (j = y)) (if S y = true then n else n + 1))) s' → Q v s') : wpAny (model X.prog X.w) X.A (call (.builtin "set.add") [.ref D, .int y t]) Q E s := by
  refine setR_add (setO_get I hD) room fun h' sb new => h _ _ ?_
  have ho := new.choose_spec.choose_spec.choose_spec.choose_spec.1
  exact I.write (t' := s.toks + 1) (by rw [hD]; trivial) (.inl rfl) (fun b u hb hu => (sb.2 b hb).trans hu) ⟨_, ho⟩ (setO_new new)
theorem pb_add {elt : Expr} {te : TE} {D : Addr} (never : ∀ e s, X.xe e s → False) (he : PE X elt te) : PB X [] (addTo elt (.ref D) X.env) (tAdd X.w D te) := by
  refine ⟨fun pins s σ H Z I q => ?_⟩
  refine wpAny_bind (wpAny_mono (he.run pins s σ H _ I q) (fun u s1 h => wpAny_bind (wpAny_standAt ?_)) never)
  obtain ⟨v, H1, I1, r, c, S, n, rfl, hD, room, z⟩ := h
  obtain ⟨t, rfl⟩ := r
  exact wpAny_bind (add_int I1 hD room fun _ s2 I2 => wpAny_pure ⟨σ, _, I2, .refl, z⟩)
/-- the next clause -/
def tIn (wi : TI) (g : TG) (tt : TT) (tb : TBd) (vs : List Nat) : TBd := fun σ H Z => wi σ H (tLp g tt tb vs σ Z)
theorem pb_in {elt : Expr} {gens : List Comprehension} {sc : Scope} {pos : Pos} {D : Addr} {tg src : Expr} {ifs : List Expr} {k : Nat} {body : Sem Unit} {wi : TI} {g : TG} {tt : TT} {tb : TBd} {wb vs : List Nat} (hc : X.calm = true) (never : ∀ e s, X.xe e s → False)
    (hk : gens[k]? = some ⟨tg, src, ifs, 0⟩) (hC : ∀ it, compTurn (.SetComp elt gens sc pos) k it (.ref D) X.env = turnOf tg src ifs it X.env body (.compLoop (.SetComp elt gens sc pos) k it (.ref D) X.env)) (hs : ∀ x, foldedSetIterable src X.env x = pure x)
    (hi : PI X tg src wi) (hg : PG X tg g) (ht : PTs X ifs tt) (hb : PB X wb body tb) (hw : ∀ j ∈ wb, j ∈ vs) : PB X vs (beginIn (.SetComp elt gens sc pos) src k (.ref D) X.env) (tIn wi g tt tb vs) := by
  refine ⟨fun pins s σ H Z I q => ?_⟩
  refine wpAny_bind (wpAny_mono (hi.run pins s σ H _ I q) (fun u s1 h => wpAny_bind (wpAny_standAt (wpAny_bind (wpAny_of_eq (hs u) (wpAny_bind (wpAny_holding (wpAny_mono h (fun itv s2 h2 => ?_) never))))))) never)
  obtain ⟨it, fp, tn, J, H2, rfl, I2, T, st, hf, q2⟩ := h2
  have loop := clause_run hc never (hC (.ref it)) hg ht hb hw T I2 st hf q2
  refine wpAny_bind (wpAny_runOwn ?_)
  rw [Around.mark_none]
  refine codeAny_mono (clause_start hk rfl loop (T.self _ 0 _ _ _ st loop)) fun r s3 h3 => ?_
  obtain ⟨rfl, H3, I3, _, z⟩ := h3
  exact wpAny_pure ⟨_, H3, I3, ⟨wipe_length _ _, fun j v hj e => by rw [wipe_out hj]; exact e⟩, z⟩
end
theorem wipe_set (τ : L2.St) (v : Nat) : ∀ vs : List Nat, wipe (τ.set v none) vs = (wipe τ vs).set v none
  | [] => rfl
  | u :: vs => by
    unfold wipe
    rw [wipe_set τ v vs]
    by_cases h : v = u
    · subst h; rfl
    · rw [List.set_comm _ _ h]
theorem wipe_wipe (σ : L2.St) : ∀ vs : List Nat, wipe (wipe σ vs) vs = wipe σ vs
  | [] => rfl
  | v :: vs => by
    show (wipe ((wipe σ vs).set v none) vs).set v none = (wipe σ vs).set v none
    rw [wipe_set, wipe_wipe σ vs, List.set_set]
/-! ### the whole of a set's comprehension -/
section
variable {X : Cx}
def tScG (w : World) (wi : TI) (g : TG) (tt : TT) (tb : Addr → TBd) (vs : List Nat) : TE := fun σ H Q => wi σ H fun J H1 => ∀ D, H1 D = none → tLp g tt (tb D) vs σ (Q (.ref D)) J (upd H1 D (SetO w D (fun _ => false) 0))
/-- the block's context -/
abbrev InBlk (X : Cx) (sc : Scope) (B : Cx → Prop) : Prop := ∀ (s : Shared) (H : Hp) (C : Addr) (cl : List (Str × Addr)) (fp : List Addr), B (X.blk s H sc (compEnvC sc cl C X.env) fp)
theorem pe_scG {elt tg src : Expr} {ifs : List Expr} {rest : List Comprehension} {sc : Scope} {pos : Pos} {own : List (Str × Nat)} {wi : TI} {g : TG} {tt : TT} {tb : Addr → TBd} {wb : List Nat} {body : Value → Env → Sem Unit} (hc : X.calm = true) (hN : X.N.Nodup) (hi : PI X tg src wi) (ok : BlkOk X.N X.env.scope sc own) (hw : ∀ j ∈ wb, j ∈ own.map (·.2))
    (hC : ∀ it acc env, compTurn (.SetComp elt (⟨tg, src, ifs, 0⟩ :: rest) sc pos) 0 it acc env = turnOf tg src ifs it env (body acc env) (.compLoop (.SetComp elt (⟨tg, src, ifs, 0⟩ :: rest) sc pos) 0 it acc env))
    (hg : InBlk X sc fun B => PG B tg g) (ht : InBlk X sc fun B => PTs B ifs tt) (hb : InBlk X sc fun B => ∀ D, PB B wb (body (.ref D) B.env) (tb D)) (hs : ∀ x, foldedSetIterable src X.env x = pure x := by intro _; rfl) :
    PE X (.SetComp elt (⟨tg, src, ifs, 0⟩ :: rest) sc pos) (tScG X.w wi g tt tb (own.map (·.2))) := by
  refine ⟨fun pins s σ H Q I q => ?_⟩
  rw [eval_SetComp]
  have free : ∀ y ∈ sc.names, y.2 = .free → ∃ c, X.env.cells.lookup y.1 = some c := fun y hy e => I.ok.has _ ((ok.free y hy e).imp id id)
  refine wpAny_comprehension_free (use := none) rfl hs (closure_ok free) ok.kind (fun y hy e => (ok.uniq y hy).trans (by rw [e])) (thn (hi.run pins s σ H _ I q) fun u s1 h1 => thn h1 fun v s2 h2 => newSet_ok (newEnv_comp ?_))
  obtain ⟨it, fp, tn, J, H2, rfl, I2, T, st, hf, q2⟩ := h2
  -- the new set's address, and the states with it and with the block's frame
  obtain ⟨D, hD⟩ : ∃ D, D = s2.heap.objs.size := ⟨_, rfl⟩
  obtain ⟨s3, hs3⟩ : ∃ s3 : Shared, s3 = { s2 with heap := s2.heap.push { cls := .type "set", dict := none, data := .set #[] 0 (.fresh 0 0 (!X.w.params.followText "set-order")) } } := ⟨_, rfl⟩
  have q3 := q2 D (by rw [hD]; exact I2.hok.fresh (Nat.le_refl _))
  obtain ⟨H3, hH3⟩ : ∃ H3, H3 = upd H2 D (SetO X.w D (fun _ => false) 0) := ⟨_, rfl⟩
  have I3 : Inv X pins σ H3 s3 := by
    subst hs3; subst hH3; subst hD
    exact I2.laid (t' := s2.toks) (fun b o e => Heap.get?_push_of_some _ e) (Nat.le_refl _) (setO_new (setR_fresh X.w))
  have old : ∀ b o, s2.heap.get? b = some o → s3.heap.get? b = some o := fun b o e => by rw [hs3]; exact Heap.get?_push_of_some _ e
  have f3 : ∀ b ∈ fp, FpOk X pins H3 b ∧ b < s3.heap.objs.size := fun b hb => by
    obtain ⟨o, e, _⟩ := T.obj _ _ st b hb
    have lt := Heap.lt_size e
    refine ⟨⟨?_, (hf b hb).2⟩, Heap.lt_size (old b o e)⟩
    rw [hH3, upd_ne (by rw [hD]; exact Nat.ne_of_lt lt)]
    exact (hf b hb).1
  have I4 := block_start I3 ok hN f3
  have B1 := hg s3 H3 s3.heap.objs.size (cellsFrom (s3.heap.objs.size + 1) sc.names (cloFrom X.env.cells sc.names [])) fp
  have B2 := ht s3 H3 s3.heap.objs.size (cellsFrom (s3.heap.objs.size + 1) sc.names (cloFrom X.env.cells sc.names [])) fp
  have B3 := hb s3 H3 s3.heap.objs.size (cellsFrom (s3.heap.objs.size + 1) sc.names (cloFrom X.env.cells sc.names [])) fp D
  have st4 : tn 0 (pushCells (s3.heap.push { cls := .type "dict", data := .dict #[] }) sc.names) := T.keep _ _ _ st fun b _ o e => pushCells_keeps _ _ _ _ (Heap.get?_push_of_some _ (old b o e))
  have hf4 : ∀ b ∈ fp, FpOk (X.blk s3 H3 sc (compEnvC sc (cellsFrom (s3.heap.objs.size + 1) sc.names (cloFrom X.env.cells sc.names [])) s3.heap.objs.size X.env) fp) [] H3 b := fun b hb =>
    ⟨(f3 b hb).1.1, (I4.ok.exf b hb).1, I4.ok.exfs b hb, .inl hb, fun x c e => (I4.ok.exf b hb).2 x c e, fun p hp => by cases hp⟩
  rw [← hH3] at q3
  have loop := clause_run (pins := []) (X := X.blk s3 H3 sc (compEnvC sc (cellsFrom (s3.heap.objs.size + 1) sc.names (cloFrom X.env.cells sc.names [])) s3.heap.objs.size X.env) fp) hc (fun _ _ h => h) (hC (.ref it) (.ref D) _) B1 B2 B3 hw T I4 st4 hf4 (by unfold tLp at q3 ⊢; rw [wipe_wipe]; exact q3)
  -- behind the loop: the def's own context again, and the block's frame let go
  have fin : ∀ s4 : Shared, (∃ H4, Inv (X.blk s3 H3 sc (compEnvC sc (cellsFrom (s3.heap.objs.size + 1) sc.names (cloFrom X.env.cells sc.names [])) s3.heap.objs.size X.env) fp) [] (wipe (wipe σ (own.map (·.2))) (own.map (·.2))) H4 s4 ∧ (∀ b ∈ fp, H4 b = none) ∧ Q (.ref D) H4) →
      ∃ m, s4.heap.Ns s3.heap.objs.size m ∧ ∀ h', Heap.SameBut s3.heap.objs.size s4.heap h' → EP X pins σ Q (.ref D) { s4 with heap := h' } := by
    rintro s4 ⟨H4, I5, _, z⟩
    obtain ⟨m, ns, _⟩ := I5.loc
    refine ⟨m, ns, fun h' sb => ?_⟩
    have I6 : Inv X pins σ H4 s4 := I3.call' (ch := fp) I5.os I5.base I5.hok I5.bare fun b hb => by
      obtain ⟨_, a1, _, a3, a4, a5⟩ := (f3 b hb).1
      exact ⟨a3, a1, a4, a5⟩
    obtain ⟨a0, a1, _, a3, a4, a5⟩ := I3.fpOk (H' := H4) (Nat.le_refl _) I5.free
    exact ⟨.ref D, H4, I6.turned (t' := s4.toks) (fun b o hb e => (sb.2 b hb).trans e) a0 a1 a3 a4 a5, rfl, z⟩
  subst hD; subst hs3
  refine codeAny_mono (clause_start (k := 0) rfl rfl loop (T.self _ 0 _ _ _ st4 loop)) fun r s4 h4 => ?_
  obtain ⟨rfl, h⟩ := h4
  exact fin s4 h
/-- {elt for tg in src if ..} of ints -/
theorem pe_sci1 {elt tg src : Expr} {ifs : List Expr} {sc : Scope} {pos : Pos} {own : List (Str × Nat)} {wi : TI} {g : TG} {tt : TT} {te : TE} (hc : X.calm = true) (hN : X.N.Nodup) (hi : PI X tg src wi) (ok : BlkOk X.N X.env.scope sc own)
    (hg : InBlk X sc fun B => PG B tg g) (ht : InBlk X sc fun B => PTs B ifs tt) (he : InBlk X sc fun B => PE B elt te) (hs : ∀ x, foldedSetIterable src X.env x = pure x := by intro _; rfl) : PE X (.SetComp elt [⟨tg, src, ifs, 0⟩] sc pos) (tScG X.w wi g tt (fun D => tAdd X.w D te) (own.map (·.2))) :=
  pe_scG (rest := []) (wb := []) hc hN hi ok (fun _ h => by cases h) (fun it acc env => turn_s1 ..) hg ht (fun s H C cl fp D => pb_add (fun _ _ h => h) (he s H C cl fp)) hs
/-- {elt for tg in src if .. for tg1 in src1 if ..} of ints -/
theorem pe_sci2 {elt tg src tg1 src1 : Expr} {ifs ifs1 : List Expr} {sc : Scope} {pos : Pos} {own : List (Str × Nat)} {vs1 : List Nat} {wi wi1 : TI} {g g1 : TG} {tt tt1 : TT} {te : TE} (hc : X.calm = true) (hN : X.N.Nodup) (hi : PI X tg src wi) (ok : BlkOk X.N X.env.scope sc own) (hv : ∀ j ∈ vs1, j ∈ own.map (·.2))
    (hg : InBlk X sc fun B => PG B tg g) (ht : InBlk X sc fun B => PTs B ifs tt) (hi1 : InBlk X sc fun B => PI B tg1 src1 wi1) (hg1 : InBlk X sc fun B => PG B tg1 g1) (ht1 : InBlk X sc fun B => PTs B ifs1 tt1) (he : InBlk X sc fun B => PE B elt te)
    (hs : ∀ x, foldedSetIterable src X.env x = pure x := by intro _; rfl) (hs1 : ∀ env x, foldedSetIterable src1 env x = pure x := by intro _ _; rfl) :
    PE X (.SetComp elt [⟨tg, src, ifs, 0⟩, ⟨tg1, src1, ifs1, 0⟩] sc pos) (tScG X.w wi g tt (fun D => tIn wi1 g1 tt1 (tAdd X.w D te) vs1) (own.map (·.2))) :=
  pe_scG (rest := [⟨tg1, src1, ifs1, 0⟩]) (wb := vs1) hc hN hi ok hv (fun it acc env => turn_s2a ..) hg ht
    (fun s H C cl fp D => pb_in (k := 1) hc (fun _ _ h => h) rfl (fun it => turn_s2b ..) (hs1 _) (hi1 s H C cl fp) (hg1 s H C cl fp) (ht1 s H C cl fp) (pb_add (fun _ _ h => h) (he s H C cl fp)) (fun _ h => by cases h)) hs
end
end Co

set_option Elab.async false
set_option linter.all false
set_option maxRecDepth 100000
set_option maxHeartbeats 4000000
namespace Co
open PySem PySem.Spec PyProof.Rows L2
/-! ### zip of a text and a tuple -/
def ItzST (K : PySem.W.Frag) (x : Str) (b : Addr) : It :=
  ⟨fun i H => ∃ (ys : List V), SqT K H b ys ∧ i < x.cps.size ∧ i < ys.length,
    fun i H v H' => ∃ T c y, v = .ref T ∧ H T = none ∧ H' = upd H T (.tup [.str ⟨#[c]⟩, y]) ∧ x.cps[i]? = some c ∧ ∀ ys, SqT K H b ys → ys[i]? = some y,
    fun i H => ∃ ys : List V, SqT K H b ys ∧ i ≤ x.cps.size ∧ i ≤ ys.length ∧ (i = x.cps.size ∨ i = ys.length)⟩
/-- the five objects of such a zip, as they stand before its turn `i` -/
structure ZAt (x : Str) (tk0 : Tok) (b z TI TO i1 i2 : Addr) (i : Nat) (h : Heap) : Prop where
  zip : IsZip h z TI TO .none
  ins : IsTupOf2 h TI (.ref i1) (.ref i2)
  outs : ∃ x y, IsTupOf2 h TO x y
  txt : h.IsStrIter i1 (strIterType x) x tk0 i
  tup : h.IsTupleIter i2 b i
/-- what is asked of each of five may be asked of one after the other -/
theorem all5 {p : Addr → Prop} {a b c d e : Addr} (ha : p a) (hb : p b) (hc : p c) (hd : p d) (he : p e) : ∀ y, y ∈ [a, b, c, d, e] → p y := by
  simpa using ⟨ha, hb, hc, hd, he⟩
theorem no5 {a b c d e y : Addr} (h : y ∉ [a, b, c, d, e]) : y ≠ a ∧ y ≠ b ∧ y ≠ c ∧ y ≠ d ∧ y ≠ e := by
  simpa [not_or] using h
theorem ZAt.small {x : Str} {tk0 : Tok} {b z TI TO i1 i2 : Addr} {i : Nat} {h : Heap} (q : ZAt x tk0 b z TI TO i1 i2 i h) : ∀ c, c ∈ [z, TI, TO, i1, i2] → c < h.objs.size := by
  obtain ⟨_, _, q3⟩ := q.outs
  obtain ⟨_, q4, _⟩ := q.txt
  obtain ⟨_, q5, _⟩ := q.tup
  exact all5 (Heap.lt_size q.zip) (Heap.lt_size q.ins) (Heap.lt_size q3) (Heap.lt_size q4) (Heap.lt_size q5)
theorem sep_of {z TI TO i1 i2 b : Addr} (D : ZipApart z TI TO i1 i2 b b) : ZipSep2 z TI TO i1 i2 [i1] [i2, b] := by
  have h1 := D.i1z.symm
  have h2 := D.i2z.symm
  have h3 := D.l1z.symm
  have h4 := D.l1TO.symm
  have h5 := D.l1i1.symm
  have h6 := D.i12.symm
  constructor <;> simp [D.TIz, D.TOz, D.TITO, D.TIi1, D.TIi2, D.TOi1, D.TOi2, D.i12, h1, h2, h3, h4, h5, h6]
theorem turn_zipST {P : Program} {w : World} {K : PySem.W.Frag} {elts : List Expr} {kk : Nat} {tpos : Pos} {x : Str} {tk0 : Tok} {b z TI TO i1 i2 : Addr} (D : ZipApart z TI TO i1 i2 b b) :
    Turn P w K (.Tuple elts kk tpos) (ItzST K x b) [z, TI, TO, i1, i2] z (ZAt x tk0 b z TI TO i1 i2) where
  mem := List.mem_cons_self
  obj := fun i h q => by
    obtain ⟨_, _, q3⟩ := q.outs
    obtain ⟨_, q4, _, d4⟩ := q.txt
    obtain ⟨_, q5, _, d5⟩ := q.tup
    refine all5 ⟨_, q.zip, ?_⟩ ⟨_, q.ins, ?_⟩ ⟨_, q3, ?_⟩ ⟨_, q4, ?_⟩ ⟨_, q5, ?_⟩ <;> intro v e <;> simp_all
  keep := fun i h h' q k => by
    have k' : ∀ c, c ∈ [z, TI, TO, i1, i2] → ∀ o, h.get? c = some o → h'.get? c = some o := k
    obtain ⟨u, v, q3⟩ := q.outs
    obtain ⟨o4, q4, r4⟩ := q.txt
    exact ⟨k' _ (by simp) _ q.zip, k' _ (by simp) _ q.ins, ⟨u, v, k' _ (by simp) _ q3⟩, ⟨o4, k' _ (by simp) _ q4, r4⟩, q.tup.at (k' _ (by simp))⟩
  item := by
    rintro X rfl rfl rfl hc i pins s σ H E I hf q ⟨ys, hy, l1, l2⟩
    obtain ⟨vs, rv, tv, _⟩ := I.tuple hy
    obtain ⟨_, _, q3⟩ := q.outs
    have hd : X.A.in1.handled = none := I.ok.hd hc
    obtain ⟨u, hu, ru⟩ := rv.get (List.getElem?_eq_getElem l2)
    have lv : i < vs.toArray.size := by
      have := (List.getElem?_eq_some_iff.mp hu).1
      simpa using this
    refine wpAny_pyNext_zipD2_item (sep_of D) (Draws.text hd i1 x tk0) (Draws.tuple hd i2 b D.l1i2 vs.toArray) q.zip q.ins q3 q.txt ⟨q.tup, tv⟩ l1 lv fun a1 a2 h1 t1 P1 P2 z1 o1 f1 f2 new _ kp => ?_
    obtain ⟨c, tc, hx, rfl⟩ := P1
    obtain rfl : u = a2 := by
      have : vs[i]? = some a2 := by simpa using P2
      simpa [hu] using this
    refine ⟨_, rfl, wpAny_letOwnedTupleGo_zip (s := { s with heap := h1, toks := t1 }) z1 fun h2 z2 sb => ?_⟩
    have sm := q.small
    have kp2 : ∀ a o, a ∉ [z, TI, TO, i1, i2] → s.heap.get? a = some o → h2.get? a = some o := fun a o na e => by
      obtain ⟨n1, _, n3, n4, n5⟩ := no5 na
      by_cases hb : a = TI
      · exact absurd hb (no5 na).2.1
      · exact (sb.2 a n1).trans (kp a o n1 n3 n4 n5 e)
    have nt : h2.get? s.heap.objs.size = some { cls := .type "tuple", data := .seq #[.str ⟨#[c]⟩ tc, u] } :=
      (sb.2 _ (Nat.ne_of_gt (sm z (by simp)))).trans new
    have pair : ObjOk X.prog X.w (upd H s.heap.objs.size (.tup [.str ⟨#[c]⟩, ys[i]])) h2 s.heap.objs.size (.tup [.str ⟨#[c]⟩, ys[i]]) :=
      ⟨(by decide : 2 ≤ sizeLine), [.str ⟨#[c]⟩ tc, u], .cons ⟨tc, rfl⟩ (.cons ru .nil), ⟨_, nt, rfl, _, rfl⟩⟩
    have J : L2.Inv X pins σ (upd H s.heap.objs.size (.tup [.str ⟨#[c]⟩, ys[i]])) { s with heap := h2, toks := t1 } :=
      I.turnedNew (t' := t1) (ch := [z, TI, TO, i1, i2]) kp2 hf (Nat.le_refl _) pair
    obtain ⟨ob, g1, r1⟩ := f1
    refine ⟨.ref s.heap.objs.size, _, J, rfl, ⟨_, c, ys[i], rfl, I.hok.fresh (Nat.le_refl _), rfl, hx, fun l hl => ?_⟩,
      { zip := z2, ins := (sb.2 _ D.TIz).trans (kp _ _ D.TIz D.TITO D.TIi1 D.TIi2 q.ins), outs := ⟨_, u, (sb.2 _ D.TOz).trans o1⟩, txt := ⟨ob, (sb.2 _ D.i1z).trans g1, r1⟩, tup := f2.1.at fun o e => (sb.2 _ D.i2z).trans e }, fun a ha => ?_⟩
    · obtain rfl := I.tuple_inj hl hy
      exact List.getElem?_eq_getElem l2
    · exact (upd_ne (Nat.ne_of_lt (sm a ha))).trans (hf a ha).1
  done := by
    rintro X rfl rfl rfl hc i pins s σ H E I hf q ⟨ys, hy, l1, l2, l3⟩
    obtain ⟨vs, rv, tv, _⟩ := I.tuple hy
    obtain ⟨_, _, q3⟩ := q.outs
    have hd : X.A.in1.handled = none := I.ok.hd hc
    have e2 : vs.toArray.size = ys.length := by simpa using rv.length.symm
    refine wpAny_pyNext_zipD2_end (sep_of D) (Draws.text hd i1 x tk0) (Draws.tuple hd i2 b D.l1i2 vs.toArray) q.zip q.ins q3 q.txt ⟨q.tup, tv⟩ l1 (by omega) (by omega) fun h' tk kp => ⟨rfl, I.turnedL (t' := tk) (ch := [z, TI, TO, i1, i2]) (fun a o na e => ?_) hf⟩
    obtain ⟨n1, _, n3, n4, n5⟩ := no5 na
    exact kp a o n1 n3 n4 n5 e
  self := fun _ _ _ _ _ q h => wpAny_pyIter_zip q.zip h
def iZipST (K : PySem.W.Frag) (ta : TA) : TI := fun σ H R => ta σ H fun vs H1 => ∃ x b ys, vs = [.str x, .ref b] ∧ SqT K H1 b ys ∧ R (ItzST K x b) H1
theorem pi_zipST {X : Cx} {e e2 : Expr} {ta : TA} {p pos tpos : Pos} {elts : List Expr} {kk : Nat} (hg : Gl X "zip") (hm : X.mg "zip" = none) (ha : PA X [e, e2] ta)
    (hs : starEach [e, e2] X.env = (false, eval e X.env) :: starEach [e2] X.env := by rfl) (hpl : (backTo pos (starEach [e2] X.env)).any (·.1) = false := by rfl) :
    PI X (.Tuple elts kk tpos) (.Call (.Name "zip" p) [e, e2] [] pos) (iZipST X.K ta) where
  run pins s σ H R I h := by
    have go := ha.run pos pins s σ H _ I h
    refine Call_ (ld_blt I hg hm PyProof.Rows.boot_zip (PyProof.Rows.callWith_type1 (thn go ?_) hs hpl))
    rintro us s1 ⟨vs, H1, J, r1, x, b, ys, rfl, hy, q⟩
    match us, r1 with
    | [_, _], .cons ⟨tk0, rfl⟩ (.cons rfl .nil) =>
      obtain ⟨its, _, tv, _⟩ := J.tuple hy
      obtain ⟨_, hb, _⟩ := id tv
      have lb := Heap.lt_size hb
      let n := s1.heap.objs.size
      have up : ∀ c, c ∈ [n + 4, n + 2, n + 3, n, n + 1] → n ≤ c := all5 (by omega) (by omega) (by omega) (by omega) (by omega)
      refine zip_begins2 (begins_text x tk0) (begins_tuple b its.toArray) trivial (show s1.heap.IsTuple b its.toArray from tv) fun h' q1 q2 q3 q4 q5 _ kp => wpAny_pyIter_zip q1 ?_
      exact ⟨n + 4, [n + 4, n + 2, n + 3, n, n + 1], _, _, H1, rfl, J.kept (t' := s1.toks) kp, turn_zipST (PySem.W.ktu_apart n b b lb lb),
        ⟨q1, q2, ⟨_, _, q3⟩, ⟨_, q4, rfl, rfl⟩, ⟨_, q5, rfl, rfl⟩⟩, fun c hc => J.fpOk (up c hc) (J.hok.fresh (up c hc)), q⟩

open PpSet
theorem pg_tupK {X : Cx} {K' : PySem.W.Frag} {es : List Expr} {k : Nat} {t : TGs} {n : Nat} {pos : Pos} (hK : X.K = K') (hc : X.calm = true) (h : PGs X es t)
    (hn : (assignEach es X.env).length = n := by rfl) (hst : (assignEach es X.env).findIdx? (·.1) = none := by rfl) : PG X (.Tuple es k pos) (gTup K' n t) := by
  subst hK
  exact pg_tup hc h hn hst
section
variable {X : Cx} {K' : PySem.W.Frag}
theorem op_in_seqK (hK : X.K = K') : OpR X (compareOp .In) (rIn K' false) := by subst hK; exact op_in_seq
theorem op_notIn_seqK (hK : X.K = K') : OpR X (compareOp .NotIn) (rIn K' true) := by subst hK; exact op_notIn_seq
theorem ix_listK (hK : X.K = K') : IxR X (rIxL K') := by subst hK; exact ix_list
theorem ix_tupK (hK : X.K = K') : IxR X (rIxT K') := by subst hK; exact ix_tup
theorem call_lenQK (hK : X.K = K') : CallR X (.builtin "len") (rLenQ K') := by subst hK; exact call_lenQ
end
/-! ### readings of these -/
def kZ (K : PySem.W.Frag) (R : It → Hp → Prop) : List V → Hp → Prop := fun vs H1 => ∃ x b ys, vs = [.str x, .ref b] ∧ SqT K H1 b ys ∧ R (ItzST K x b) H1
theorem w_zST {K : PySem.W.Frag} {ta : TA} {σ : L2.St} {H : Hp} {R : It → Hp → Prop} (q : ta σ H (kZ K R)) : iZipST K ta σ H R := q
theorem w_forZ {K : PySem.W.Frag} {g : TG} {tb : TS} {D : Ends} {σ : L2.St} {H : Hp} {x : Str} {b : Addr} (ys : List V) (Pv : Nat → L2.St → Hp → Prop) (hq : SqT K H b ys) (hle : x.cps.size = ys.length) (h0 : Pv 0 σ H) (hl : ∀ i σ H, Pv i σ H → SqT K H b ys)
    (hs : ∀ i c y T σ H H', x.cps[i]? = some c → ys[i]? = some y → Pv i σ H → H T = none → Same H H' → H' T = some (.tup [.str ⟨#[c]⟩, y]) → g (.ref T) σ H' fun σ2 H2 => tb { D with nx := Pv (i + 1), ct := Pv (i + 1), bk := D.nx } σ2 H2)
    (hd : ∀ σ H, Pv ys.length σ H → D.nx σ H) : kZ K (kFor g tb D σ) [.str x, .ref b] H := by
  refine ⟨x, b, ys, rfl, hq, fun i m σ H => m = ys.length - i ∧ i ≤ ys.length ∧ Pv i σ H, ⟨ys.length, by simp, Nat.zero_le _, h0⟩, ?_⟩
  rintro i m σ H ⟨rfl, hi, p⟩
  have q := hl i σ H p
  by_cases hlt : i < ys.length
  · refine .inr ⟨⟨ys, q, by omega, hlt⟩, Pv (i + 1), fun σ' H' p' => ⟨ys.length - (i + 1), by omega, rfl, hlt, p'⟩, fun v H' y => ?_⟩
    obtain ⟨T, c, y, rfl, nT, rfl, hc, hy⟩ := y
    exact hs i c y T σ H _ hc (hy ys q) p nT (Same.new nT) upd_same
  · have e : i = ys.length := by omega
    subst e
    exact .inl ⟨⟨ys, q, by omega, Nat.le_refl _, .inr rfl⟩, hd σ H p⟩
theorem w_lcZ {K : PySem.W.Frag} {g : TG} {tt : TT} {te : TE} {vs : List Nat} {σ : L2.St} {H : Hp} {Q : VK} {x : Str} {b : Addr} (ys : List V) (Pv : Addr → Nat → Hp → Prop) (hq : SqT K H b ys) (hle : x.cps.size = ys.length) (h0 : ∀ D, H D = none → Pv D 0 (upd H D (.lst []))) (hl : ∀ D i H, Pv D i H → SqT K H b ys)
    (hs : ∀ D i c y T H H', x.cps[i]? = some c → ys[i]? = some y → Pv D i H → H T = none → Same H H' → H' T = some (.tup [.str ⟨#[c]⟩, y]) → g (.ref T) (wipe σ vs) H' fun σ2 H2 => wipe σ2 vs = wipe σ vs ∧ tt σ2 H2 fun b H3 =>
      if b = true then te σ2 H3 fun y H4 => ∃ acc, H4 D = some (.lst acc) ∧ acc.length < sizeLine ∧ Pv D (i + 1) (upd H4 D (.lst (acc ++ [y]))) else Pv D (i + 1) H3) (hd : ∀ D H', H D = none → Pv D ys.length H' → Q (.ref D) H') : kZ K (kLc g tt te vs σ Q) [.str x, .ref b] H := by
  refine ⟨x, b, ys, rfl, hq, fun D nD => ⟨fun i m H => m = ys.length - i ∧ i ≤ ys.length ∧ Pv D i H, ⟨ys.length, by simp, Nat.zero_le _, h0 D nD⟩, ?_⟩⟩
  rintro i m H' ⟨rfl, hi, p⟩
  have q := hl D i H' p
  by_cases hlt : i < ys.length
  · refine .inr ⟨⟨ys, q, by omega, hlt⟩, Pv D (i + 1), fun H2 p' => ⟨ys.length - (i + 1), by omega, rfl, hlt, p'⟩, fun v H2 y => ?_⟩
    obtain ⟨T, c, y, rfl, nT, rfl, hc, hy⟩ := y
    exact hs D i c y T H' _ hc (hy ys q) p nT (Same.new nT) upd_same
  · have e : i = ys.length := by omega
    subst e
    exact .inl ⟨⟨ys, q, by omega, Nat.le_refl _, .inr rfl⟩, hd D H' nD p⟩
def kSt (R : It → Hp → Prop) : V → Hp → Prop := fun v H1 => ∃ x, v = .str x ∧ R (Its x) H1
theorem w_iSt {te : TE} {σ : L2.St} {H : Hp} {R : It → Hp → Prop} (q : te σ H (kSt R)) : iStr te σ H R := q
theorem w_forS {g : TG} {tb : TS} {D : Ends} {σ : L2.St} {H : Hp} {x : Str} (Pv : Nat → L2.St → Hp → Prop) (h0 : Pv 0 σ H)
    (hs : ∀ i c σ H, x.cps[i]? = some c → Pv i σ H → g (.str ⟨#[c]⟩) σ H fun σ2 H2 => tb { D with nx := Pv (i + 1), ct := Pv (i + 1), bk := D.nx } σ2 H2)
    (hd : ∀ σ H, Pv x.cps.size σ H → D.nx σ H) : kSt (kFor g tb D σ) (.str x) H := by
  refine ⟨x, rfl, fun i m σ H => m = x.cps.size - i ∧ i ≤ x.cps.size ∧ Pv i σ H, ⟨x.cps.size, by simp, Nat.zero_le _, h0⟩, ?_⟩
  rintro i m σ H ⟨rfl, hi, p⟩
  by_cases hlt : i < x.cps.size
  · refine .inr ⟨hlt, Pv (i + 1), fun σ' H' p' => ⟨x.cps.size - (i + 1), by omega, rfl, hlt, p'⟩, fun v H' y => ?_⟩
    obtain ⟨rfl, c, hc, rfl⟩ := y
    exact hs i c σ _ hc p
  · have e : i = x.cps.size := by omega
    subst e
    exact .inl ⟨Nat.le_refl _, hd σ H p⟩
/-- t[1:] of a tuple of two and more -/
theorem w_sl {r : V → Option Int → Option Int → Hp → VK → Prop} {te : TE} {tl th : TO} {σ : L2.St} {H : Hp} {Q : VK} (q : te σ H fun x H1 => tl σ H1 fun l H2 => th σ H2 fun u H3 => r x l u H3 Q) : tSl r te tl th σ H Q := q
theorem w_part {te : TE} {σ : L2.St} {H : Hp} {Q : Option Int → Hp → Prop} (q : te σ H fun x H1 => ∃ i, x = .int i ∧ Q (some i) H1) : tPart te σ H Q := q
theorem w_noPart {σ : L2.St} {H : Hp} {Q : Option Int → Hp → Prop} (q : Q none H) : tNoPart σ H Q := q
theorem w_exI {i : Int} {Q : Int → Prop} (q : Q i) : ∃ j, V.int i = .int j ∧ Q j := ⟨i, rfl, q⟩
theorem w_rSl1 {K : PySem.W.Frag} {H : Hp} {Q : VK} {a : Addr} {v y : V} {r : List V} (h : SqT K H a (v :: y :: r)) (q : ∀ p H', H p = none → Same H H' → H' p = some (.tup (y :: r)) → Q (.ref p) H') : rSlA K (.ref a) (some 1) none H Q := by
  refine ⟨a, _, rfl, h, fun ⟨e, _⟩ => ?_, fun _ p np => ?_⟩
  · rw [show HT.sIx (v :: y :: r).length 0 (some 1) = min 1 (v :: y :: r).length from HT.sIx_nat _ 0 1] at e
    simp at e
  · refine q p _ np (Same.new np) ?_
    have e : cutV (v :: y :: r) (some 1) none = y :: r := by
      unfold cutV
      rw [show HT.sIx (v :: y :: r).length 0 (some 1) = min 1 (v :: y :: r).length from HT.sIx_nat _ 0 1, HT.sIx_none]
      rw [show min 1 (v :: y :: r).length = 1 by simp]
      simp
    rw [e]; exact upd_same
def kScG (w : World) (g : TG) (tt : TT) (tb : Addr → TBd) (vs : List Nat) (σ : L2.St) (Q : VK) : It → Hp → Prop := fun J H1 => ∀ D, H1 D = none → tLp g tt (tb D) vs σ (Q (.ref D)) J (upd H1 D (SetO w D (fun _ => false) 0))
theorem w_sc {w : World} {wi : TI} {g : TG} {tt : TT} {tb : Addr → TBd} {vs : List Nat} {σ : L2.St} {H : Hp} {Q : VK} (q : wi σ H (kScG w g tt tb vs σ Q)) : tScG w wi g tt tb vs σ H Q := q
/-- a clause's loop over a list or a tuple, by an invariant -/
theorem w_lpG {It0 : It} {g : TG} {tt : TT} {tb : TBd} {vs : List Nat} {σ : L2.St} {H : Hp} {Z : Hp → Prop} (xs : List V) (Pv : Nat → Hp → Prop) (h0 : Pv 0 H) (go : ∀ i H, i < xs.length → Pv i H → It0.go i H) (stop : ∀ H, Pv xs.length H → It0.stop xs.length H) (yld : ∀ i H x H', Pv i H → It0.yld i H x H' → H' = H ∧ xs[i]? = some x)
    (hs : ∀ i x H, xs[i]? = some x → Pv i H → g x (wipe σ vs) H fun σ2 H2 => wipe σ2 vs = wipe σ vs ∧ tt σ2 H2 fun b H3 => if b = true then tb σ2 H3 (Pv (i + 1)) else Pv (i + 1) H3) (hd : ∀ H, Pv xs.length H → Z H) : tLp g tt tb vs σ Z It0 H := by
  refine ⟨fun i m H => m = xs.length - i ∧ i ≤ xs.length ∧ Pv i H, ⟨xs.length, by simp, Nat.zero_le _, h0⟩, ?_⟩
  rintro i m H' ⟨rfl, hi, p⟩
  rcases Nat.lt_or_ge i xs.length with lt | ge
  · refine .inr ⟨go i H' lt p, Pv (i + 1), fun H2 p2 => ⟨xs.length - (i + 1), by omega, rfl, lt, p2⟩, fun v H2 y => ?_⟩
    obtain ⟨rfl, e⟩ := yld i H' v H2 p y
    exact hs i v _ e p
  · obtain rfl : i = xs.length := by omega
    exact .inl ⟨stop H' p, hd H' p⟩
theorem w_lpL {K : PySem.W.Frag} {g : TG} {tt : TT} {tb : TBd} {vs : List Nat} {σ : L2.St} {H : Hp} {Z : Hp → Prop} {a : Addr} (xs : List V) (Pv : Nat → Hp → Prop) (h0 : Pv 0 H) (hl : ∀ i H, Pv i H → SqL K H a xs)
    (hs : ∀ i x H, xs[i]? = some x → Pv i H → g x (wipe σ vs) H fun σ2 H2 => wipe σ2 vs = wipe σ vs ∧ tt σ2 H2 fun b H3 => if b = true then tb σ2 H3 (Pv (i + 1)) else Pv (i + 1) H3) (hd : ∀ H, Pv xs.length H → Z H) : tLp g tt tb vs σ Z (Itl K a) H :=
  w_lpG xs Pv h0 (fun i H lt p => ⟨xs, xs[i], hl i H p, by simp [lt]⟩) (fun H p => ⟨xs, hl _ H p, Nat.le_refl _⟩) (fun i H x H' p y => ⟨y.1, y.2 xs (hl i H p)⟩) hs hd
theorem w_lpT {K : PySem.W.Frag} {g : TG} {tt : TT} {tb : TBd} {vs : List Nat} {σ : L2.St} {H : Hp} {Z : Hp → Prop} {a : Addr} (xs : List V) (Pv : Nat → Hp → Prop) (h0 : Pv 0 H) (hl : ∀ i H, Pv i H → SqT K H a xs)
    (hs : ∀ i x H, xs[i]? = some x → Pv i H → g x (wipe σ vs) H fun σ2 H2 => wipe σ2 vs = wipe σ vs ∧ tt σ2 H2 fun b H3 => if b = true then tb σ2 H3 (Pv (i + 1)) else Pv (i + 1) H3) (hd : ∀ H, Pv xs.length H → Z H) : tLp g tt tb vs σ Z (Itt K a) H :=
  w_lpG xs Pv h0 (fun i H lt p => ⟨xs, xs[i], hl i H p, by simp [lt]⟩) (fun H p => ⟨xs, hl _ H p, Nat.le_refl _⟩) (fun i H x H' p y => ⟨y.1, y.2 xs (hl i H p)⟩) hs hd
theorem w_scL {K : PySem.W.Frag} {w : World} {g : TG} {tt : TT} {te : TE} {vs : List Nat} {σ : L2.St} {H : Hp} {Q : VK} {a : Addr} (xs : List V) (Pv : Addr → Nat → Hp → Prop) (hS : SqL K H a xs) (h0 : ∀ D, H D = none → Pv D 0 (upd H D (SetO w D (fun _ => false) 0))) (hl : ∀ D i H, Pv D i H → SqL K H a xs)
    (hs : ∀ D i x H, xs[i]? = some x → Pv D i H → g x (wipe σ vs) H fun σ2 H2 => wipe σ2 vs = wipe σ vs ∧ tt σ2 H2 fun b H3 => if b = true then te σ2 H3 fun y H4 => ∃ (c : Int) (S : Int → Bool) (n : Nat), y = .int c ∧ H4 D = some (SetO w D S n) ∧ n + 1 < scanBound ∧ Pv D (i + 1) (upd H4 D (SetO w D (fun j => S j || decide (j = c)) (if S c = true then n else n + 1))) else Pv D (i + 1) H3)
    (hd : ∀ D H', H D = none → Pv D xs.length H' → Q (.ref D) H') : kIL K (kScG w g tt (fun D => tAdd w D te) vs σ Q) (.ref a) H :=
  ⟨a, rfl, ⟨_, hS⟩, fun D nD => w_lpL xs (Pv D) (h0 D nD) (hl D) (hs D) fun H' p => hd D H' nD p⟩
theorem asc_eq : ∀ {l m : List Int}, l.Pairwise (· < ·) → m.Pairwise (· < ·) → (∀ k, k ∈ l ↔ k ∈ m) → l = m
  | [], [], _, _, _ => rfl
  | [], y :: m, _, _, h => by have := (h y).mpr (by simp); simp at this
  | x :: l, [], _, _, h => by have := (h x).mp (by simp); simp at this
  | x :: l, y :: m, p, q, h => by
    rw [List.pairwise_cons] at p q
    have e : x = y := by
      have a := (h x).mp (by simp)
      have b := (h y).mpr (by simp)
      rw [List.mem_cons] at a b
      rcases a with a | a
      · exact a
      · rcases b with b | b
        · exact b.symm
        · have := q.1 x a; have := p.1 y b; omega
    subst e
    congr 1
    refine asc_eq p.2 q.2 fun k => ⟨fun hk => ?_, fun hk => ?_⟩
    · have := (h k).mp (List.mem_cons_of_mem _ hk)
      rw [List.mem_cons] at this
      rcases this with e | e
      · subst e; have := p.1 k hk; omega
      · exact e
    · have := (h k).mpr (List.mem_cons_of_mem _ hk)
      rw [List.mem_cons] at this
      rcases this with e | e
      · subst e; have := q.1 k hk; omega
      · exact e
/-! ### texts, indices, sets -/
def Evl0.rInSQ : R2 := fun x y H Q => ∃ (c : Nat) (z : Str), x = .str ⟨#[c]⟩ ∧ y = .str z ∧ Q (.bl (decide (c ∈ z.cps.toList))) H
theorem op_inSQ {X : Cx} : OpR X (compareOp .In) Evl0.rInSQ := op_in_sign
theorem w_m1 {r : V → List V → Hp → VK → Prop} {to te : TE} {σ : L2.St} {H : Hp} {Q : VK} (q : to σ H fun x H1 => (∃ a, x = .str a) ∧ te σ H1 fun y H2 => r x [y] H2 Q) : tM1 r to te σ H Q := q
theorem w_isS {a : Str} {B : Prop} (q : B) : (∃ b, V.str a = .str b) ∧ B := ⟨⟨a, rfl⟩, q⟩
def rStartsQ : V → List V → Hp → VK → Prop := fun x xs H Q => ∃ a b, x = .str a ∧ xs = [.str b] ∧ Q (.bl (Txt.startswith a b)) H
theorem mt_startsQ {X : Cx} : MtR X "str.startswith" rStartsQ := mt_startswith
theorem w_starts {a b : Str} {H : Hp} {Q : VK} (q : Q (.bl (Txt.startswith a b)) H) : rStartsQ (.str a) [.str b] H Q := ⟨a, b, rfl, rfl, q⟩
def rTIxQ (K : PySem.W.Frag) : V → List V → Hp → VK → Prop := fun x xs H Q => ∃ p, ∃ ys : List Str, ∃ z j, x = .ref p ∧ xs = [.str z] ∧ SqT K H p (ys.map V.str) ∧ ys[j]? = some z ∧ (∀ m, m < j → ys[m]? ≠ some z) ∧ Q (.int (j : Nat)) H
theorem mt_tupIxQ {X : Cx} : MtR X "tuple.index" (rTIxQ X.K) := mt_tup_index
theorem w_tix {K : PySem.W.Frag} {O : Addr} {ys : List Str} {z : Str} {j : Nat} {H : Hp} {Q : VK} (h : SqT K H O (ys.map V.str)) (h1 : ys[j]? = some z) (h2 : ∀ m, m < j → ys[m]? ≠ some z) (q : Q (.int (j : Nat)) H) : rTIxQ K (.ref O) [.str z] H Q := ⟨O, ys, z, j, rfl, rfl, h, h1, h2, q⟩
theorem w_aug {te : TE} {ti : TIp} {D : Ends} {σ : L2.St} {H : Hp} {i : Nat} {x : V} (h : σ[i]? = some (some x)) (q : te σ H fun y H1 => ti x y H1 fun z H2 => D.nx (σ.set i (some z)) H2) : tAug i te ti D σ H := ⟨x, h, q⟩
theorem w_ipI {f : Int → Int → Int} {i j : Int} {H : Hp} {Q : VK} (q : Q (.int (f i j)) H) : ipI f (.int i) (.int j) H Q := ⟨i, j, rfl, rfl, q⟩
theorem w_lenTs {K : PySem.W.Frag} {p : Addr} {xs : List V} {H : Hp} {Q : VK} (h : SqT K H p xs) (q : Q (.int (xs.length : Int)) H) : rLenQ K [.ref p] H Q := ⟨p, xs, rfl, .inr h, q⟩
theorem w_stR {K : PySem.W.Frag} {p : Addr} {xs : List V} {H : Hp} {B : List V → Prop} (h : H p = some (.lst xs)) (q : B xs) : ∃ p' xs', V.ref p = .ref p' ∧ (SqT K H p' xs' ∨ SqL K H p' xs') ∧ B xs' := ⟨p, xs, rfl, .inr (.of h), q⟩
theorem eqV_str {a b : Str} : eqV (.str a) (.str b) = (a == b) := rfl
theorem w_lix {K : PySem.W.Frag} {p : Addr} {ys : List Str} {z : Str} {j : Nat} {H : Hp} {Q : VK} (h : H p = some (.lst (ys.map V.str))) (h1 : ys[j]? = some z) (h2 : ∀ m, m < j → ys[m]? ≠ some z) (q : Q (.int (j : Nat)) H) : rIndex K (.ref p) [.str z] H Q := by
  refine ⟨p, ys.map V.str, .str z, j, .str z, rfl, rfl, .of h, rfl, ?_, ?_, ?_, fun m y hm hy => ?_, q⟩
  · rw [List.all_eq_true]
    intro v hv
    obtain ⟨s, _, rfl⟩ := List.mem_map.mp hv
    rfl
  · rw [List.getElem?_map, h1]; rfl
  · rw [eqV_str]; exact beq_self_eq_true z
  · rw [List.getElem?_map] at hy
    cases e : ys[m]? with
    | none => rw [e] at hy; cases hy
    | some s =>
      rw [e] at hy
      cases hy
      rw [eqV_str]
      exact beq_eq_false_iff_ne.mpr fun z' => h2 m hm (by rw [e, z'])
theorem _root_.L2.Same.sqT {K : PySem.W.Frag} {H H' : Hp} {a : Addr} {xs : List V} (e : Same H H') (h : SqT K H a xs) : SqT K H' a xs := by
  rcases h with (h | ⟨o, h⟩) | h
  · exact .inl (.inl (e _ _ h))
  · exact .inl (.inr ⟨o, e _ _ h⟩)
  · exact .inr h
theorem w_lenTn {K : PySem.W.Frag} {p : Addr} {xs : List V} {H : Hp} {Q : VK} (n : Nat) (h : SqT K H p xs) (e : xs.length = n) (q : Q (.int (n : Int)) H) : rLenQ K [.ref p] H Q := ⟨p, xs, rfl, .inr h, by rw [e]; exact q⟩
theorem w_bm {K : PySem.W.Frag} {T : String} {r : V → List V → Hp → VK → Prop} {to : TE} {t : TA} {σ : L2.St} {H : Hp} {Q : VK} (q : to σ H fun x H1 => tyV K T x H1 ∧ t σ H1 fun xs H2 => r x xs H2 Q) : tBM K T r to t σ H Q := q
theorem w_tyL {K : PySem.W.Frag} {p : Addr} {xs : List V} {H : Hp} {B : Prop} (h : H p = some (.lst xs)) (q : B) : tyV K "list" (.ref p) H ∧ B := ⟨.inl ⟨rfl, xs, .inl (.inl h)⟩, q⟩
theorem w_append {p : Addr} {xs : List V} {y : V} {H : Hp} {Q : VK} (h : H p = some (.lst xs)) (hl : xs.length < sizeLine) (q : ∀ H', H' p = some (.lst (xs ++ [y])) → But p H H' → Q .non H') : rAppend (.ref p) [y] H Q := ⟨p, xs, y, rfl, rfl, h, hl, q _ upd_same But.set⟩
def rListQ (K : PySem.W.Frag) : List V → Hp → VK → Prop := fun xs H Q => ∃ p ys, xs = [.ref p] ∧ (SqL K H p ys ∨ SqT K H p ys) ∧ ∀ l, H l = none → Q (.ref l) (upd H l (.lst ys))
theorem call_listQ {X : Cx} : CallR X (.type "list") (rListQ X.K) := call_list_of
theorem w_listT {K : PySem.W.Frag} {p : Addr} {ys : List V} {H : Hp} {Q : VK} (h : SqT K H p ys) (q : ∀ l H', H l = none → Same H H' → H' l = some (.lst ys) → Q (.ref l) H') : rListQ K [.ref p] H Q := ⟨p, ys, rfl, .inr h, fun l nl => q l _ nl (Same.new nl) upd_same⟩
theorem w_listL {K : PySem.W.Frag} {p : Addr} {ys : List V} {H : Hp} {Q : VK} (h : SqL K H p ys) (q : ∀ l H', H l = none → Same H H' → H' l = some (.lst ys) → Q (.ref l) H') : rListQ K [.ref p] H Q := ⟨p, ys, rfl, .inl h, fun l nl => q l _ nl (Same.new nl) upd_same⟩
def rTupQ (K : PySem.W.Frag) : List V → Hp → VK → Prop := fun xs H Q => ∃ p ys, xs = [.ref p] ∧ ((SqL K H p ys ∧ ∀ l, H l = none → Q (.ref l) (upd H l (.tup ys))) ∨ (SqT K H p ys ∧ Q (.ref p) H))
theorem call_tupQ {X : Cx} : CallR X (.type "tuple") (rTupQ X.K) := call_tuple_of
theorem w_tupL {K : PySem.W.Frag} {p : Addr} {ys : List V} {H : Hp} {Q : VK} (h : SqL K H p ys) (q : ∀ l H', H l = none → Same H H' → H' l = some (.tup ys) → Q (.ref l) H') : rTupQ K [.ref p] H Q := ⟨p, ys, rfl, .inl ⟨h, fun l nl => q l _ nl (Same.new nl) upd_same⟩⟩
theorem w_sortedSet {w : World} {a : Addr} {S : Int → Bool} {n : Nat} {H : Hp} {Q : VK} (h : H a = some (SetO w a S n)) (hn : n < 64) (q : ∀ (ns : List Int) (p : Addr) H', ns.Pairwise (· < ·) → (∀ k : Int, k ∈ ns ↔ S k = true) → ns.length = n → H p = none → Same H H' → H' p = some (.lst (ns.map V.int)) → Q (.ref p) H') : rSortedSet w [.ref a] H Q :=
  ⟨a, S, n, rfl, h, hn, fun ns p h1 h2 h3 np => q ns p _ h1 h2 h3 np (Same.new np) upd_same⟩
theorem w_star {K : PySem.W.Frag} {te : TE} {t : TA} {σ : L2.St} {H : Hp} {Q : List V → Hp → Prop} (q : te σ H fun x H1 => ∃ p xs, x = V.ref p ∧ (SqT K H1 p xs ∨ SqL K H1 p xs) ∧ t σ H1 fun ys H2 => Q (xs ++ ys) H2) : StX.tStar K te t σ H Q := q
theorem w_inSg {c : Nat} {z : Str} {H : Hp} {Q : VK} (q : Q (.bl (decide (c ∈ z.cps.toList))) H) : Evl0.rInSQ (.str ⟨#[c]⟩) (.str z) H Q := ⟨c, z, rfl, rfl, q⟩
theorem w_eqD {K : PySem.W.Frag} {x y : V} {d : PyData} {H : Hp} {Q : VK} (h1 : Dp K H x d) (h2 : Dp K H y d) (hs : SeqAt.shaped d = true) (q : Q (.bl true) H) : rEqD K x y H Q := ⟨d, d, h1, h2, hs, hs, by rw [SeqAt.eqv_refl _ (SeqAt.canLay_of_shaped hs)]; exact q⟩
theorem w_neD {K : PySem.W.Frag} {x y : V} {d : PyData} {H : Hp} {Q : VK} (h1 : Dp K H x d) (h2 : Dp K H y d) (hs : SeqAt.shaped d = true) (q : Q (.bl false) H) : rNeD K x y H Q := ⟨d, d, h1, h2, hs, hs, by rw [SeqAt.eqv_refl _ (SeqAt.canLay_of_shaped hs)]; exact q⟩
end Co

set_option Elab.async false
set_option linter.all false
set_option maxRecDepth 100000
set_option maxHeartbeats 4000000
namespace Co
open PySem PySem.Spec PyProof.Rows L2
open AutoSeq1 (wpAny_loadPart')
/-! ### enumerate of a tuple -/
abbrev tupIt (t : Addr) : Obj := { cls := .type "tuple_iterator", data := .fields #[.ref t, .int 0 0] }
abbrev enumOb (it : Addr) : Obj := { cls := .type "enumerate", data := .fields #[.none, .bool false, .ref it, rawInt 0, .none, .none] }
theorem iter_tup {prog : Program} {w : World} {A : Around} {E : Value → Shared → Prop} {s : Shared} {t : Addr} {items : Array Value} {Q : Value → Shared → Prop} (h : s.heap.IsTuple t items) (q : Q (.ref s.heap.objs.size) { s with heap := s.heap.push (tupIt t) }) : wpAny (model prog w) A (pyIter (.ref t)) Q E s :=
  (begins_tuple t items).iter prog w A E s Q h q
theorem meets_enumT (t : Addr) (o : Obj) (items : Array Value) (ho : o.cls = .type "tuple") :
    Meets (Builtin.«enumerate.__new__» ⟨[.type "enumerate", .ref t], []⟩) (fun _ R s => (s.heap.get? t = some o ∧ s.heap.IsTuple t items) ∧
      R (.ok (.ret (.ref (s.heap.push (tupIt t)).objs.size))) { s with heap := (s.heap.push (tupIt t)).push (enumOb s.heap.objs.size) }) :=
  .of_wp fun prog w A R s h => by
    obtain ⟨hp, g, d, tk, os⟩ := s; obtain ⟨⟨hl, hT⟩, h⟩ := h
    obtain ⟨c, dct, dt, sl⟩ := o
    replace ho : c = .type "tuple" := ho
    subst ho
    have hsub := sub_enumerate
    wp_walk using wpAny_loadPart' hl
    refine wpAny_stack_any fun st => wpAny_pure ?_
    split
    · rename_i c _ _ _ _ _
      cases (c == Value.type "enumerate")
      · wp_walk using wpAny_loadPart' hl, iter_tup hT
        exact ⟨_, rfl, h⟩
      · wp_walk using wpAny_loadPart' hl, iter_tup hT
        exact ⟨_, rfl, h⟩
    · wp_walk using wpAny_loadPart' hl, iter_tup hT
      exact ⟨_, rfl, h⟩
theorem call_enumT {prog : Program} {w : World} {A : Around} {E : Value → Shared → Prop} {s : Shared} {t : Addr} {items : Array Value} {Q : Value → Shared → Prop} (hT : s.heap.IsTuple t items)
    (q : ∀ h', IsEnum h' (s.heap.objs.size + 1) s.heap.objs.size 0 .none → h'.IsTupleIter s.heap.objs.size t 0 → (∀ b o, s.heap.get? b = some o → h'.get? b = some o) → Q (.ref (s.heap.objs.size + 1)) { s with heap := h' }) :
    wpAny (model prog w) A (call (.type "enumerate") [.ref t]) Q E s := by
  obtain ⟨o, ho, hc, hd⟩ := id hT
  refine callType_new F.called_enumerate (by decide) (F.typeCall_enumerate_1 _) (F.newCall_enumerate_1 _) (fun obj => F.args_object_init_2 obj _) F.entry_enumerate_new (meets_enumT t o items hc) ⟨⟨ho, hT⟩, ?_⟩
  have hz : (s.heap.push (tupIt t)).objs.size = s.heap.objs.size + 1 := Heap.size_push ..
  have he : IsEnum ((s.heap.push (tupIt t)).push (enumOb s.heap.objs.size)) (s.heap.objs.size + 1) s.heap.objs.size 0 .none := by
    have z := Heap.get?_push_size (s.heap.push (tupIt t)) (o := enumOb s.heap.objs.size) rfl
    rw [hz] at z; exact z
  show _ ∧ _
  rw [hz]
  exact ⟨⟨_, he, rfl⟩, q _ he ⟨_, Heap.get?_push_of_some _ (Heap.get?_push_size _ rfl), rfl, rfl⟩ fun b o x => Heap.get?_push_of_some _ (Heap.get?_push_of_some _ x)⟩
def IteT (K : PySem.W.Frag) (a : Addr) : It :=
  ⟨fun i H => ∃ xs x, SqT K H a xs ∧ xs[i]? = some x,
    fun i H v H' => ∃ T x, v = .ref T ∧ H T = none ∧ H' = upd H T (.tup [.int (i : Nat), x]) ∧ ∀ xs, SqT K H a xs → xs[i]? = some x,
    fun i H => ∃ xs, SqT K H a xs ∧ xs.length = i⟩
/-- the two objects of such an enumerate, as they stand before its turn `i` -/
structure EAt (a e it : Addr) (i : Nat) (h : Heap) : Prop where
  num : ∃ old, IsEnum h e it ((i : Nat) : Int) old
  tup : h.IsTupleIter it a i
theorem all2 {p : Addr → Prop} {a b : Addr} (ha : p a) (hb : p b) : ∀ y, y ∈ [a, b] → p y := by simpa using ⟨ha, hb⟩
theorem EAt.small {a e it : Addr} {i : Nat} {h : Heap} (q : EAt a e it i h) : ∀ c, c ∈ [e, it] → c < h.objs.size := by
  obtain ⟨_, q1⟩ := q.num
  obtain ⟨_, q2, _⟩ := q.tup
  exact all2 (Heap.lt_size q1) (Heap.lt_size q2)
theorem turn_enumT {P : Program} {w : World} {K : PySem.W.Frag} {elts : List Expr} {kk : Nat} {tpos : Pos} (a e it : Addr) (na : a ≠ it) (ne : e ≠ it) (nea : e ≠ a) :
    Turn P w K (.Tuple elts kk tpos) (IteT K a) [e, it] e (EAt a e it) where
  mem := List.mem_cons_self
  obj := fun i h q => by
    obtain ⟨_, q1⟩ := q.num
    obtain ⟨_, q2, _, d2⟩ := q.tup
    refine all2 ⟨_, q1, ?_⟩ ⟨_, q2, ?_⟩ <;> intro v z <;> simp_all
  keep := fun i h h' q k => by
    obtain ⟨old, q1⟩ := q.num
    exact ⟨⟨old, k e (by simp) _ q1⟩, q.tup.at (k it (by simp))⟩
  item := by
    rintro X rfl rfl rfl hc i pins s σ H E I hf q ⟨xs, x, hy, hx⟩
    obtain ⟨vs, rv, tv, _⟩ := I.tuple hy
    obtain ⟨old, q1⟩ := q.num
    have sm := q.small
    have hd : X.A.in1.handled = none := I.ok.hd hc
    obtain ⟨u, hu, ru'⟩ := rv.get hx
    have lv : i < vs.toArray.size := by
      have := (List.getElem?_eq_some_iff.mp hu).1
      simpa using this
    refine wpAny_pyNext_enum_itemD (Draws.tuple hd it a na vs.toArray) q1 ⟨q.tup, tv⟩ lv ne (by simpa using ⟨ne, nea⟩) fun y h1 t1 Py o1 f1 new _ kp => ?_
    obtain rfl : u = y := by
      have : vs[i]? = some y := by simpa using Py
      simpa [hu] using this
    refine ⟨_, rfl, wpAny_letOwnedTupleGo_enum (s := { s with heap := h1, toks := t1 + 1 }) o1 fun h2 o2 sb => ?_⟩
    have nt : h2.get? s.heap.objs.size = some { cls := .type "tuple", data := .seq #[.int i t1, u] } :=
      (sb.2 _ (Nat.ne_of_gt (sm e (by simp)))).trans new
    have pair : ObjOk X.prog X.w (upd H s.heap.objs.size (.tup [.int (i : Nat), x])) h2 s.heap.objs.size (.tup [.int (i : Nat), x]) :=
      ⟨(by decide : 2 ≤ sizeLine), [.int i t1, u], .cons ⟨_, rfl⟩ (.cons ru' .nil), ⟨_, nt, rfl, _, rfl⟩⟩
    have kp2 : ∀ c o, c ∉ [e, it] → s.heap.get? c = some o → h2.get? c = some o := fun c o nc z => by
      have nn : c ≠ e ∧ c ≠ it := by simpa [not_or] using nc
      exact (sb.2 c nn.1).trans (kp c o nn.1 nn.2 z)
    have J : L2.Inv X pins σ (upd H s.heap.objs.size (.tup [.int (i : Nat), x])) { s with heap := h2, toks := t1 + 1 } :=
      I.turnedNew (t' := t1 + 1) (ch := [e, it]) kp2 hf (Nat.le_refl _) pair
    refine ⟨.ref s.heap.objs.size, _, J, rfl, ⟨_, x, rfl, I.hok.fresh (Nat.le_refl _), rfl, fun l hl => by obtain rfl := I.tuple_inj hl hy; exact hx⟩, ⟨⟨u, by simpa using o2⟩, f1.1.at fun o z => (sb.2 it ne.symm).trans z⟩, fun c hc => (upd_ne (Nat.ne_of_lt (sm c hc))).trans (hf c hc).1⟩
  done := by
    rintro X rfl rfl rfl hc i pins s σ H E I hf q ⟨xs, hy, hx⟩
    obtain ⟨vs, rv, tv, _⟩ := I.tuple hy
    obtain ⟨old, q1⟩ := q.num
    have lv : vs.toArray.size = i := by simpa [hx] using rv.length.symm
    have hd : X.A.in1.handled = none := I.ok.hd hc
    obtain ⟨r0, r1, _, r3, r4, r5⟩ := hf it (by simp)
    exact wpAny_pyNext_enum_endD (Draws.tuple hd it a na vs.toArray) q1 ⟨by rw [lv]; exact q.tup, tv⟩ fun h' eb => ⟨rfl, I.turned (t' := s.toks) (fun b o hb z => eb b o hb z) r0 r1 r3 r4 r5⟩
  self := fun _ _ _ _ _ q h => by obtain ⟨_, q1⟩ := q.num; exact wpAny_pyIter_enum q1 h
def iEnumT (K : PySem.W.Frag) (ta : TA) : TI := fun σ H R => ta σ H fun vs H1 => ∃ a xs, vs = [.ref a] ∧ SqT K H1 a xs ∧ R (IteT K a) H1
theorem pi_enumT {X : Cx} {e : Expr} {ta : TA} {p pos tpos : Pos} {elts : List Expr} {kk : Nat} (hg : Gl X "enumerate") (hm : X.mg "enumerate" = none) (ha : PA X [e] ta) (hs : starEach [e] X.env = [(false, eval e X.env)] := by rfl) :
    PI X (.Tuple elts kk tpos) (.Call (.Name "enumerate" p) [e] [] pos) (iEnumT X.K ta) where
  run pins s σ H R I h := by
    have go := ha.run pos pins s σ H _ I h
    refine Call_ (ld_blt I hg hm boot_enumerate (PyProof.Rows.callWith_type1 (thn go ?_) hs rfl))
    rintro us s1 ⟨vs, H1, J, r1, a, xs, rfl, hy, q⟩
    match us, r1 with
    | [_], .cons rfl .nil =>
      obtain ⟨its, _, tv, _⟩ := J.tuple hy
      obtain ⟨_, ha, _⟩ := id tv
      have la := Heap.lt_size ha
      let n := s1.heap.objs.size
      have up : ∀ c, c ∈ [n + 1, n] → n ≤ c := all2 (by omega) (by omega)
      refine call_enumT (show s1.heap.IsTuple a its.toArray from tv) fun h' q1 q2 kp => wpAny_pyIter_enum q1 ?_
      exact ⟨n + 1, [n + 1, n], _, _, H1, rfl, J.kept (t' := s1.toks) kp, turn_enumT a (n + 1) n (Nat.ne_of_lt la) (Nat.succ_ne_self n) (Nat.ne_of_gt (Nat.lt_succ_of_lt la)), ⟨⟨.none, q1⟩, q2⟩, fun c hc => J.fpOk (up c hc) (J.hok.fresh (up c hc)), q⟩
def kEnT (K : PySem.W.Frag) (R : It → Hp → Prop) : List V → Hp → Prop := fun vs H1 => ∃ a xs, vs = [.ref a] ∧ SqT K H1 a xs ∧ R (IteT K a) H1
theorem w_iEnT {K : PySem.W.Frag} {ta : TA} {σ : L2.St} {H : Hp} {R : It → Hp → Prop} (q : ta σ H (kEnT K R)) : iEnumT K ta σ H R := q
theorem w_forE {K : PySem.W.Frag} {g : TG} {tb : TS} {D : Ends} {σ : L2.St} {H : Hp} {a : Addr} (xs : List V) (Pv : Nat → L2.St → Hp → Prop) (hq : SqT K H a xs) (h0 : Pv 0 σ H) (hl : ∀ i σ H, Pv i σ H → SqT K H a xs)
    (hs : ∀ i x σ H t H1, xs[i]? = some x → Pv i σ H → H t = none → Same H H1 → H1 t = some (.tup [.int (i : Nat), x]) → g (.ref t) σ H1 fun σ2 H2 => tb { D with nx := Pv (i + 1), ct := Pv (i + 1), bk := D.nx } σ2 H2)
    (hd : ∀ σ H, Pv xs.length σ H → D.nx σ H) : kEnT K (kFor g tb D σ) [.ref a] H := by
  refine ⟨a, xs, rfl, hq, fun i m σ H => m = xs.length - i ∧ i ≤ xs.length ∧ Pv i σ H, ⟨xs.length, by simp, Nat.zero_le _, h0⟩, ?_⟩
  rintro i m σ H ⟨rfl, hi, p⟩
  have q := hl i σ H p
  by_cases hlt : i < xs.length
  · refine .inr ⟨⟨xs, xs[i], q, List.getElem?_eq_getElem hlt⟩, Pv (i + 1), fun σ' H' p' => ⟨xs.length - (i + 1), by omega, rfl, hlt, p'⟩, fun v H' y => ?_⟩
    obtain ⟨T, y, rfl, nT, rfl, hy⟩ := y
    exact hs i y σ H T _ (hy xs q) p nT (Same.new nT) upd_same
  · have e : i = xs.length := by omega
    subst e
    exact .inl ⟨⟨xs, q, rfl⟩, hd σ H p⟩
theorem w_catG {K : PySem.W.Frag} {a b : Addr} {xs ys : List V} {H : Hp} {Q : VK} (h1 : SqT K H a xs) (h2 : SqT K H b ys) (hl : xs.length + ys.length ≤ sizeLine) (q : ∀ p H', Same H H' → SqT K H' p (xs ++ ys) → Q (.ref p) H') : rCatA K (.ref a) (.ref b) H Q :=
  ⟨a, b, xs, ys, rfl, rfl, h1, h2, hl, fun e => q b H (fun _ _ e => e) (by rw [e]; exact h2), fun _ e => q a H (fun _ _ e => e) (by rw [e, List.append_nil]; exact h1), fun _ _ p np => q p _ (Same.new np) (.inl (.inl upd_same))⟩
theorem w_slG {K : PySem.W.Frag} {a : Addr} {xs : List V} {lo hi : Option Int} {H : Hp} {Q : VK} (h : SqT K H a xs) (q : ∀ p H', Same H H' → SqT K H' p (cutV xs lo hi) → Q (.ref p) H') : rSlA K (.ref a) lo hi H Q :=
  ⟨a, xs, rfl, h, fun ⟨e1, e2⟩ => q a H (fun _ _ e => e) (by unfold cutV; rw [e1, e2]; simpa using h), fun _ p np => q p _ (Same.new np) (.inl (.inl upd_same))⟩
end Co

set_option Elab.async false
set_option linter.all false
set_option maxRecDepth 100000
set_option maxHeartbeats 4000000
namespace Co
open PySem PySem.Spec PyProof.Rows L2
/-! ### repr of data at any depth, where nothing is being shown -/
/-- d may be shown: no dict, small ints and letters -/
structure Shw (d : PyData) : Prop where
  show_ : d.showable = true
  dict_ : d.hasDict = false
  deep : d.depth ≤ 64
  len : d.shown.length ≤ sizeLine
def rRepr (K : PySem.W.Frag) : List V → Hp → VK → Prop := fun xs H Q => ∃ a d, xs = [.ref a] ∧ Dp K H (.ref a) d ∧ Shw d ∧ Q (.str d.shown) H
theorem call_reprD {X : Cx} (hg : X.A.guards = some []) (hu : X.A.units + 70 < cLine) : CallR X (.builtin "repr") (rRepr X.K) := by
  intro pins s σ H xs us Q I r h
  obtain ⟨a, d, rfl, hd, S, q⟩ := h
  obtain ⟨u, rfl, rx⟩ := vals1 r
  cases rx
  obtain ⟨as, rd⟩ := Dp.reads I d _ _ hd rfl
  refine repr_of_reads' rd S.show_ (fun z => absurd (S.dict_.symm.trans z) (by decide)) hg (by have := S.deep; omega) (fun b o e => e) (fun h' u tk hk => ⟨.str d.shown, H, I.kept (t' := tk) hk, ⟨u, rfl⟩, q⟩) S.len
theorem w_repr {K : PySem.W.Frag} {a : Addr} {d : PyData} {H : Hp} {Q : VK} (h : Dp K H (.ref a) d) (hs : Shw d) (q : Q (.str d.shown) H) : rRepr K [.ref a] H Q := ⟨a, d, rfl, h, hs, q⟩
/-! ### the law's own run: nothing stands below it -/
def RunG (P : Program) (w : World) (K : PySem.W.Frag) (mg : Str → Option Value) (base : Heap) (f : Addr) (fd : FuncData) (x : Str) (sp : Sp) : Prop :=
  ∀ (s : Shared) (H : Hp) (args : Args) (us : List Value) (vs : List V) (Q : VK), Env0 P w K mg base callerA [] s H → BindsTo s fd args ([x].zip us) → Vals vs us → vs.length = 1 → sp vs H Q E0 → codeAny (model P w) callerA (.call (.ref f) args) (CR CX0 [] P w H s Q E0) s
theorem guards_callerA (env : Env) : (callerA.deeper env).guards = some [] := rfl
theorem runG_of {P : Program} {w : World} {K : PySem.W.Frag} {mg : Str → Option Value} {base : Heap} {x qual par : Str} {st : Stmt} {f : Addr} {fd : FuncData} {N : List Str} {k : Nat} {sp : Sp} (F : Fun K x qual st f fd) (S : FnScope N [par] (defScope st)) (hr : Room (k + 1) callerA)
    (hbody : ∀ (cdv : Value) (s : Shared) (H : Hp) (vs : List V) (Q : VK), Room k (callerA.deeper (envOfC qual (defScope st) s.heap.objs.size f cdv)) → sp vs H Q E0 →
      ∃ t, PSs (cxOf CX0 P w K mg base N qual (defScope st) f cdv callerA [] s H E0).nox (defBody st) t ∧ t { nx := fun _ H' => Q .non H', rt := Q } (start N vs) H) : RunG P w K mg base f fd par sp := by
  obtain ⟨oc, od, kV, doc, pm, an, cdv, ct, osl, rfl, lk, hcd⟩ := F.ex
  intro s H args us vs Q e0 hb r hl hsp
  have keep : ∀ b o, base.get? b = some o → s.heap.get? b = some o := fun b o e => (e0.bs b o e).1
  have KX := e0.mod.kin.keeps keep
  have slots : ∀ y ∈ [par].zip us, (defScope st).names.lookup y.1 = some .local ∨ ((defScope st).names.lookup y.1 = some .cell ∧ ((cellsFrom (s.heap.objs.size + 1) (defScope st).names []).lookup y.1).isSome = true) := by
    rintro ⟨n, v⟩ hy
    have m := S.par n (List.of_mem_zip hy).1
    exact m.imp id fun q => ⟨q, PySem.W.cellsFrom_some _ _ _ (.inl q)⟩
  refine codeAny_call_function hr.depth (KX _ _ lk) rfl S.co S.gen rfl (PySem.W.codeRec_of KX hcd) (hb _ _ _ _ (wpAny_newFunctionEnv_cells S.kind slots fun env he s1 inC => ?_))
  cases he
  obtain ⟨t, ht, hq⟩ := hbody cdv s H vs Q (hr.deeper _) hsp
  have I := inv_start (CX := CX0) (E := E0) (cd := cdv) (qual := qual) S hr.hd e0 hl r inC
  refine ⟨(e0.mod.nolimit.keeps keep).keeps inC.toInCall.keep, codeAny_func (wpAny_mono (ht.nox.run [] s1 (start N vs) H _ I hq) (fun fl s' hs => ?_) fun e s' hs => hs)⟩
  match fl, hs with
  | .ret u, ⟨v, σ', H', J, rv, q⟩ => exact ⟨v, H', J.os, J.bare, J.base, J.hok, rv, q⟩
  | .next, ⟨σ', H', J, q⟩ => exact ⟨V.non, H', J.os, J.bare, J.base, J.hok, rfl, q⟩
  | .brk, ⟨_, _, _, q⟩ => exact False.elim q
  | .cont, ⟨_, _, _, q⟩ => exact False.elim q
/-- how the law's call ends -/
def Ended (s1 : Shared) : Result → Shared → Prop := fun r s' => r = .ok (.ret (.bool true)) ∧ OldK s1.heap s'.heap ∧ s'.os = s1.os ∧ AllBare s'.gens
section
variable {P : Program} {w : World} {K : PySem.W.Frag} {mg mb : Str → Option Value} {fa a : Addr} {fd : FuncData} {x : Str} {sp : Sp} {s1 : Shared} {vs : List Value} {ns : List Int}
/-- from a heap that tracks the script at most -/
theorem call_from (KX : K.In s1.heap) (hns : s1.heap.Ns mainGlobals mg) (hb : s1.heap.Ns builtinsNs mb) (hbb : ∀ y : Str, y ≠ "__name__" → mb y = bootBuiltins y) (hlim : s1.heap.NoLimit) (hg : s1.gens = #[])
    (ha : ∃ xs n, (s1.heap.get? a).map (·.data) = some (.seq xs n)) (F : ∀ base : Heap, K.In base → base.Ns mainGlobals mg → RunG P w K mg base fa fd x sp) (hbind : ∀ (s : Shared) (u : Value), BindsTo s fd ⟨[u], []⟩ [(x, u)])
    {H : Hp} (hO : Only H) (hok : HOk P w H s1.heap) (hA : ∀ b, b ≠ a → H b = none) (hK : H a = none ∨ K.lookup a = none) (hsp : sp [.ref a] H (fun v _ => v = .bl true) E0) :
    codeAny (model P w) callerA (.call (.ref fa) ⟨[.ref a], []⟩) (Ended s1) s1 := by
  have out : ∀ {b : Addr} {o : Obj} {es : Array DictEntry} {ep : Nat}, s1.heap.get? b = some o → o.data = .dict es ep → H b = none := by
    intro b o es ep e d
    by_cases z : b = a
    · subst z
      obtain ⟨xs, n, q⟩ := ha
      rw [e, Option.map_some, d] at q
      cases q
    · exact hA b z
  have nsT : ∀ {b : Addr} {m : Str → Option Value}, s1.heap.Ns b m → (hidT s1.heap H).Ns b m := by
    rintro b m ⟨o, es, ep, e, d, r⟩
    exact ⟨o, es, ep, hidT_get e (out e d), d, r⟩
  have KT : K.In (hidT s1.heap H) := by
    intro b o e
    refine hidT_get (KX b o e) ?_
    by_cases z : b = a
    · subst z
      exact hK.resolve_right fun q => by rw [q] at e; cases e
    · exact hA b z
  obtain ⟨mc, l1, l2⟩ := hlim
  have M : Mod K mg (hidT s1.heap H) := ⟨KT, nsT hns, ⟨mb, nsT hb, hbb⟩, mc, nsT l1, l2⟩
  have e0 : Env0 P w K mg (hidT s1.heap H) callerA [] s1 H := { frames := rfl, mod := M, bs := fun b o e => of_hidT e, bsz := Nat.le_of_eq (hidT_size _ _), funs := trivial, frf := fun b z => absurd (show b ∈ ([] : List Addr) from z) (by simp), hok := hok, bare := .of_eq hg }
  refine codeAny_mono (F _ KT (nsT hns) s1 H _ [.ref a] [.ref a] _ e0 (hbind s1 _) (.cons rfl .nil) rfl hsp) ?_
  rintro (e | fl) s' h
  · exact h.elim
  · match fl, h with
    | .ret u, ⟨v, H', os, bare, un, hok', r', q⟩ =>
      cases (show v = .bl true from q)
      cases (show u = Value.bool true from r')
      refine ⟨rfl, OldK.of_keep fun b o e => ?_, os, bare⟩
      rcases hO b with z | ⟨ob, xs, z⟩
      · exact un.keep b o e z (fun m => nomatch m) (fun m => nomatch m)
      · have e1 := (hok b _ z).1
        have e2 := (hok' b _ (un.frzs b ob _ z)).1
        cases e.symm.trans e1
        exact e2
theorem law_callG (KX : K.In s1.heap) (hns : s1.heap.Ns mainGlobals mg) (hb : s1.heap.Ns builtinsNs mb) (hbb : ∀ y : Str, y ≠ "__name__" → mb y = bootBuiltins y) (hlim : s1.heap.NoLimit) (hg : s1.gens = #[])
    (ha : s1.heap.get? a = some { cls := .type "list", data := .seq vs.toArray }) (hi : IntsAre vs ns) (hl : ns.length ≤ sizeLine) (F : ∀ base : Heap, K.In base → base.Ns mainGlobals mg → RunG P w K mg base fa fd x sp) (hbind : ∀ (s : Shared) (u : Value), BindsTo s fd ⟨[u], []⟩ [(x, u)])
    (hsp : ∀ H : Hp, Only H → SqL K H a (ns.map V.int) → sp [.ref a] H (fun v _ => v = .bl true) E0) : codeAny (model P w) callerA (.call (.ref fa) ⟨[.ref a], []⟩) (Ended s1) s1 := by
  have rv := vals_ints hi
  have hl' : vs.toArray.size ≤ sizeLine := by rw [List.size_toArray, hi.length]; exact hl
  have haq : ∃ xs n, (s1.heap.get? a).map (·.data) = some (.seq xs n) := ⟨_, _, by rw [ha]; rfl⟩
  cases hk : K.lookup a with
  | some o =>
    have e := (KX a o hk).symm.trans ha
    cases e
    have O : Only fun _ => none := fun _ => .inl rfl
    exact call_from KX hns hb hbb hlim hg haq F hbind O (fun b u z => by cases z) (fun _ _ => rfl) (.inl rfl) (hsp _ O (.inr ⟨_, vs.toArray, _, hk, rfl, rfl, rfl, hl', by simpa using rv⟩))
  | none =>
    let fz : HO := .frz { cls := .type "list", data := .seq vs.toArray } (.lst (ns.map V.int))
    have at_a : ∀ {b : Addr} {u : HO}, (if b = a then some fz else none) = some u → b = a ∧ u = fz := by
      intro b u z
      by_cases q : b = a
      · rw [if_pos q] at z; exact ⟨q, (Option.some.inj z).symm⟩
      · rw [if_neg q] at z; cases z
    have O : Only fun b => if b = a then some fz else none := fun b => by
      by_cases q : b = a
      · exact .inr ⟨_, _, if_pos q⟩
      · exact .inl (if_neg q)
    refine call_from KX hns hb hbb hlim hg haq F hbind O (fun b u z => ?_) (fun b q => if_neg q) (.inr hk) (hsp _ O (.inl (.inr ⟨_, if_pos rfl⟩)))
    obtain ⟨rfl, rfl⟩ := at_a z
    exact ⟨ha, by rw [List.length_map]; exact hl, vs, _, rv, ha⟩
end
/-- the goal that k_head leaves, from the law's run -/
theorem walk_ofG {l : PySem.W.OpenLaw} {n : Nat} {q : Program} {loose : List Str} {XP : (Str → Option Value) → Heap → Prop} {YP : World → Heap → Prop} {d : DefRec} {K : Params → PySem.W.Frag} {sp : World → Sp} {x : Str}
    (hn : l.most = some n) (hn2 : n ≤ sizeLine) (hdf : d.params.defaults = []) (hY : ∀ (w : World) (h : Heap), YP w h → (K w.params).In h)
    (F : ∀ (w : World) (mg : Str → Option Value) (fa : Addr) (h : Heap), (K w.params).In h → h.Ns mainGlobals mg → mg d.name = some (.ref fa) →
      ∃ fd : FuncData, (∀ (s : Shared) (u : Value), BindsTo s fd ⟨[u], []⟩ [(x, u)]) ∧ ∀ base : Heap, (K w.params).In base → base.Ns mainGlobals mg → RunG l.prog w (K w.params) mg base fa fd x (sp w))
    (hsp : ∀ (w : World) (H : Hp) (a : Addr) (ns : List Int), ns.length ≤ n → Only H → SqL (K w.params) H a (ns.map V.int) → sp w [.ref a] H (fun v _ => v = .bl true) E0) :
    PySem.W.WalkO q loose XP YP l.row.toRowW d [] (fun f vs => PySem.call f vs) := by
  refine Att.attach_call hn hdf fun w _ s1 mg mb fa o pm cd doc a vs ns G Y _ _ _ hmg hobj hints hlen hg => ?_
  have KX := hY w _ Y
  obtain ⟨fd, hb, hF⟩ := F w mg fa _ KX G.T.g hmg
  exact law_callG KX G.T.g G.T.b G.T.builtins G.T.nolimit hg hobj hints (Nat.le_trans hlen hn2) hF hb fun H hO hS => hsp w H a ns hlen hO hS
end Co
namespace Co
open PySem PySem.Spec PyProof.Rows L2
section
variable {X : Cx} {K' : PySem.W.Frag}
theorem call_tupQK (hK : X.K = K') : CallR X (.type "tuple") (rTupQ K') := by subst hK; exact call_tupQ
theorem call_listQK (hK : X.K = K') : CallR X (.type "list") (rListQ K') := by subst hK; exact call_listQ
end
theorem hu70 {A : Around} {k : Nat} (hr : Room k A) : A.units + 70 < cLine := by have := hr.un; omega
end Co
namespace Co
open PySem PySem.Spec PyProof.Rows L2
/-! ### data of rows of ints -/
theorem lay_ints : ∀ xs : List Int, PyData.canLayAll0 (xs.map .int) = true ∧ PyData.depthAll (xs.map .int) = 0
  | [] => by simp [PyData.canLayAll0, PyData.depthAll]
  | x :: r => by
    have := lay_ints r
    simp [PyData.canLayAll0, PyData.depthAll, PyData.canLay0, PyData.depth, this.1, this.2]
theorem dpInts {K : PySem.W.Frag} {H : Hp} : ∀ xs : List Int, DpAll K H (xs.map V.int) (xs.map .int)
  | [] => .nil
  | x :: r => .cons (.int x) (dpInts r)
def rowD (bs : List Int) : PyData := .tuple (bs.map .int)
def rowsD (B : List (List Int)) : PyData := .tuple (B.map rowD)
theorem dpRow {K : PySem.W.Frag} {H : Hp} {a : Addr} {bs : List Int} (h : SqT K H a (bs.map V.int)) : Dp K H (.ref a) (rowD bs) := .tup h (dpInts bs)
theorem dpAllRows {K : PySem.W.Frag} {H : Hp} : ∀ (as : List V) (B : List (List Int)), as.length = B.length → (∀ (j : Nat) (v : V) (bs : List Int), as[j]? = some v → B[j]? = some bs → ∃ a, v = V.ref a ∧ SqT K H a (bs.map V.int)) → DpAll K H as (B.map rowD)
  | [], [], _, _ => .nil
  | [], _ :: _, e, _ => by cases e
  | _ :: _, [], e, _ => by cases e
  | v :: as, bs :: B, e, h => by
    obtain ⟨a, rfl, q⟩ := h 0 v bs rfl rfl
    exact .cons (dpRow q) (dpAllRows as B (Nat.succ.inj e) fun j v' bs' h1 h2 => h (j + 1) v' bs' h1 h2)
theorem lay_rows : ∀ B : List (List Int), PyData.canLayAll0 (B.map rowD) = true ∧ PyData.depthAll (B.map rowD) ≤ 1
  | [] => by simp [PyData.canLayAll0, PyData.depthAll]
  | x :: r => by
    obtain ⟨h1, h2⟩ := lay_rows r
    obtain ⟨l1, l2⟩ := lay_ints x
    constructor
    · simp only [List.map_cons, PyData.canLayAll0, rowD, PyData.canLay0, l1, Bool.true_and]
      exact h1
    · simp only [List.map_cons, PyData.depthAll, rowD, PyData.depth, l2]
      have : PyData.depthAll (List.map (fun bs => PyData.tuple (List.map PyData.int bs)) r) ≤ 1 := h2
      omega
theorem rows_shaped (B : List (List Int)) : SeqAt.shaped (rowsD B) = true := by
  have l := lay_rows B
  simp only [SeqAt.shaped, rowsD, PyData.canLay0, PyData.depth, l.1, Bool.true_and, decide_eq_true_eq]
  omega
end Co

set_option Elab.async false
set_option linter.all false
set_option maxRecDepth 100000
set_option maxHeartbeats 4000000
namespace Co
open PySem PySem.Spec PyProof.Rows L2
/-! ### data small enough to be shown and compared -/
structure SmD (n k : Nat) (d : PyData) : Prop where
  lay : d.canLay0 = true
  sh : d.intsShort 13 = true
  shw : d.showable = true
  w : d.weight + 1 ≤ n
  dp : d.depth ≤ k
structure SmAll (n k : Nat) (ds : List PyData) : Prop where
  lay : PyData.canLayAll0 ds = true
  sh : PyData.intsShortAll 13 ds = true
  shw : PyData.showableAll ds = true
  w : PyData.weightAll ds ≤ n
  dp : PyData.depthAll ds ≤ k
theorem SmD.shaped {n k : Nat} {d : PyData} (h : SmD n k d) (hk : k ≤ 64) : SeqAt.shaped d = true := by
  have := h.dp
  unfold SeqAt.shaped
  rw [h.lay, Bool.true_and, decide_eq_true_eq]
  omega
theorem SmD.shown {n k : Nat} {d : PyData} (h : SmD n k d) (hk : k ≤ 64) (hn : n ≤ 1048577) : Shw d := by
  have := h.dp
  have hw := h.w
  exact ⟨h.shw, PyData.hasDict_of_canLay d h.lay, by omega, PyData.shown_fits (B := 13) (by decide) (by decide) (PyData.leavesShort_of_canLay0 13 d h.lay h.sh) (by rw [show (2 : Nat) ^ 20 = 1048576 from rfl]; omega)⟩
theorem SmAll.nil {k : Nat} : SmAll 0 k [] := ⟨by simp [PyData.canLayAll0], by simp [PyData.intsShortAll], by simp [PyData.showableAll], by simp [PyData.weightAll], by simp [PyData.depthAll]⟩
theorem SmAll.cons {n m k : Nat} {d : PyData} {ds : List PyData} (h : SmD n k d) (hs : SmAll m k ds) : SmAll (n + m) k (d :: ds) := by
  have h1 := h.w; have h2 := hs.w; have h3 := h.dp; have h4 := hs.dp
  refine ⟨by simp [PyData.canLayAll0, h.lay, hs.lay], by simp [PyData.intsShortAll, h.sh, hs.sh], by simp [PyData.showableAll, h.shw, hs.shw], ?_, ?_⟩
  · simp only [PyData.weightAll]; omega
  · simp only [PyData.depthAll]; omega
theorem SmAll.tup {n k : Nat} {ds : List PyData} (h : SmAll n k ds) : SmD (n + 1) (k + 1) (.tuple ds) := by
  have h2 := h.w; have h4 := h.dp
  exact ⟨by simpa [PyData.canLay0] using h.lay, by simpa [PyData.intsShort] using h.sh, by simpa [PyData.showable] using h.shw, by simp only [PyData.weight]; omega, by simp only [PyData.depth]; omega⟩
theorem SmAll.lst {n k : Nat} {ds : List PyData} (h : SmAll n k ds) : SmD (n + 1) (k + 1) (.list ds) := by
  have h2 := h.w; have h4 := h.dp
  exact ⟨by simpa [PyData.canLay0] using h.lay, by simpa [PyData.intsShort] using h.sh, by simpa [PyData.showable] using h.shw, by simp only [PyData.weight]; omega, by simp only [PyData.depth]; omega⟩
theorem SmD.int {k : Nat} {i : Int} (h : i.natAbs < 1000000000000) : SmD 41 k (.int i) := by
  have hl : i.natAbs ≠ 0 → i.natAbs.log2 < 40 := fun z => (Nat.log2_lt z).2 (Nat.lt_trans h (by decide))
  refine ⟨by simp [PyData.canLay0], ?_, ?_, ?_, by simp [PyData.depth]⟩
  · simp only [PyData.intsShort, decide_eq_true_eq]; exact PyData.shown_int_le h
  · simp only [PyData.showable, decide_eq_true_eq]
    by_cases z : i.natAbs = 0
    · rw [z]; decide
    · exact Nat.lt_trans (hl z) (by decide)
  · simp only [PyData.weight]
    split
    · omega
    · rename_i z
      have := hl (by intro q; apply z; simp; omega)
      omega
theorem SmD.bool {k : Nat} (b : Bool) : SmD 1 k (.bool b) := ⟨by simp [PyData.canLay0], by simp [PyData.intsShort], by simp [PyData.showable], by simp [PyData.weight], by simp [PyData.depth]⟩
theorem SmD.non {k : Nat} : SmD 1 k .none := ⟨by simp [PyData.canLay0], by simp [PyData.intsShort], by simp [PyData.showable], by simp [PyData.weight], by simp [PyData.depth]⟩
theorem SmD.str {k m : Nat} {x : Str} (h : PyData.strOk x = true) (hm : x.cps.size ≤ m) : SmD (m + 1) k (.str x) := ⟨by simpa [PyData.canLay0] using h, by simp [PyData.intsShort], by simp [PyData.showable], by simp only [PyData.weight]; omega, by simp [PyData.depth]⟩
theorem SmD.mono {n k n' k' : Nat} {d : PyData} (h : SmD n k d) (hn : n ≤ n') (hk : k ≤ k') : SmD n' k' d := ⟨h.lay, h.sh, h.shw, Nat.le_trans h.w hn, Nat.le_trans h.dp hk⟩
theorem SmAll.mono {n k n' k' : Nat} {ds : List PyData} (h : SmAll n k ds) (hn : n ≤ n') (hk : k ≤ k') : SmAll n' k' ds := ⟨h.lay, h.sh, h.shw, Nat.le_trans h.w hn, Nat.le_trans h.dp hk⟩
theorem SmAll.all {n k : Nat} : ∀ {ds : List PyData}, (∀ d ∈ ds, SmD n k d) → SmAll (n * ds.length) k ds
  | [], _ => SmAll.nil
  | d :: ds, h => ((SmAll.cons (h d (by simp)) (SmAll.all fun e he => h e (by simp [he])))).mono (by rw [List.length_cons, Nat.mul_add]; omega) (Nat.le_refl _)
theorem SmAll.ints {k : Nat} {xs : List Int} (h : ∀ x ∈ xs, x.natAbs < 1000000000000) : SmAll (41 * xs.length) k (xs.map .int) := by
  have := SmAll.all (n := 41) (k := k) (ds := xs.map .int) fun d hd => by
    obtain ⟨x, hx, rfl⟩ := List.mem_map.mp hd
    exact SmD.int (h x hx)
  rw [List.length_map] at this
  exact this
theorem SmD.row {k : Nat} {xs : List Int} (h : ∀ x ∈ xs, x.natAbs < 1000000000000) : SmD (41 * xs.length + 1) (k + 1) (rowD xs) := (SmAll.ints h).tup
end Co

set_option Elab.async false
set_option linter.all false
set_option maxRecDepth 100000
set_option maxHeartbeats 4000000
namespace Co
open PySem PySem.Spec PyProof.Rows L2
/-! ### set(l) of a list (and of a tuple) of ints -/
abbrev nset (w : World) : Obj := { cls := .type "set", dict := none, data := .set #[] 0 (.fresh 0 0 (!w.params.followText "set-order")) }
abbrev lstIt (l : Addr) : Obj := { cls := .type "list_iterator", data := .fields #[.ref l, .int 0 0] }
section
variable {P : Program} {w : World} {A : Around} {E : Value → Shared → Prop} {s : Shared}
theorem pushS {h : Heap} {o : Obj} : (h.push o).objs.size = h.objs.size + 1 := Heap.size_push ..
set_option maxHeartbeats 3200000 in
theorem call_set_listI {l : Addr} {its : Array Value} (ns : List Int) {Q : Value → Shared → Prop} (hh : A.handled = none) (hl : s.heap.IsList l its) (hit : IntsAre its.toList ns) (hb : ns.length + 1 < scanBound)
    (k : ∀ (h2 : Heap) (tk c : Nat), SetR w h2 s.heap.objs.size (fun j => decide (j ∈ ns)) c → c ≤ ns.length → (∀ b o, s.heap.get? b = some o → h2.get? b = some o) → Q (.ref s.heap.objs.size) { s with heap := h2, toks := tk }) :
    wpAny (model P w) A (call (.type "set") [.ref l]) Q E s := by
  have sz : its.size = ns.length := by have q := IntsAre.length hit; rw [Array.length_toList] at q; exact q
  obtain ⟨c, tl, hmro⟩ := F.called_set.mro
  have m1 := F.called_set.made; have m2 := F.called_set.sub
  refine wpAny_call (codeAny_of_tree ?_); show wpAny _ _ (callAny (.type "set") _) _ _ _
  refine wpAny_pure ⟨Code.quiet_builtin _ (by decide +kernel), codeAny_builtin F.entry_type_call ?_⟩; rw [Around.under_plain (weight_type_call_type "set" [.ref l] []) rfl]
  have h1 := F.called_set.notType; have h2 := F.called_set.canCreate; have h3 := F.typeCall_set_1 (.ref l)
  repeat (any_goals (first | assumption | wp_step))
  refine codeAny_mono (code_set_led1 (.ref l) (E := E) (Q₁ := fun ob s1 => ob = .ref s.heap.objs.size ∧ s1 = { s with heap := s.heap.push (nset w) }) ⟨rfl, rfl⟩) fun r s1 hr => ?_
  match r, hr with
  | .error e, hr => exact hr
  | .ok .next, hr => exact hr.elim
  | .ok .brk, hr => exact hr.elim
  | .ok .cont, hr => exact hr.elim
  | .ok (.ret ob), hr =>
    obtain ⟨rfl, rfl⟩ := hr
    have gS : (s.heap.push (nset w)).get? s.heap.objs.size = some (nset w) := Heap.get?_push_size _ rfl
    have tS : Shared.TypeIs { s with heap := s.heap.push (nset w) } (.ref s.heap.objs.size) "set" := ⟨_, gS, rfl⟩
    have i1 := F.called_set.init.lookup; have i2 := F.called_set.init.bind (.ref s.heap.objs.size)
    repeat (any_goals (first | assumption | wp_step))
    refine codeAny_mono (codeAny_call_builtin (R := wants (fun r s2 => r = .none ∧ ∃ h2 tk c, s2 = { s with heap := h2, toks := tk } ∧ SetR w h2 s.heap.objs.size (fun j => decide (j ∈ ns)) c ∧ c ≤ ns.length ∧ ∀ b o, s.heap.get? b = some o → h2.get? b = some o) E) F.called_set.init.plain F.entry_set_init (check_set_init_1 tS ?_)) fun r2 s2 hr2 => ?_
    · obtain ⟨⟨oc, odi, oda, osl⟩, gl, cl, nl, dl⟩ := hl
      dsimp only at cl dl; subst cl; subst dl
      have gl' : (s.heap.push (nset w)).get? l = some ⟨.type "list", odi, .seq its nl, osl⟩ := Heap.get?_push_of_some _ gl
      have q1 := F.sub_list_set; have q2 := F.sub_list_frozenset; have q3 : (Value.type "list" == Value.type "dict") = false := by decide
      have hl1 : (s.heap.push (nset w)).IsList l its := ⟨_, gl', rfl, nl, rfl⟩
      unfold Builtin.«set.__init__» noKeywords Builtin.Frozenset.updateFrom
      generalize hPI : pyIter = PI
      wp_walk
      subst hPI
      refine wpAny_pyIter_list hl1 (wpAny_bind (wpAny_runValue ?_))
      have lS : l < s.heap.objs.size := Heap.lt_size gl
      have nI : l ≠ (s.heap.push (nset w)).objs.size := by rw [pushS]; exact Nat.ne_of_lt (Nat.lt_succ_of_lt lS)
      have nS : s.heap.objs.size ∉ [(s.heap.push (nset w)).objs.size, l] := by
        rw [pushS]; simp only [List.mem_cons, List.not_mem_nil, or_false, not_or]
        exact ⟨Nat.ne_of_lt (Nat.lt_succ_self _), Nat.ne_of_gt lS⟩
      have vals : ∀ (i : Nat) (v : Value), its[i]? = some v → ∃ k t, ns[i]? = some k ∧ v = .int k t := by
        intro i v hv
        have hi : i < ns.length := by rw [← sz]; exact (Array.getElem?_eq_some_iff.mp hv).1
        obtain ⟨t, e⟩ := PyProof.Rows.IntsAre.int_at hit i v (by rw [Array.getElem?_toList]; exact hv)
        rw [List.getD_eq_getElem?_getD, List.getElem?_eq_getElem hi] at e
        exact ⟨ns[i], t, List.getElem?_eq_getElem hi, e⟩
      have gS2 : ((s.heap.push (nset w)).push (lstIt l)).get? s.heap.objs.size = some (nset w) := Heap.get?_push_of_some _ gS
      refine set_update_ints ((Walks.list (A := A.in1.in1.in1) (by simp [hh]) _ l nI its).toS) s.heap.objs.size nS ns sz hb vals (its.size - 0) 0 _ (by omega) (Nat.zero_le _) ⟨⟨_, Heap.get?_push_size _ rfl, rfl, rfl⟩, hl1.push _⟩ ⟨0, Nat.le_refl 0, setR_new_at gS2⟩ ?_
      rintro ⟨h2, g2, d2, t2, o2⟩ c' hm hc' hS'
      cases (show g2 = s.gens from hm.gens); cases (show d2 = s.drawn from hm.drawn); cases (show o2 = s.os from hm.os)
      rw [sz] at hc'
      show wpAny _ _ _ _ _ _
      refine wpAny_pure ?_
      show wpAny _ _ (ret Value.none) _ _ _
      refine wpAny_pure ⟨rfl, h2, t2, c', rfl, hS', hc', fun b o e => ?_⟩
      have b0 : b < s.heap.objs.size := Heap.lt_size e
      refine hm.heap b o ?_ (Heap.get?_push_of_some _ (Heap.get?_push_of_some _ e))
      rw [pushS]; simp only [List.mem_cons, List.not_mem_nil, or_false, not_or]
      exact ⟨Nat.ne_of_lt b0, Nat.ne_of_lt (Nat.lt_succ_of_lt b0)⟩
    · match r2, hr2 with
      | .error e, hr2 => exact hr2
      | .ok .next, hr2 => exact hr2.elim
      | .ok .brk, hr2 => exact hr2.elim
      | .ok .cont, hr2 => exact hr2.elim
      | .ok (.ret r), hr2 =>
        obtain ⟨rfl, h3, tk, c', rfl, hS', hc', hk'⟩ := hr2
        repeat (any_goals (first | assumption | wp_step))
        exact k _ _ _ hS' hc' hk'
end
end Co

set_option Elab.async false
set_option linter.all false
set_option maxRecDepth 100000
set_option maxHeartbeats 4000000
namespace Co
open PySem PySem.Spec PyProof.Rows L2
def rSetS (w : World) (K : PySem.W.Frag) : List V → Hp → VK → Prop := fun xs H Q => ∃ (p : Addr) (ns : List Int), xs = [.ref p] ∧ (SqL K H p (ns.map V.int) ∨ SqT K H p (ns.map V.int)) ∧ ns.length ≤ 1000 ∧ ∀ D c, H D = none → c ≤ ns.length → Q (.ref D) (upd H D (SetO w D (fun j => decide (j ∈ ns)) c))
theorem intsOf : ∀ {ns : List Int} {us : List Value}, Vals (ns.map V.int) us → IntsAre us ns
  | [], _, h => by cases h; exact .nil
  | n :: ns, _, h => by
    cases h with
    | cons r rr => obtain ⟨t, rfl⟩ := r; exact .cons n t (intsOf rr)
theorem cr_setS {X : Cx} (hc : X.calm = true) : CallR X (.type "set") (rSetS X.w X.K) := by
  intro pins s σ H xs us Q I r h
  obtain ⟨p, ns, rfl, hq, hl, q⟩ := h
  obtain ⟨u, rfl, rx⟩ := vals1 r
  cases rx
  have hb : ns.length + 1 < scanBound := Nat.lt_of_le_of_lt (Nat.succ_le_succ hl) (by decide)
  have hn : H s.heap.objs.size = none := I.hok.fresh (Nat.le_refl _)
  have fin : ∀ (h2 : Heap) (tk c : Nat), SetR X.w h2 s.heap.objs.size (fun j => decide (j ∈ ns)) c → c ≤ ns.length → (∀ b o, s.heap.get? b = some o → h2.get? b = some o) → EP X pins σ Q (.ref s.heap.objs.size) { s with heap := h2, toks := tk } :=
    fun h2 tk c R hle kp => ⟨.ref s.heap.objs.size, _, I.laid (t' := tk) kp (Nat.le_refl _) (setO_new R), rfl, q _ c hn hle⟩
  rcases hq with hq | hq
  · obtain ⟨its, rv, pl, _⟩ := I.list hq
    exact call_set_listI ns (I.ok.hd hc) pl.isList (by simpa using intsOf rv) hb fin
  · obtain ⟨its, rv, pt, _⟩ := I.tuple hq
    exact call_set_tupI ns (I.ok.hd hc) pt (by simpa using intsOf rv) hb fin
theorem w_setS {w : World} {K : PySem.W.Frag} {p : Addr} {ns : List Int} {H : Hp} {Q : VK} (h : SqL K H p (ns.map V.int) ∨ SqT K H p (ns.map V.int)) (hl : ns.length ≤ 1000) (q : ∀ D c H', H D = none → c ≤ ns.length → Same H H' → H' D = some (SetO w D (fun j => decide (j ∈ ns)) c) → Q (.ref D) H') : rSetS w K [.ref p] H Q :=
  ⟨p, ns, rfl, h, hl, fun D c nD hc => q D c _ nD hc (Same.new nD) upd_same⟩
/-- sorted(set(..)) of at most 63 ints: the ascending row -/
theorem w_sortedOf {w : World} {D : Addr} {ns : List Int} {c : Nat} {H : Hp} {Q : VK} (h : H D = some (SetO w D (fun j => decide (j ∈ ns)) c)) (hc : c < 64) (q : ∀ (ms : List Int) (p : Addr) H', ms.Pairwise (· < ·) → (∀ k : Int, k ∈ ms ↔ k ∈ ns) → H p = none → Same H H' → H' p = some (.lst (ms.map V.int)) → Q (.ref p) H') : rSortedSet w [.ref D] H Q :=
  w_sortedSet h hc fun ms p H' h1 h2 _ h4 h5 h6 => q ms p H' h1 (fun k => (h2 k).trans decide_eq_true_iff) h4 h5 h6
end Co

set_option Elab.async false
set_option linter.all false
set_option maxRecDepth 100000
set_option maxHeartbeats 4000000
namespace Co
open PySem PySem.Spec PyProof.Rows L2 PySem.W
/-! ### min(t), max(t) of a tuple of ints -/
def rEndT (f : Int → Int → Int) (K : PySem.W.Frag) : List V → Hp → VK → Prop := fun xs H Q => ∃ (p : Addr) (n : Int) (ns : List Int), xs = [.ref p] ∧ SqT K H p ((n :: ns).map V.int) ∧ Q (.int (ns.foldl f n)) H
theorem alikeInts : ∀ ns : List Int, AlikeAll (ns.map PyData.int) := fun ns => ⟨fun x hx y hy => by
  obtain ⟨a, _, rfl⟩ := List.mem_map.mp hx
  obtain ⟨b, _, rfl⟩ := List.mem_map.mp hy
  rfl, fun x hx => by obtain ⟨a, _, rfl⟩ := List.mem_map.mp hx; simp⟩
theorem readInt {h : Heap} {v : Value} {n : Int} {bs : List Addr} (r : Reads h v (.int n) bs) : RelV (.int n) v := by cases r; exact ⟨_, rfl⟩
theorem cr_minT {X : Cx} (hc : X.calm = true) (hu : X.A.units + 70 < cLine) : CallR X (.builtin "min") (rEndT min X.K) := by
  intro pins s σ H xs us Q I r h
  obtain ⟨p, n, ns, rfl, hq, q⟩ := h
  obtain ⟨u, rfl, rx⟩ := vals1 r
  cases rx
  obtain ⟨its, rv, pt, _⟩ := I.tuple hq
  have hi := intsOf rv
  have dp := (lay_ints (n :: ns)).2
  refine min_tuple_data (x := .int n) (xs := ns.map .int) (as := []) (I.ok.hd hc) pt (by simpa using hi.reads s.heap) (alikeInts (n :: ns)) (by rw [List.map_cons] at dp; omega) fun i v h' tk bs _ hr hk => ?_
  rw [minD_ints] at hr
  exact ⟨.int _, H, I.kept (t' := tk) hk, readInt hr, q⟩
theorem cr_maxT {X : Cx} (hc : X.calm = true) (hu : X.A.units + 70 < cLine) : CallR X (.builtin "max") (rEndT max X.K) := by
  intro pins s σ H xs us Q I r h
  obtain ⟨p, n, ns, rfl, hq, q⟩ := h
  obtain ⟨u, rfl, rx⟩ := vals1 r
  cases rx
  obtain ⟨its, rv, pt, _⟩ := I.tuple hq
  have hi := intsOf rv
  have dp := (lay_ints (n :: ns)).2
  refine max_tuple_data (x := .int n) (xs := ns.map .int) (as := []) (I.ok.hd hc) pt (by simpa using hi.reads s.heap) (alikeInts (n :: ns)) (by rw [List.map_cons] at dp; omega) fun i v h' tk bs _ hr hk => ?_
  rw [maxD_ints] at hr
  exact ⟨.int _, H, I.kept (t' := tk) hk, readInt hr, q⟩
/-! ### more steps -/
theorem w_inT {K : PySem.W.Frag} {x : V} {p : Addr} {xs : List V} {H : Hp} {Q : VK} {b : Bool} (h : SqT K H p xs) (hx : flatV x = true) (ha : xs.all flatV = true) (hb : inV x xs = b) (q : Q (.bl b) H) : rIn K false x (.ref p) H Q := ⟨p, xs, rfl, .inr h, hx, ha, by rw [hb]; exact q⟩
theorem flat_ints (xs : List Int) : (xs.map V.int).all flatV = true := by
  rw [List.all_eq_true]
  intro v hv
  obtain ⟨s, _, rfl⟩ := List.mem_map.mp hv
  rfl
theorem inV_ints (k : Int) (xs : List Int) : inV (.int k) (xs.map V.int) = decide (k ∈ xs) := by
  induction xs with
  | nil => rfl
  | cons x r ih =>
    have e : inV (.int k) ((x :: r).map V.int) = ((x == k) || inV (.int k) (r.map V.int)) := rfl
    rw [e, ih, Bool.eq_iff_iff]
    simp only [Bool.or_eq_true, beq_iff_eq, decide_eq_true_eq, List.mem_cons]
    constructor
    · rintro (h | h)
      · exact .inl h.symm
      · exact .inr h
    · rintro (h | h)
      · exact .inl h.symm
      · exact .inr h
theorem w_inTi {K : PySem.W.Frag} {k : Int} {p : Addr} {ns : List Int} {H : Hp} {Q : VK} (h : SqT K H p (ns.map V.int)) (q : Q (.bl (decide (k ∈ ns))) H) : rIn K false (.int k) (.ref p) H Q := w_inT h rfl (flat_ints ns) (inV_ints k ns) q
theorem eqvInts : ∀ xs ys : List Int, PyData.eqvAll (xs.map .int) (ys.map .int) = decide (xs = ys)
  | [], [] => by simp [PyData.eqvAll]
  | [], y :: ys => by simp [PyData.eqvAll]
  | x :: xs, [] => by simp [PyData.eqvAll]
  | x :: xs, y :: ys => by
    rw [List.map_cons, List.map_cons, PyData.eqvAll, eqvInts xs ys, PyData.eqv, Bool.eq_iff_iff]
    simp
/-- == and != of what need not be equal -/
theorem w_eqE {K : PySem.W.Frag} {x y : V} {d e : PyData} {b : Bool} {H : Hp} {Q : VK} (h1 : Dp K H x d) (h2 : Dp K H y e) (s1 : SeqAt.shaped d = true) (s2 : SeqAt.shaped e = true) (hb : PyData.eqv d e = b) (q : Q (.bl b) H) : rEqD K x y H Q := ⟨d, e, h1, h2, s1, s2, by rw [hb]; exact q⟩
theorem w_neE {K : PySem.W.Frag} {x y : V} {d e : PyData} {b : Bool} {H : Hp} {Q : VK} (h1 : Dp K H x d) (h2 : Dp K H y e) (s1 : SeqAt.shaped d = true) (s2 : SeqAt.shaped e = true) (hb : PyData.eqv d e = b) (q : Q (.bl (!b)) H) : rNeD K x y H Q := ⟨d, e, h1, h2, s1, s2, by rw [hb]; exact q⟩
theorem w_allB {K : PySem.W.Frag} {a : Addr} {bs : List Bool} {H : Hp} {Q : VK} (h : H a = some (.lst (bs.map V.bl))) (q : Q (.bl (bs.all id)) H) : rAll K [.ref a] H Q := ⟨a, bs, rfl, .of h, q⟩
theorem w_anyB {K : PySem.W.Frag} {a : Addr} {bs : List Bool} {H : Hp} {Q : VK} (h : H a = some (.lst (bs.map V.bl))) (q : Q (.bl (bs.any id)) H) : rAny K [.ref a] H Q := ⟨a, bs, rfl, .of h, q⟩
theorem w_isiB {K : PySem.W.Frag} {b : Bool} {H : Hp} {Q : VK} (q : Q (.bl true) H) : rIsi K [.bl b, .ty "bool"] H Q := ⟨.bl b, .ty "bool", .type "bool", .type "bool", true, rfl, .ty _, .base (.bl _), kit_ty (by decide +kernel), q⟩
theorem w_gTupS {K : PySem.W.Frag} {n : Nat} {t : TGs} {a : Addr} {xs : List V} {σ : L2.St} {H : Hp} {Q : L2.St → Hp → Prop} (h : SqT K H a xs) (hn : xs.length = n) (q : t xs σ H Q) : gTup K n t (.ref a) σ H Q := ⟨a, xs, rfl, h, hn, q⟩
def rIsNQ : R2 := fun x y H Q => y = .non ∧ Q (.bl (decide (x = .non))) H
def rNotNQ : R2 := fun x y H Q => y = .non ∧ Q (.bl (!decide (x = .non))) H
theorem op_isNQ {X : Cx} : OpR X (compareOp .Is) rIsNQ := op_isN
theorem op_notNQ {X : Cx} : OpR X (compareOp .IsNot) rNotNQ := op_notN
theorem w_isNN {H : Hp} {Q : VK} (q : Q (.bl true) H) : rIsNQ .non .non H Q := ⟨rfl, q⟩
theorem w_isNR {a : Addr} {H : Hp} {Q : VK} (q : Q (.bl false) H) : rIsNQ (.ref a) .non H Q := ⟨rfl, q⟩
theorem w_notNN {H : Hp} {Q : VK} (q : Q (.bl false) H) : rNotNQ .non .non H Q := ⟨rfl, q⟩
theorem w_notNR {a : Addr} {H : Hp} {Q : VK} (q : Q (.bl true) H) : rNotNQ (.ref a) .non H Q := ⟨rfl, q⟩
theorem w_par {i j : Nat} {ta : TA} {D : Ends} {σ : L2.St} {H : Hp} (q : ta σ H fun vs H1 => ∃ v w, vs = [v, w] ∧ D.nx ((σ.set i (some v)).set j (some w)) H1) : tPar i j ta D σ H := q
theorem w_par3 {i j l : Nat} {ta : TA} {D : Ends} {σ : L2.St} {H : Hp} (q : ta σ H fun vs H1 => ∃ u v w, vs = [u, v, w] ∧ D.nx (((σ.set i (some u)).set j (some v)).set l (some w)) H1) : tPar3 i j l ta D σ H := q
theorem w_two {v w : V} {B : V → V → Prop} (q : B v w) : ∃ v' w', [v, w] = [v', w'] ∧ B v' w' := ⟨v, w, rfl, q⟩
theorem w_three {u v w : V} {B : V → V → V → Prop} (q : B u v w) : ∃ u' v' w', [u, v, w] = [u', v', w'] ∧ B u' v' w' := ⟨u, v, w, rfl, q⟩
theorem w_catL {l b : Addr} {xs zs : List V} {H : Hp} {Q : VK} (h1 : H l = some (.lst xs)) (h2 : H b = some (.lst zs)) (hl : xs.length + zs.length ≤ sizeLine) (q : ∀ p H', H p = none → Same H H' → H' p = some (.lst (xs ++ zs)) → Q (.ref p) H') : rCat (.ref l) (.ref b) H Q :=
  ⟨l, b, xs, zs, rfl, rfl, h1, h2, hl, fun p np => q p _ np (fun b x e => by rw [upd_ne (ne_of_none e np)]; exact e) upd_same⟩
end Co

set_option Elab.async false
set_option linter.all false
set_option maxRecDepth 100000
set_option maxHeartbeats 4000000
namespace Co
open PySem PySem.Spec PyProof.Rows L2
/-! ### d.get(k), d.get(k, x) of a dict of the module -/
/-- what stands under a key: a value, or nothing -/
def KGet (K : PySem.W.Frag) (w : World) (a : Addr) (x : Str) (o : Option V) : Prop :=
  ∃ es n, K.lookup a = some ⟨.type "dict", none, .dict es n, #[]⟩ ∧ PySem.W.KeysLit w.params es.toList ∧ (a == sysModules) = false ∧ ((o = none ∧ PySem.W.nsIn K a x = some none) ∨ ∃ v u, o = some v ∧ PySem.W.nsIn K a x = some (some u) ∧ RelV v u)
def tKGet1 (K : PySem.W.Frag) (w : World) (td ty : TE) : TE := fun σ H Q => td σ H fun x H1 => ∃ a, x = .ref a ∧ (∃ z o, KGet K w a z o) ∧ ty σ H1 fun y H2 => ∃ z o, y = .str z ∧ KGet K w a z o ∧ Q (o.getD .non) H2
def tKGet2 (K : PySem.W.Frag) (w : World) (td ty tx : TE) : TE := fun σ H Q => td σ H fun x H1 => ∃ a, x = .ref a ∧ (∃ z o, KGet K w a z o) ∧ ty σ H1 fun y H2 => tx σ H2 fun d H3 => ∃ z o, y = .str z ∧ KGet K w a z o ∧ Q (o.getD d) H3
section
variable {X : Cx} {pins : List (Addr × Obj)} {σ : L2.St} {H : Hp} {s : Shared} {a : Addr}
theorem kget_dict (I : Inv X pins σ H s) {z : Str} {o : Option V} (g : KGet X.K X.w a z o) : s.TypeIs (.ref a) "dict" ∧ (∀ b, Value.ref a = .ref b → ∃ ob, s.heap.get? b = some ob ∧ ob.dict = none) := by
  obtain ⟨es, n, hl, hk, _, _⟩ := g
  have e := I.kIn _ _ hl
  exact ⟨⟨_, e, rfl⟩, fun b q => by cases q; exact ⟨_, e, rfl⟩⟩
theorem kget_val {z : Str} {o : Option V} (g : KGet X.K X.w a z o) : ∃ es n, X.K.lookup a = some ⟨.type "dict", none, .dict es n, #[]⟩ ∧ PySem.W.KeysLit X.w.params es.toList ∧ ((o = none ∧ PySem.findBy Value.isStrOf es z = none) ∨ ∃ v u, o = some v ∧ PySem.findBy Value.isStrOf es z = some u ∧ RelV v u) := by
  obtain ⟨es, n, hl, hk, _, h⟩ := g
  refine ⟨es, n, hl, hk, ?_⟩
  rcases h with ⟨e, h⟩ | ⟨v, u, e, h, r⟩
  · exact .inl ⟨e, PySem.W.find_K hl h⟩
  · exact .inr ⟨v, u, e, PySem.W.find_K hl h, r⟩
theorem kget1 {z : Str} {o : Option V} {t : Tok} {A : Around} {E : Value → Shared → Prop} {Q : Value → Shared → Prop} (I : Inv X pins σ H s) (g : KGet X.K X.w a z o) (h : ∀ w' s', Inv X pins σ H s' → RelV (o.getD .non) w' → Q w' s') :
    wpAny (model X.prog X.w) A (call (.builtin "dict.get") [.ref a, .str z t]) Q E s := by
  obtain ⟨es, n, hl, hk, hv⟩ := kget_val g
  obtain ⟨_, _, _, _, hm, _⟩ := id g
  have M := PySem.W.mapOf_K (prog := X.prog) (w := X.w) I.kIn hl hk
  refine call_meetsIn PySem.F.slot_dict_get M.typeIs PySem.F.entry_dict_get (PySem.F.args_dict_get_2 _ _) (meets_dict_get (strKind X.prog X.w) a (strKind_is X.prog X.w z t) hm) ⟨_, M, h _ _ (I.tok _) ?_⟩
  rcases hv with ⟨rfl, e⟩ | ⟨v, u, rfl, e, r⟩
  · rw [e]; rfl
  · rw [e]; exact r
theorem kget2 {z : Str} {o : Option V} {d : V} {r : Value} {t : Tok} {A : Around} {E : Value → Shared → Prop} {Q : Value → Shared → Prop} (I : Inv X pins σ H s) (g : KGet X.K X.w a z o) (rd : RelV d r) (h : ∀ w' s', Inv X pins σ H s' → RelV (o.getD d) w' → Q w' s') :
    wpAny (model X.prog X.w) A (call (.builtin "dict.get") [.ref a, .str z t, r]) Q E s := by
  obtain ⟨es, n, hl, hk, hv⟩ := kget_val g
  obtain ⟨_, _, _, _, hm, _⟩ := id g
  have M := PySem.W.mapOf_K (prog := X.prog) (w := X.w) I.kIn hl hk
  refine call_meetsIn PySem.F.slot_dict_get M.typeIs PySem.F.entry_dict_get (PySem.F.args_dict_get_3 _ _ _) (meets_dict_get_default (strKind X.prog X.w) a (strKind_is X.prog X.w z t) hm r) ⟨_, M, h _ _ (I.tok _) ?_⟩
  rcases hv with ⟨rfl, e⟩ | ⟨v, u, rfl, e, ru⟩
  · rw [e]; exact rd
  · rw [e]; exact ru
end
section
variable {X : Cx} {o e f : Expr} {apos cpos : Pos} {td ty tx : TE}
theorem pe_kget1 (ho : PE X o td) (he : PE X e ty) (m : M1 X o "get" apos e cpos := by first | exact ⟨rfl, rfl, rfl, rfl⟩ | exact ⟨by rfl, by rfl, by rfl, by rfl⟩) : PE X (.Call (.Attribute o "get" apos) [e] [] cpos) (tKGet1 X.K X.w td ty) := by
  refine ⟨fun pins s σ H Q I h => ?_⟩
  refine wpAny_Call_method m.base m.few m.line PySem.F.plainAttrs_dict PySem.F.slot_dict_get PySem.F.type_dict_get (thn (ho.run pins s σ H _ I h) fun u s1 ⟨x, H1, I1, rx, a, ex, ⟨z0, o0, g0⟩, q1⟩ => ?_)
  subst ex
  obtain rfl : u = Value.ref a := rx
  obtain ⟨t1, t2⟩ := kget_dict I1 g0
  refine ⟨t1, t2, ?_⟩
  rw [m.trees]
  refine Calls.callWith_builtin rfl (Calls.evalArgs_plain (Calls.spliced_cons (thn (he.run pins s1 σ H1 _ I1 q1) fun iv s2 ⟨y, H2, I2, ry, z, ov, ey, g, q2⟩ => Calls.spliced_nil ?_)))
  subst ey
  obtain ⟨t, rfl⟩ := ry
  exact kget1 I2 g fun w' s3 I3 rw' => ⟨_, H2, I3, rw', q2⟩
theorem pe_kget2 (ho : PE X o td) (he : PE X e ty) (hf : PE X f tx) (m : M2 X o "get" apos e f cpos := by first | exact ⟨rfl, rfl, rfl, rfl⟩ | exact ⟨by rfl, by rfl, by rfl, by rfl⟩) : PE X (.Call (.Attribute o "get" apos) [e, f] [] cpos) (tKGet2 X.K X.w td ty tx) := by
  refine ⟨fun pins s σ H Q I h => ?_⟩
  refine wpAny_Call_method m.base m.few m.line PySem.F.plainAttrs_dict PySem.F.slot_dict_get PySem.F.type_dict_get (thn (ho.run pins s σ H _ I h) fun u s1 ⟨x, H1, I1, rx, a, ex, ⟨z0, o0, g0⟩, q1⟩ => ?_)
  subst ex
  obtain rfl : u = Value.ref a := rx
  obtain ⟨t1, t2⟩ := kget_dict I1 g0
  refine ⟨t1, t2, ?_⟩
  rw [m.trees]
  refine Calls.callWith_builtin rfl (Calls.evalArgs_plain (Calls.spliced_cons (thn (he.run pins s1 σ H1 _ I1 q1) fun iv s2 ⟨y, H2, I2, ry, q2⟩ =>
    Calls.spliced_cons (thn (hf.run pins s2 σ H2 _ I2 q2) fun fv s3 ⟨d, H3, I3, rz, z, ov, ey, g, q3⟩ => Calls.spliced_nil ?_))))
  subst ey
  obtain ⟨t, rfl⟩ := ry
  exact kget2 I3 g rz fun w' s4 I4 rw' => ⟨_, H3, I4, rw', q3⟩
end
theorem w_kget1 {K : PySem.W.Frag} {w : World} {td ty : TE} {σ : L2.St} {H : Hp} {Q : VK} (q : td σ H fun x H1 => ∃ a, x = .ref a ∧ (∃ z o, KGet K w a z o) ∧ ty σ H1 fun y H2 => ∃ z o, y = .str z ∧ KGet K w a z o ∧ Q (o.getD .non) H2) : tKGet1 K w td ty σ H Q := q
theorem w_kget2 {K : PySem.W.Frag} {w : World} {td ty tx : TE} {σ : L2.St} {H : Hp} {Q : VK} (q : td σ H fun x H1 => ∃ a, x = .ref a ∧ (∃ z o, KGet K w a z o) ∧ ty σ H1 fun y H2 => tx σ H2 fun d H3 => ∃ z o, y = .str z ∧ KGet K w a z o ∧ Q (o.getD d) H3) : tKGet2 K w td ty tx σ H Q := q
/-! ### a def that a table holds -/
structure StF (K : PySem.W.Frag) (q : Str) (st : Stmt) (ps : List Str) (f : Addr) : Prop where
  ex : ∃ fd, Fun K q q st f fd ∧ Binds K fd ps []
theorem StF.cd {P : Program} {w : World} {K : PySem.W.Frag} {mg : Str → Option Value} {base : Heap} {x : Str} {st : Stmt} {k : Nat} {f : Addr} {N ps : List Str} {sp : Sp} (Z : StF K x st ps f) (S : FnScope N ps (defScope st)) (len : ∀ vs H Q E, sp vs H Q E → vs.length = ps.length)
    (hbody : ∀ (f : Addr) (cdv : Value) (A : Around) (outer : List Env) (s : Shared) (H : Hp) (vs : List V) (Q : VK) (E : XK), Room k (A.deeper (envOfC x (defScope st) s.heap.objs.size f cdv)) → sp vs H Q E →
      ∃ t, PSs (cxOf CX0 P w K mg base N x (defScope st) f cdv A outer s H E).nox (defBody st) t ∧ t { nx := fun _ H' => Q .non H', rt := Q } (start N vs) H) : Held P w K mg base (k + 1) f sp := by
  obtain ⟨fd, F, b⟩ := Z.ex
  exact ⟨⟨fd, ps, F.ok S len (hbody f), F.kp, b⟩⟩
theorem mkStF {K : PySem.W.Frag} {x : Str} {st : Stmt} {ps : List Str} {f : Addr} {oc : Value} {od an : Option Addr} {osl : Array (Option Value)} {kV doc pm cdv ct : Value}
    (l : K.lookup f = some ⟨oc, od, .func (PySem.W.fnOf x x (defArgs st) (defBody st) (defScope st) .none kV doc pm an cdv ct), osl⟩) (c : PySem.W.codeIn K cdv x = true) (k : PySem.W.keepIn K (.ref f) = true)
    (hb : ∀ (kV doc pm : Value) (an : Option Addr) (cdv ct : Value) (us : List Value), us.length = ps.length → bindArgs (PySem.W.fnOf x x (defArgs st) (defBody st) (defScope st) .none kV doc pm an cdv ct) ⟨us, []⟩ = pure (ps.zip us)) : StF K x st ps f :=
  ⟨_, fun_mk (st := st) l c k, (fun_mk (st := st) l c k).binds hb⟩
end Co

set_option Elab.async false
set_option linter.all false
set_option maxRecDepth 100000
set_option maxHeartbeats 4000000
namespace Co
open PySem PySem.Spec PyProof.Rows L2
/-! ### sorted(found) of a set of ints, also of 64 and more -/
section
variable {P : Program} {w : World} {A : Around} {E : Value → Shared → Prop} {s : Shared} {a : Addr}
/-- what sorted leaves: all as it was, and a new list of the members in ascending order -/
structure SortedOut (s : Shared) (S : Int → Bool) (n : Nat) (p : Addr) (ns : List Int) (s' : Shared) : Prop where
  old : ∀ b o, s.heap.get? b = some o → s'.heap.get? b = some o
  gens : s'.gens = s.gens
  os : s'.os = s.os
  new : s.heap.objs.size ≤ p
  row : ∃ (out : Array Value) (c : Nat), s'.heap.get? p = some (seqObj "list" out c) ∧ IntsAre out.toList ns
  asc : ns.Pairwise (· < ·)
  mem : ∀ k, k ∈ ns ↔ S k = true
  len : ns.length = n
theorem sortedSet_any {S : Int → Bool} {n : Nat} {Q : Value → Shared → Prop} (R : SetR w s.heap a S n) (hh : A.handled = none) (hz : n ≤ sizeLine) (hQ : ∀ s' p ns, SortedOut s S n p ns s' → Q (.ref p) s') :
    wpAny (model P w) A (call (.builtin "sorted") [.ref a]) Q E s := by
  obtain ⟨o, es, ep, t, at1, exact1, dat, good, nodup, memb, room, fits, size, ris, led⟩ := R
  refine Calls.call_function_entry kind_sorted plain_sorted entry_sorted (args_sorted1 _) ?_
  unfold Builtin.«sorted»
  refine wpAny_bind (m := checkCount "sorted" 1 1 _) (wpAny_pure (wpAny_bind (collect_set (A := A.in1) hh ⟨o, at1, exact1.1, dat⟩ fits room ris led ?_)))
  intro s1 vs keep1 _ gens1 os1 perm1
  have lvs : vs.length = n := by simpa [size] using perm1.length_eq
  have each : ∀ v ∈ vs, ∃ (k : Int) (tk : Tok), v = .int k tk := fun v hv => by
    obtain ⟨e, he, rfl⟩ := List.mem_map.mp (perm1.mem_iff.mp hv)
    obtain ⟨k, tk, h1, _⟩ := good e he
    exact ⟨k, tk, h1⟩
  have keys : (vs.map Builtin.Re.reRawOf).Perm (es.toList.map keyOf) := (perm1.map Builtin.Re.reRawOf).trans (.of_eq (by rw [List.map_map]; rfl))
  have areInts : IntsAre vs (vs.map Builtin.Re.reRawOf) := ints_of vs each
  have hv : vs.length ≤ sizeLine := by omega
  refine wpAny_bind (wpAny_newList ?_ hv)
  have there : (s1.heap.push (seqObj "list" vs.toArray 0)).get? s1.heap.objs.size = some (seqObj "list" vs.toArray 0) := Heap.get?_push_size _ rfl
  refine wpAny_bind (wpAny_holding (wpAny_call_entry slot_list_sort ⟨_, there, rfl⟩ entry_list_sort (list_sort_treeAny there areInts hv ?_) (args_list_sort _)))
  intro out ns arow aperm asc
  have all := aperm.trans keys
  refine ⟨_, rfl, wpAny_pure ⟨_, rfl, hQ _ _ ns ⟨fun b u e => ?_, gens1, os1, ‹_›, ?_, lt_of_le_nodup ns asc (all.nodup_iff.mpr nodup), fun k => by rw [all.mem_iff, memb k], by simpa [size] using all.length_eq⟩⟩⟩
  · have q := keep1 b u e
    have lt := Heap.lt_size q
    show (sortedHeap (s1.heap.push (seqObj "list" vs.toArray 0)) s1.heap.objs.size vs out).get? b = some u
    rw [sortedHeap_old (Nat.ne_of_lt lt) (by rw [size_push']; exact Nat.lt_succ_of_lt lt)]
    exact Heap.get?_push_of_some _ q
  · obtain ⟨c, hc⟩ := sortedHeap_at (vs := vs) (out := out) there
    exact ⟨out, c, hc, arow⟩
end
def rSortedB (w : World) : List V → Hp → VK → Prop := fun vs H Q => ∃ (a : Addr) (S : Int → Bool) (n : Nat), vs = [V.ref a] ∧ H a = some (SetO w a S n) ∧ n ≤ 1000 ∧
  ∀ (ns : List Int) (p : Addr) (H' : Hp), ns.Pairwise (· < ·) → (∀ k : Int, k ∈ ns ↔ S k = true) → ns.length = n → H p = none → Same H H' → H' p = some (.lst (ns.map V.int)) → Q (.ref p) H'
theorem cr_sortedB {X : Cx} (hc : X.calm = true) : CallR X (.builtin "sorted") (rSortedB X.w) := by
  intro pins s σ H vs us Q I r h
  obtain ⟨a, S, n, rfl, ha, hn, q⟩ := h
  have small : n ≤ sizeLine := Nat.le_trans hn (by decide)
  rw [Vals.ref1 r]
  refine sortedSet_any (setO_get I ha) (I.ok.hd hc) small fun s' p ns z => ?_
  have free : H p = none := I.hok.fresh z.new
  obtain ⟨out, c, at1, row⟩ := z.row
  have ok1 : ObjOk X.prog X.w (upd H p (.lst (ns.map V.int))) s'.heap p (.lst (ns.map V.int)) := ⟨by rw [List.length_map, z.len]; exact small, out.toList, c, vals_of_ints row, at1⟩
  have J : Inv X pins σ (upd H p (.lst (ns.map V.int))) { s with heap := s'.heap, gens := s'.gens, drawn := s'.drawn, toks := s'.toks } :=
    I.call (ch := []) (Un.laid z.old z.new free) (I.hok.laid z.old z.new ok1) (by rw [z.gens]; exact I.bare) (fun _ z => nomatch z)
  have same : s' = { s with heap := s'.heap, gens := s'.gens, drawn := s'.drawn, toks := s'.toks } := by
    have o := z.os
    cases s'; cases s; cases o; rfl
  rw [same]
  exact ⟨.ref p, _, J, rfl, q ns p _ z.asc z.mem z.len free (Same.new free) upd_same⟩
theorem w_sortedB {w : World} {a : Addr} {S : Int → Bool} {n : Nat} {H : Hp} {Q : VK} (h : H a = some (SetO w a S n)) (hn : n ≤ 1000) (q : ∀ (ns : List Int) (p : Addr) H', ns.Pairwise (· < ·) → (∀ k : Int, k ∈ ns ↔ S k = true) → ns.length = n → H p = none → Same H H' → H' p = some (.lst (ns.map V.int)) → Q (.ref p) H') : rSortedB w [.ref a] H Q :=
  ⟨a, S, n, rfl, h, hn, q⟩
theorem w_sortedOfB {w : World} {D : Addr} {ns : List Int} {c : Nat} {H : Hp} {Q : VK} (h : H D = some (SetO w D (fun j => decide (j ∈ ns)) c)) (hc : c ≤ 1000) (q : ∀ (ms : List Int) (p : Addr) H', ms.Pairwise (· < ·) → (∀ k : Int, k ∈ ms ↔ k ∈ ns) → ms.length = c → H p = none → Same H H' → H' p = some (.lst (ms.map V.int)) → Q (.ref p) H') : rSortedB w [.ref D] H Q :=
  w_sortedB h hc fun ms p H' h1 h2 h3 h4 h5 h6 => q ms p H' h1 (fun k => (h2 k).trans decide_eq_true_iff) h3 h4 h5 h6
/-! ### a list's comprehension of two clauses, over tuples -/
/-- the inner clause's loop -/
def kIn2 (g1 : TG) (tt1 : TT) (te : TE) (vs1 : List Nat) (σ2 : L2.St) (D : Addr) (Nx : Hp → Prop) : It → Hp → Prop := fun J1 H4 => ∃ W1 : Nat → Nat → Hp → Prop, (∃ m, W1 0 m H4) ∧ ∀ j k H, W1 j k H →
  (J1.stop j H ∧ Nx H) ∨ (J1.go j H ∧ ∃ Nx1 : Hp → Prop, (∀ H', Nx1 H' → ∃ k', k' < k ∧ W1 (j + 1) k' H') ∧ ∀ x H', J1.yld j H x H' → g1 x (wipe σ2 vs1) H' fun σ3 H5 => wipe σ3 vs1 = wipe σ2 vs1 ∧ tt1 σ3 H5 fun b H6 =>
    if b = true then te σ3 H6 fun y H7 => ∃ acc, H7 D = some (.lst acc) ∧ acc.length < sizeLine ∧ Nx1 (upd H7 D (.lst (acc ++ [y]))) else Nx1 H6)
/-- the whole, from its first source's iterator on -/
def kLc2 (g : TG) (tt : TT) (wi1 : TI) (g1 : TG) (tt1 : TT) (te : TE) (vs vs1 : List Nat) (σ : L2.St) (Q : VK) : It → Hp → Prop := fun J H1 => ∀ D, H1 D = none → ∃ W : Nat → Nat → Hp → Prop, (∃ m, W 0 m (upd H1 D (.lst []))) ∧ ∀ i m H, W i m H →
  (J.stop i H ∧ Q (.ref D) H) ∨ (J.go i H ∧ ∃ Nx : Hp → Prop, (∀ H', Nx H' → ∃ m', m' < m ∧ W (i + 1) m' H') ∧ ∀ x H', J.yld i H x H' → g x (wipe σ vs) H' fun σ2 H2 => wipe σ2 vs = wipe σ vs ∧ tt σ2 H2 fun b H3 =>
    if b = true then wi1 σ2 H3 (kIn2 g1 tt1 te vs1 σ2 D Nx) else Nx H3)
theorem w_lc2 {wi : TI} {g : TG} {tt : TT} {wi1 : TI} {g1 : TG} {tt1 : TT} {te : TE} {vs vs1 : List Nat} {σ : L2.St} {H : Hp} {Q : VK} (q : wi σ H (kLc2 g tt wi1 g1 tt1 te vs vs1 σ Q)) : tLc2 wi g tt wi1 g1 tt1 te vs vs1 σ H Q := q
theorem w_lc2T {K : PySem.W.Frag} {g : TG} {tt : TT} {wi1 : TI} {g1 : TG} {tt1 : TT} {te : TE} {vs vs1 : List Nat} {σ : L2.St} {H : Hp} {Q : VK} {a : Addr} (xs : List V) (Pv : Addr → Nat → Hp → Prop) (hS : SqT K H a xs) (h0 : ∀ D, H D = none → Pv D 0 (upd H D (.lst []))) (hl : ∀ D i H, Pv D i H → SqT K H a xs)
    (hs : ∀ D i x H, xs[i]? = some x → Pv D i H → g x (wipe σ vs) H fun σ2 H2 => wipe σ2 vs = wipe σ vs ∧ tt σ2 H2 fun b H3 => if b = true then wi1 σ2 H3 (kIn2 g1 tt1 te vs1 σ2 D (Pv D (i + 1))) else Pv D (i + 1) H3)
    (hd : ∀ D H', H D = none → Pv D xs.length H' → Q (.ref D) H') : kIT K (kLc2 g tt wi1 g1 tt1 te vs vs1 σ Q) (.ref a) H := by
  refine ⟨a, rfl, ⟨_, hS⟩, fun D nD => ⟨fun i m H => m = xs.length - i ∧ i ≤ xs.length ∧ Pv D i H, ⟨xs.length, by simp, Nat.zero_le _, h0 D nD⟩, ?_⟩⟩
  rintro i m H' ⟨rfl, hi, p⟩
  rcases Nat.lt_or_ge i xs.length with lt | ge
  · refine .inr ⟨⟨xs, xs[i], hl D i H' p, by simp [lt]⟩, Pv D (i + 1), fun H2 p2 => ⟨xs.length - (i + 1), by omega, rfl, lt, p2⟩, fun v H2 y => ?_⟩
    obtain ⟨rfl, e⟩ : H2 = H' ∧ xs[i]? = some v := ⟨y.1, y.2 xs (hl D i H' p)⟩
    exact hs D i v _ e p
  · obtain rfl : i = xs.length := by omega
    exact .inl ⟨⟨xs, hl D _ H' p, Nat.le_refl _⟩, hd D H' nD p⟩
theorem w_in2T {K : PySem.W.Frag} {g1 : TG} {tt1 : TT} {te : TE} {vs1 : List Nat} {σ2 : L2.St} {D b : Addr} {Nx : Hp → Prop} {H : Hp} (ys : List V) (Pw : Nat → Hp → Prop) (hS : SqT K H b ys) (h0 : Pw 0 H) (hl : ∀ i H, Pw i H → SqT K H b ys)
    (hs : ∀ j y H, ys[j]? = some y → Pw j H → g1 y (wipe σ2 vs1) H fun σ3 H5 => wipe σ3 vs1 = wipe σ2 vs1 ∧ tt1 σ3 H5 fun b H6 =>
      if b = true then te σ3 H6 fun y H7 => ∃ acc, H7 D = some (.lst acc) ∧ acc.length < sizeLine ∧ Pw (j + 1) (upd H7 D (.lst (acc ++ [y]))) else Pw (j + 1) H6)
    (hd : ∀ H, Pw ys.length H → Nx H) : kIT K (kIn2 g1 tt1 te vs1 σ2 D Nx) (.ref b) H := by
  refine ⟨b, rfl, ⟨_, hS⟩, fun i m H => m = ys.length - i ∧ i ≤ ys.length ∧ Pw i H, ⟨ys.length, by simp, Nat.zero_le _, h0⟩, ?_⟩
  rintro i m H' ⟨rfl, hi, p⟩
  rcases Nat.lt_or_ge i ys.length with lt | ge
  · refine .inr ⟨⟨ys, ys[i], hl i H' p, by simp [lt]⟩, Pw (i + 1), fun H2 p2 => ⟨ys.length - (i + 1), by omega, rfl, lt, p2⟩, fun v H2 y => ?_⟩
    obtain ⟨rfl, e⟩ : H2 = H' ∧ ys[i]? = some v := ⟨y.1, y.2 ys (hl i H' p)⟩
    exact hs i v _ e p
  · obtain rfl : i = ys.length := by omega
    exact .inl ⟨⟨ys, hl _ H' p, Nat.le_refl _⟩, hd H' p⟩
theorem pi_tupK {X : Cx} {K' : PySem.W.Frag} {tg l : Expr} {tl : TE} (hK : X.K = K') (hl : PE X l tl) : PI X tg l (iTup K' tl) := by subst hK; exact pi_tup hl
theorem pi_listK {X : Cx} {K' : PySem.W.Frag} {tg l : Expr} {tl : TE} (hK : X.K = K') (hl : PE X l tl) : PI X tg l (iList K' tl) := by subst hK; exact pi_list hl
end Co


set_option Elab.async false
set_option linter.all false
set_option maxRecDepth 100000
set_option maxHeartbeats 4000000
open PySem PySem.Spec PyProof.Rows L2 Co
local macro_rules | `(tactic| walk_at "side") => `(tactic| first | assumption | (refine wide_div (b := 40) ?_ (show _ < 1099511627776 from ?_) (by decide) (by decide) <;> omega) | (dsimp only [CDiv, CPow, CMul, CDivW, CMulW]; omega) | omega | decide)
local macro_rules | `(tactic| walk_at "w1") => `(tactic| first
  | ((with_reducible refine' w_var ?hv ?_); (case hv => exact rfl))
  | (with_reducible refine w_c ?_)
  | (with_reducible refine w_op ?_)
  | (with_reducible refine w_un ?_)
  | (with_reducible refine w_I0 ?_)
  | (with_reducible refine w_p32 ?_)
  | (with_reducible refine w_p31 ?_)
  | (with_reducible refine w_p26 ?_)
  | (with_reducible refine w_p22 ?_)
  | (with_reducible refine w_p20 ?_)
  | (with_reducible refine w_p18 ?_)
  | (with_reducible refine w_p17 ?_)
  | (with_reducible refine w_p16 ?_)
  | (with_reducible refine w_p14 ?_)
  | (with_reducible refine w_p13 ?_)
  | ((with_reducible refine w_I ?hc ?_); (case hc => walk_at "side"))
  | (with_reducible refine w_U ?_)
  | (with_reducible refine w_eqI ?_)
  | (with_reducible refine w_neI ?_)
  | (with_reducible refine w_eqS ?_)
  | ((with_reducible refine w_eq ?hc ?_); (case hc => exact rfl))
  | ((with_reducible refine w_ne ?hc ?_); (case hc => exact rfl))
  | (with_reducible refine w_test ?_)
  | (with_reducible refine w_B ?_)
  | (with_reducible refine w_bl ?_)
  | (with_reducible refine w_if ?_)
  | (with_reducible refine w_ifB ?_)
  | (with_reducible refine w_isB ?_)
  | (with_reducible refine w_notB ?_)
  | (with_reducible refine w_isiInt ?_)
  | (with_reducible refine w_isiIntB ?_)
  | (with_reducible refine w_andT ?_)
  | (with_reducible refine w_orT ?_)
  | (with_reducible refine w_notT ?_)
  | (with_reducible refine w_andV ?_)
  | (with_reducible refine w_orV ?_)
  | (with_reducible refine w_notV ?_)
  | (with_reducible refine w_chain ?_)
  | (with_reducible refine w_seq ?_)
  | (with_reducible refine w_next ?_)
  | (with_reducible refine w_ret ?_)
  | (with_reducible refine w_retN ?_)
  | (with_reducible refine w_ifS ?_)
  | (with_reducible refine w_asg ?_)
  | (with_reducible refine w_name ?_)
  | (with_reducible refine w_drop ?_)
  | (with_reducible refine w_nil ?_)
  | (with_reducible refine w_cons ?_)
  | (with_reducible refine w_call ?_)
  | (with_reducible refine w_cb ?_)
  | (with_reducible refine w_sub ?_)
  | (with_reducible refine w_gNil ?_)
  | (with_reducible refine w_gCons ?_)
  | ((with_reducible refine' w_gTup ?hh ?hn ?_); (case hh => assumption); (case hn => exact rfl))
  | (with_reducible refine w_for ?_)
  | (with_reducible refine w_iL ?_)
  | (with_reducible refine w_iT ?_)
  | (with_reducible refine w_rng1 ?_)
  | (with_reducible refine w_rng2 ?_)
  | (with_reducible refine w_lc ?_)
  | (with_reducible refine w_zST ?_)
  | (with_reducible refine w_sc ?_)
  | ((with_reducible refine' w_aug ?hh ?_); (case hh => exact rfl))
  | (with_reducible refine w_ipI ?_)
  | (with_reducible refine w_iSt ?_)
  | (with_reducible refine w_sl ?_)
  | (with_reducible refine w_part ?_)
  | (with_reducible refine w_noPart ?_)
  | (with_reducible refine w_exI ?_)
  | (with_reducible refine w_m1 ?_)
  | (with_reducible refine w_isS ?_)
  | (with_reducible refine w_starts ?_)
  | (with_reducible refine w_bm ?_)
  | ((with_reducible refine' w_tyL ?hh ?_); (case hh => assumption))
  | (with_reducible refine w_star ?_)
  | (with_reducible refine w_inSg ?_)
  | (with_reducible refine w_yes ?_)
  | (with_reducible refine w_tup ?_)
  | (with_reducible refine w_lst ?_)
  | ((with_reducible refine' w_ixL ?hh ?ha ?_); (case hh => assumption); (case ha => exact rfl))
  | ((with_reducible refine' w_ixT ?hh ?ha ?_); (case hh => assumption); (case ha => exact rfl))
  | ((with_reducible refine' w_setL ?hh ?ha ?_); (case hh => assumption); (case ha => exact rfl))
  | ((with_reducible refine' w_lenL ?hh ?_); (case hh => assumption))
  | (with_reducible refine w_int1 ?_)
  | (with_reducible refine w_abs ?_)
  | (with_reducible refine w_nT ?_)
  | (with_reducible refine w_nF ?_)
  | (with_reducible refine w_itT ?_)
  | (with_reducible refine w_itF ?_)
  | ((with_reducible refine w_spI1 ?hc ?_); (case hc => walk_at "side"))
  | ((with_reducible refine w_spI2 ?hc ?_); (case hc => walk_at "side")))
local macro_rules | `(tactic| walk_at "ws") => `(tactic| repeat (walk_at "w1"))
local macro_rules | `(tactic| walk_at "wd") => `(tactic| repeat (first | walk_at "w1" | (refine w_decT ?hd ?_; (case hd => decide)) | (refine w_decF ?hd ?_; (case hd => decide))))
local macro_rules | `(tactic| walk_at "wr") => `(tactic| repeat (first | walk_at "w1" | (refine w_ndecF rfl ?_)))

namespace K21
def topS (i : Nat) : Stmt := PySem.Challenge.pw_restitch_k21_results_and_decided_branche.main.body.getD i (.Pass ⟨0, 0, 0, 0⟩)
abbrev s_plain_op : Stmt := topS 4
abbrev s_signed : Stmt := topS 7
abbrev s_add : Stmt := topS 42
abbrev s_sub : Stmt := topS 44
abbrev s_mul : Stmt := topS 12
abbrev s_and : Stmt := topS 46
abbrev s_or : Stmt := topS 49
abbrev s_xor : Stmt := topS 17
abbrev s_shl : Stmt := topS 53
abbrev s_shr : Stmt := topS 51
abbrev s_sar : Stmt := topS 22
abbrev s_slt : Stmt := topS 23
abbrev s_sltu : Stmt := topS 24
abbrev s_divu : Stmt := topS 55
abbrev s_remu : Stmt := topS 57
abbrev s_compute : Stmt := topS 30
abbrev s_holds : Stmt := topS 31
abbrev s_is_row_fact : Stmt := topS 36
abbrev s_only_word : Stmt := topS 37
abbrev s_bounds : Stmt := topS 38
abbrev s_span : Stmt := topS 39
abbrev s_fact_of_words : Stmt := topS 40
abbrev s_result : Stmt := topS 41
abbrev s_add_1 : Stmt := topS 8
abbrev s_sub_1 : Stmt := topS 10
abbrev s_and_1 : Stmt := topS 13
abbrev s_sums : Stmt := topS 48
abbrev s_or_1 : Stmt := topS 15
abbrev s_shr_1 : Stmt := topS 20
abbrev s_shl_1 : Stmt := topS 18
abbrev s_divu_1 : Stmt := topS 25
abbrev s_remu_1 : Stmt := topS 27
abbrev s_less : Stmt := topS 59
abbrev s_decided : Stmt := topS 61
abbrev s_law_draw : Stmt := topS 63
abbrev s_law_take : Stmt := topS 64
abbrev s_law_signed : Stmt := topS 65
abbrev s_law_compute : Stmt := topS 66
abbrev s_law_holds : Stmt := topS 67
abbrev s_law_word : Stmt := topS 68
abbrev s_law_fact : Stmt := topS 69
abbrev s_law_bounds : Stmt := topS 70
abbrev s_law_allows : Stmt := topS 71
abbrev s_law_of : Stmt := topS 72
abbrev s_law_row : Stmt := topS 73
abbrev s_law_samples : Stmt := topS 74
abbrev s_law_by_word : Stmt := topS 75
abbrev s_law_result : Stmt := topS 76
abbrev s_law_decided : Stmt := topS 77
abbrev s_law : Stmt := topS 78
theorem sc_law_draw : FnScope ["script", "seed", "cell"] ["script"] (defScope s_law_draw) := ⟨rfl, rfl, rfl, by decide +kernel, rfl, by decide +kernel, by decide +kernel⟩
theorem sc_law_take : FnScope ["draw", "many", "found"] ["draw", "many"] (defScope s_law_take) := ⟨rfl, rfl, rfl, by decide +kernel, rfl, by decide +kernel, by decide +kernel⟩
/-! drawing -/
def mabs (n : Int) : Int := if n < 0 then -n else n
theorem mabs_nn (n : Int) : 0 ≤ mabs n := by unfold mabs; split <;> omega
def DrawC (H : Hp) (d c : Addr) : Prop := ∃ (cs : List Int) (i cur seed : Int), H d = some (.lst [.ref c, .int i, .int cur, .int seed]) ∧ H c = some (.lst (cs.map V.int)) ∧ c ≠ d ∧ -1 ≤ i ∧ 0 ≤ cur ∧ 0 ≤ seed ∧ seed < 2147483647 ∧ ∀ x ∈ cs, 0 ≤ x
theorem DrawC.keep {H H' : Hp} {d c : Addr} (h : DrawC H d c) (s1 : ∀ o, H d = some o → H' d = some o) (s2 : ∀ o, H c = some o → H' c = some o) : DrawC H' d c := by
  obtain ⟨cs, i, cur, seed, hd, hc, r⟩ := h
  exact ⟨cs, i, cur, seed, s1 _ hd, s2 _ hc, r⟩
theorem DrawC.same {H H' : Hp} {d c : Addr} (h : DrawC H d c) (s : Same H H') : DrawC H' d c := h.keep (s d) (s c)
theorem DrawC.ne {H : Hp} {d c p : Addr} (h : DrawC H d c) (np : H p = none) : p ≠ d := by
  obtain ⟨cs, i, cur, seed, e, _⟩ := h
  exact (ne_of_none e np).symm
theorem DrawC.nec {H : Hp} {d c p : Addr} (h : DrawC H d c) (np : H p = none) : p ≠ c := by
  obtain ⟨cs, i, cur, seed, _, e, _⟩ := h
  exact (ne_of_none e np).symm
def spDraw (K : PySem.W.Frag) : Sp := fun vs H Q _ => ∃ (a : Addr) (ns : List Int), vs = [.ref a] ∧ SqL K H a (ns.map V.int) ∧ ns.length ≤ 63 ∧ ∀ (d c : Addr) H', H d = none → H c = none → Same H H' → DrawC H' d c → Q (.ref d) H'
def spTake : Sp := fun vs H Q _ => ∃ (d c : Addr) (m : Int), vs = [.ref d, .int m] ∧ DrawC H d c ∧ 0 < m ∧ m ≤ 4294967296 ∧ ∀ (r : Int) H', 0 ≤ r → r < m → DrawC H' d c → But d H H' → Q (.int r) H'
theorem w_take {H : Hp} {Q : VK} {E : XK} {d c : Addr} {m : Int} (hd : DrawC H d c) (h0 : 0 < m) (h1 : m ≤ 4294967296) (q : ∀ (r : Int) H', 0 ≤ r → r < m → DrawC H' d c → But d H H' → Q (.int r) H') : spTake [.ref d, .int m] H Q E := ⟨d, c, m, rfl, hd, h0, h1, q⟩
section
variable {P : Program} {w : World} {K : PySem.W.Frag} {mg : Str → Option Value} {base : Heap}
theorem ok_take (b_int : mg "int" = none) (b_abs : mg "abs" = none) (b_len : mg "len" = none) (Z : St1 K mg "_law_take" s_law_take ["draw", "many"]) : Cd P w K mg base 1 "_law_take" spTake := by
  refine Z.cd sc_law_take (fun vs H Q E h => by obtain ⟨d, c, m, rfl, _⟩ := h; rfl) (fun f cdv A outer s H vs Q E hr h => ?_)
  obtain ⟨d, c, m, rfl, ⟨cs, i, cur, seed, hd, hc, ncd, hi, hcur, hs0, hs1, hcs⟩, hm0, hm1, q⟩ := h
  refine ⟨_, (Evl.pss_cut (ps_if (pt_cmpR op_eq (pe_ix ix_list (pv 0) pe_int (fun _ _ => rfl)) pe_int (nomark _)) (pss_cons (ps_asg (pe_op op_add (pe_ix ix_list (pv 0) pe_int (fun _ _ => rfl)) pe_int) (pg_sub (pv 0) pe_int set_list))
      (Evl.pss_cut (ps_if (pt_cmpR op_lt (pe_ix ix_list (pv 0) pe_int (fun _ _ => rfl)) (pe_callB call_lenQ (by rfl) b_len PySem.boot_len (pa_cons (pe_ix ix_list (pv 0) pe_int (fun _ _ => rfl)) pa_nil)) (nomark _)) (pss_one (ps_asg (pe_ix ix_list (pe_ix ix_list (pv 0) pe_int (fun _ _ => rfl)) (pe_ix ix_list (pv 0) pe_int (fun _ _ => rfl)) (fun _ _ => rfl)) (pg_sub (pv 0) pe_int set_list))) pss_nil)
      (pss_one (ps_if (pt_cmpR op_eq (pe_ix ix_list (pv 0) pe_int (fun _ _ => rfl)) pe_int (nomark _)) (pss_cons (ps_asg (pe_op op_mod (pe_callTy call_intQ (by rfl) b_int (by decide +kernel) (pa_cons (pe_op op_add (pe_op op_mul (pe_ix ix_list (pv 0) pe_int (fun _ _ => rfl)) pe_int) pe_int) pa_nil)) pe_int) (pg_sub (pv 0) pe_int set_list))
      (pss_one (ps_asg (pe_ix ix_list (pv 0) pe_int (fun _ _ => rfl)) (pg_sub (pv 0) pe_int set_list)))) pss_nil)))) pss_nil)
      (pss_cons (ps_set (i := 2) sc_law_take.nd rfl (.inl rfl) (pe_op op_mod (pe_callTy call_intQ (by rfl) b_int (by decide +kernel) (pa_cons (pe_ix ix_list (pv 0) pe_int (fun _ _ => rfl)) pa_nil)) (pv 1)))
      (pss_cons (ps_asg (pe_op op_fdivW (pe_ix ix_list (pv 0) pe_int (fun _ _ => rfl)) (pv 1)) (pg_sub (pv 0) pe_int set_list))
      (pss_one (ps_ret (pv 2)))))), ?_⟩
  refine Evl.q_cut (M := fun σ' H' => σ' = [some (.ref d), some (.int m), none] ∧ But d H H' ∧ ∃ i' cur' seed', H' d = some (.lst [.ref c, .int i', .int cur', .int seed']) ∧ H' c = some (.lst (cs.map V.int)) ∧ -1 ≤ i' ∧ 0 ≤ cur' ∧ 0 ≤ seed' ∧ seed' < 2147483647) ?_ ?_
  · walk_at "ws"
    refine w_dec (fun e => ?_) (fun e => ?_)
    · walk_at "ws"
      intro H1 hd1 bt1
      replace hd1 : H1 d = some (.lst [.ref c, .int (i + 1), .int cur, .int seed]) := hd1
      have hc1 : H1 c = some (.lst (cs.map V.int)) := bt1 c _ ncd hc
      walk_at "ws"
      refine Evl.q_cut (M := fun σ' H' => σ' = [some (.ref d), some (.int m), none] ∧ But d H H' ∧ ∃ cur', H' d = some (.lst [.ref c, .int (i + 1), .int cur', .int seed]) ∧ 0 ≤ cur') ?_ ?_
      · walk_at "ws"
        refine w_dec (fun e2 => ?_) (fun e2 => ?_)
        · walk_at "ws"
          have l1 : (cs.map V.int).length = cs.length := List.length_map ..
          have hlt : (i + 1).toNat < cs.length := by omega
          refine w_ixL (v := .int cs[(i + 1).toNat]) hc1 (atI_of (by omega) ?_) ?_
          · rw [List.getElem?_map, List.getElem?_eq_getElem hlt]; rfl
          walk_at "ws"
          intro H2 hd2 bt2
          walk_at "ws"
          exact ⟨rfl, bt1.trans bt2, _, hd2, hcs _ (List.getElem_mem hlt)⟩
        · walk_at "ws"
          exact ⟨rfl, bt1, cur, hd1, hcur⟩
      · rintro σ' H2 ⟨rfl, bt2, cur2, hd2, hcur2⟩
        walk_at "ws"
        have hc2 : H2 c = some (.lst (cs.map V.int)) := bt2 c _ ncd hc
        refine w_dec (fun e2 => ?_) (fun e2 => ?_)
        · walk_at "ws"
          intro H3 hd3 bt3
          replace hd3 : H3 d = some (.lst [.ref c, .int (i + 1), .int cur2, .int ((seed * 48271 + 11) % 2147483647)]) := hd3
          walk_at "ws"
          intro H4 hd4 bt4
          replace hd4 : H4 d = some (.lst [.ref c, .int (i + 1), .int ((seed * 48271 + 11) % 2147483647), .int ((seed * 48271 + 11) % 2147483647)]) := hd4
          have g1 : 0 ≤ (seed * 48271 + 11) % 2147483647 := Int.emod_nonneg _ (by omega)
          have g2 : (seed * 48271 + 11) % 2147483647 < 2147483647 := Int.emod_lt_of_pos _ (by omega)
          exact ⟨rfl, bt2.trans (bt3.trans bt4), _, _, _, hd4, bt4 c _ ncd (bt3 c _ ncd hc2), by omega, g1, g1, g2⟩
        · walk_at "ws"
          exact ⟨rfl, bt2, _, _, _, hd2, hc2, by omega, hcur2, hs0, hs1⟩
    · walk_at "ws"
      exact ⟨rfl, But.refl _ _, i, cur, seed, hd, hc, hi, hcur, hs0, hs1⟩
  · rintro σ' H' ⟨rfl, bt, i', cur', seed', hd', hc', hi', hcur', hs0', hs1'⟩
    walk_at "ws"
    intro H1 hd1 bt1
    replace hd1 : H1 d = some (.lst [.ref c, .int i', .int (cur' / m), .int seed']) := hd1
    walk_at "ws"
    refine q (cur' % m) H1 (Int.emod_nonneg _ (by omega)) (Int.emod_lt_of_pos _ hm0) ⟨cs, i', cur' / m, seed', hd1, bt1 c _ ncd hc', ncd, hi', Int.ediv_nonneg hcur' (by omega), hs0', hs1', hcs⟩ (bt.trans bt1)
theorem ok_draw (b_int : mg "int" = none) (b_abs : mg "abs" = none) (b_len : mg "len" = none) (Z : St1 K mg "_law_draw" s_law_draw ["script"]) : Cd P w K mg base 1 "_law_draw" (spDraw K) := by
  refine Z.cd sc_law_draw (fun vs H Q E h => by obtain ⟨d, m, rfl, _⟩ := h; rfl) (fun f cdv A outer s H vs Q E hr h => ?_)
  obtain ⟨a, ns, rfl, hS, hlen, q⟩ := h
  refine ⟨_, (pss_cons (ps_set (i := 1) sc_law_draw.nd rfl (.inl rfl) pe_int)
      (pss_cons (ps_for PassesOwn.never rfl (pi_list (pv 0)) (pg_name (i := 2) sc_law_draw.nd rfl (.inl rfl))
      (pss_one (ps_set (i := 1) sc_law_draw.nd rfl (.inl rfl) (pe_op op_mod (pe_callTy call_intQ (by rfl) b_int (by decide +kernel) (pa_cons (pe_op op_add (pe_op op_add (pe_op op_mul (pv 1) pe_int) (pe_op op_mod (pe_callB call_absQ (by rfl) b_abs (by decide +kernel) (pa_cons (pe_callTy call_intQ (by rfl) b_int (by decide +kernel) (pa_cons (pv 2) pa_nil)) pa_nil)) pe_int)) pe_int) pa_nil)) pe_int))))
      (pss_one (ps_ret (pe_lst (pa_cons (pe_lc (own := [("cell", 2)]) rfl sc_law_draw.nd (pi_list (pv 0)) (blkOk_by (own := [("cell", 2)]) (N := ["script", "seed", "cell"]) (sc := (defScope s_law_draw)) (by decide +kernel)) (fun _ _ _ _ _ => (pg_name (i := 2) sc_law_draw.nd rfl (.inl rfl))) (fun _ _ _ _ _ => pts_nil) (fun _ _ _ _ _ => (pe_callB call_absQ (by rfl) b_abs (by decide +kernel) (pa_cons (pe_callTy call_intQ (by rfl) b_int (by decide +kernel) (pa_cons (pv 2) pa_nil)) pa_nil)))) (pa_cons (pe_un un_neg pe_int) (pa_cons pe_int (pa_cons (pv 1) pa_nil))))))))), ?_⟩
  walk_at "ws"
  refine w_forL (ns.map V.int) (fun i σ' H' => H' = H ∧ ∃ (y : Option V) (seed : Int), σ' = [some (.ref a), some (.int seed), y] ∧ 0 ≤ seed ∧ seed < 2147483647) hS ⟨rfl, none, 7, rfl, by decide, by decide⟩ (fun i σ' H' _ ⟨e, _⟩ => by rw [e]; exact hS) ?_ ?_
  · rintro i x σ' H' hx ⟨rfl, y, seed, rfl, h0, h1⟩
    obtain ⟨n, _, rfl⟩ := map_get hx
    walk_at "ws"
    refine ⟨rfl, _, _, rfl, Int.emod_nonneg _ (by omega), Int.emod_lt_of_pos _ (by omega)⟩
  · rintro σ' H' ⟨rfl, y, seed, rfl, h0, h1⟩
    walk_at "ws"
    refine w_lcL (ns.map V.int) (fun c i H2 => H' c = none ∧ Same H' H2 ∧ H2 c = some (.lst (((ns.take i).map mabs).map V.int))) hS (fun c nc => ⟨nc, Same.new nc, upd_same⟩) (fun c i H2 _ ⟨_, e, _⟩ => e.seq hS) ?_ ?_
    · rintro c i x H2 hx ⟨nc, sm, hc⟩
      obtain ⟨n, hn, rfl⟩ := map_get hx
      walk_at "ws"
      refine ⟨rfl, ?_⟩
      walk_at "ws"
      have hi : i < ns.length := (List.getElem?_eq_some_iff.mp hn).1
      refine ⟨_, hc, by simp only [List.length_map, List.length_take]; exact small1000 (by omega), nc, ?_, ?_⟩
      · exact fun b o e => by rw [upd_ne (ne_of_none e nc)]; exact sm b o e
      · rw [upd_same, take_more hn, List.map_append, List.map_append]; rfl
    · rintro c H2 nc ⟨_, sm, hc⟩
      walk_at "ws"
      refine w_kLst (by show 4 ≤ sizeLine; decide) fun d H3 nd sm3 hd => ?_
      have hdc : c ≠ d := ne_of_none hc nd
      rw [List.length_map, List.take_length] at hc
      refine q d c _ (sm.free nd) nc (sm.trans sm3) ⟨ns.map mabs, -1, 0, seed, hd, sm3 _ _ hc, hdc, by decide, by decide, h0, h1, fun x hx => ?_⟩
      obtain ⟨n, _, rfl⟩ := List.mem_map.mp hx
      exact mabs_nn n
end
end K21

open PySem.W
namespace K21
local macro_rules | `(tactic| walk_at "w1") => `(tactic| first
  | ((with_reducible refine' w_ixTs ?hh ?ha ?_); (case hh => assumption); (case ha => exact rfl))
  | (with_reducible refine w_par ?_)
  | (with_reducible refine w_par3 ?_)
  | (with_reducible refine w_two ?_)
  | (with_reducible refine w_three ?_)
  | (with_reducible refine w_isNN ?_)
  | (with_reducible refine w_isNR ?_)
  | (with_reducible refine w_notNN ?_)
  | (with_reducible refine w_notNR ?_))
theorem sc_is_row_fact : FnScope ["fact"] ["fact"] (defScope s_is_row_fact) := ⟨rfl, rfl, rfl, by decide +kernel, rfl, by decide +kernel, by decide +kernel⟩
theorem sc_bounds : FnScope ["fact"] ["fact"] (defScope s_bounds) := ⟨rfl, rfl, rfl, by decide +kernel, rfl, by decide +kernel, by decide +kernel⟩
theorem sc_span : FnScope ["low", "high"] ["low", "high"] (defScope s_span) := ⟨rfl, rfl, rfl, by decide +kernel, rfl, by decide +kernel, by decide +kernel⟩
inductive Fa where
  | all
  | row (ws : List Int)
  | rng (lo hi : Int)
  deriving DecidableEq
def FaAt (K : PySem.W.Frag) (H : Hp) (v : V) : Fa → Prop
  | .all => v = .non
  | .row ws => ∃ a b, v = .ref a ∧ SqT K H a [.str "words", .ref b] ∧ SqT K H b (ws.map V.int)
  | .rng lo hi => ∃ a, v = .ref a ∧ SqT K H a [.str "range", .int lo, .int hi]
theorem FaAt.same {K : PySem.W.Frag} {H H' : Hp} {v : V} {F : Fa} (h : FaAt K H v F) (s : Same H H') : FaAt K H' v F := by
  cases F with
  | all => exact h
  | row ws => obtain ⟨a, b, e, h1, h2⟩ := h; exact ⟨a, b, e, s.sqT h1, s.sqT h2⟩
  | rng lo hi => obtain ⟨a, e, h1⟩ := h; exact ⟨a, e, s.sqT h1⟩
def Fa.isRow : Fa → Bool
  | .row _ => true
  | _ => false
def Fa.lo : Fa → Int
  | .all => 0
  | .row ws => ws.headD 0
  | .rng lo _ => lo
def Fa.hi : Fa → Int
  | .all => 4294967295
  | .row ws => ws.getLastD 0
  | .rng _ hi => hi
def Fa.alw : Fa → Int → Bool
  | .all, _ => true
  | .row ws, w => decide (w ∈ ws)
  | .rng lo hi, w => decide (lo ≤ w) && decide (w ≤ hi)
def spanF (lo hi : Int) : Fa := if lo = hi then .row [lo] else if lo = 0 ∧ hi = 4294967295 then .all else .rng lo hi
theorem at_head {ws : List Int} (h : ws ≠ []) : atI (ws.map V.int) 0 = some (.int (ws.headD 0)) := by
  cases ws with
  | nil => exact absurd rfl h
  | cons w r => exact atI_nat (xs := (w :: r).map V.int) (j := 0) rfl
theorem at_last {ws : List Int} (h : ws ≠ []) : atI (ws.map V.int) (-1) = some (.int (ws.getLastD 0)) := by
  have hl : 0 < ws.length := List.length_pos_iff.mpr h
  unfold atI ixN
  rw [List.length_map, if_neg (by decide), if_pos (by omega)]
  have e : (-1 + (ws.length : Int)).toNat = ws.length - 1 := by omega
  simp only [e, Option.bind_some]
  rw [List.getElem?_map, ← List.getLast?_eq_getElem?, List.getLast?_eq_some_getLast h, List.getLastD_eq_getLast?, List.getLast?_eq_some_getLast h]
  rfl
def spIsRow (K : PySem.W.Frag) : Sp := fun vs H Q _ => ∃ v F, vs = [v] ∧ FaAt K H v F ∧ Q (.bl F.isRow) H
def spBounds (K : PySem.W.Frag) : Sp := fun vs H Q _ => ∃ v F, vs = [v] ∧ FaAt K H v F ∧ F ≠ .row [] ∧ ∀ p H', H p = none → Same H H' → H' p = some (.tup [.int F.lo, .int F.hi]) → Q (.ref p) H'
def spSpan (K : PySem.W.Frag) : Sp := fun vs H Q _ => ∃ lo hi, vs = [.int lo, .int hi] ∧ ∀ v H', Same H H' → FaAt K H' v (spanF lo hi) → Q v H'
def spAllows (K : PySem.W.Frag) : Sp := fun vs H Q _ => ∃ v F w, vs = [v, .int w] ∧ FaAt K H v F ∧ Q (.bl (F.alw w)) H
section
variable {P : Program} {w : World} {K : PySem.W.Frag} {mg : Str → Option Value} {base : Heap}
theorem ok_is_row_fact (Z : St1 K mg "is_row_fact" s_is_row_fact ["fact"]) : Cd P w K mg base 1 "is_row_fact" (spIsRow K) := by
  refine Z.cd sc_is_row_fact (fun vs H Q E h => by obtain ⟨v, F, rfl, _⟩ := h; rfl) (fun f cdv A outer s H vs Q E hr h => ?_)
  obtain ⟨v, F, rfl, hF, q⟩ := h
  refine ⟨_, (pss_one (ps_ret (pe_and (pe_cmpR op_notNQ (pv 0) pe_non (nomark _)) (pe_one (pe_cmpR op_eq (pe_ix ix_tup (pv 0) pe_int (fun _ _ => rfl)) pe_str (nomark _)))))), ?_⟩
  cases F with
  | all =>
    obtain rfl : v = .non := hF
    walk_at "wd"
    exact q
  | row ws =>
    obtain ⟨a, b, rfl, h1, h2⟩ := hF
    walk_at "wd"
    exact q
  | rng lo hi =>
    obtain ⟨a, rfl, h1⟩ := hF
    walk_at "wd"
    exact q
theorem ok_bounds (g_MASK : GV mg "MASK" (.int 4294967295)) (Z : St1 K mg "bounds" s_bounds ["fact"]) : Cd P w K mg base 1 "bounds" (spBounds K) := by
  refine Z.cd sc_bounds (fun vs H Q E h => by obtain ⟨v, F, rfl, _⟩ := h; rfl) (fun f cdv A outer s H vs Q E hr h => ?_)
  obtain ⟨v, F, rfl, hF, hne, q⟩ := h
  refine ⟨_, (pss_cons (ps_if (pt_cmpR op_isNQ (pv 0) pe_non (nomark _)) (pss_one (ps_ret (pe_tup (pa_cons pe_int (pa_cons (pe_gv (by rfl) g_MASK) pa_nil))))) pss_nil)
      (pss_cons (ps_if (pt_cmpR op_eq (pe_ix ix_tup (pv 0) pe_int (fun _ _ => rfl)) pe_str (nomark _)) (pss_one (ps_ret (pe_tup (pa_cons (pe_ix ix_tup (pe_ix ix_tup (pv 0) pe_int (fun _ _ => rfl)) pe_int (fun _ _ => rfl)) (pa_cons (pe_ix ix_tup (pe_ix ix_tup (pv 0) pe_int (fun _ _ => rfl)) (pe_un un_neg pe_int) (fun _ _ => rfl)) pa_nil))))) pss_nil)
      (pss_one (ps_ret (pe_tup (pa_cons (pe_ix ix_tup (pv 0) pe_int (fun _ _ => rfl)) (pa_cons (pe_ix ix_tup (pv 0) pe_int (fun _ _ => rfl)) pa_nil))))))), ?_⟩
  cases F with
  | all =>
    obtain rfl : v = .non := hF
    walk_at "wd"
    exact w_kTup (by show 2 ≤ sizeLine; decide) q
  | row ws =>
    obtain ⟨a, b, rfl, h1, h2⟩ := hF
    have hw : ws ≠ [] := fun e => hne (by rw [e])
    walk_at "wd"
    refine w_ixTs h2 (at_head hw) ?_
    walk_at "wd"
    refine w_ixTs h2 (at_last hw) ?_
    walk_at "wd"
    exact w_kTup (by show 2 ≤ sizeLine; decide) q
  | rng lo hi =>
    obtain ⟨a, rfl, h1⟩ := hF
    walk_at "wd"
    exact w_kTup (by show 2 ≤ sizeLine; decide) q
theorem ok_span (g_MASK : GV mg "MASK" (.int 4294967295)) (Z : St1 K mg "span" s_span ["low", "high"]) : Cd P w K mg base 1 "span" (spSpan K) := by
  refine Z.cd sc_span (fun vs H Q E h => by obtain ⟨lo, hi, rfl, _⟩ := h; rfl) (fun f cdv A outer s H vs Q E hr h => ?_)
  obtain ⟨lo, hi, rfl, q⟩ := h
  refine ⟨_, (pss_cons (ps_if (pt_cmpR op_eq (pv 0) (pv 1) (nomark _)) (pss_one (ps_ret (pe_tup (pa_cons pe_str (pa_cons (pe_tup (pa_cons (pv 0) pa_nil)) pa_nil))))) pss_nil)
      (pss_one (ps_ret (pe_ifExp (PW.pt (pw_and (pt_cmpR op_eq (pv 0) pe_int (nomark _)) (pw_and1 (pt_cmpR op_eq (pv 1) (pe_gv (by rfl) g_MASK) (nomark _))))) pe_non (pe_tup (pa_cons pe_str (pa_cons (pv 0) (pa_cons (pv 1) pa_nil)))))))), ?_⟩
  walk_at "ws"
  refine w_dec (fun e => ?_) (fun e => ?_)
  · walk_at "ws"
    refine w_kTup (by show 1 ≤ sizeLine; decide) fun p H1 np s1 hp => ?_
    walk_at "ws"
    refine w_kTup (by show 2 ≤ sizeLine; decide) fun p2 H2 np2 s2 hp2 => ?_
    refine q _ _ (s1.trans s2) ?_
    unfold spanF
    rw [if_pos e]
    exact ⟨p2, p, rfl, .of hp2, .of (s2 _ _ hp)⟩
  · have fin : ¬ (lo = 0 ∧ hi = 4294967295) → ∀ p H', Same H H' → H' p = some (.tup [.str "range", .int lo, .int hi]) → Q (.ref p) H' := fun h p H' s1 hp => by
      refine q _ _ s1 ?_
      unfold spanF
      rw [if_neg e, if_neg h]
      exact ⟨p, rfl, .of hp⟩
    walk_at "ws"
    refine w_dec (fun e1 => ?_) (fun e1 => ?_)
    · walk_at "ws"
      refine w_dec (fun e2 => ?_) (fun e2 => ?_)
      · walk_at "ws"
        refine q _ _ (fun _ _ e => e) ?_
        unfold spanF
        rw [if_neg e, if_pos ⟨e1, e2⟩]
        exact rfl
      · walk_at "ws"
        exact w_kTup (by show 3 ≤ sizeLine; decide) fun p H1 np s1 hp => fin (fun z => e2 z.2) p H1 s1 hp
    · walk_at "ws"
      exact w_kTup (by show 3 ≤ sizeLine; decide) fun p H1 np s1 hp => fin (fun z => e1 z.1) p H1 s1 hp
end
end K21

open PySem.W
namespace K21
local macro_rules | `(tactic| walk_at "w1") => `(tactic| first
  | ((with_reducible refine' w_ixTs ?hh ?ha ?_); (case hh => assumption); (case ha => exact rfl))
  | (with_reducible refine w_par ?_)
  | (with_reducible refine w_par3 ?_)
  | (with_reducible refine w_two ?_)
  | (with_reducible refine w_three ?_)
  | (with_reducible refine w_isNN ?_)
  | (with_reducible refine w_isNR ?_)
  | (with_reducible refine w_notNN ?_)
  | (with_reducible refine w_notNR ?_))
theorem sc_fact_of_words : FnScope ["words"] ["words"] (defScope s_fact_of_words) := ⟨rfl, rfl, rfl, by decide +kernel, rfl, by decide +kernel, by decide +kernel⟩
def Fa.within (F : Fa) : Fa → Bool
  | .all => true
  | .row bs => match F with
    | .row ws => ws.all (Fa.alw (.row bs))
    | _ => decide (((bs.filter fun x => decide (F.lo ≤ x) && decide (x ≤ F.hi)).length : Int) = F.hi - F.lo + 1)
  | .rng l h => match F with
    | .row ws => ws.all (Fa.alw (.rng l h))
    | _ => decide (l ≤ F.lo) && decide (F.hi ≤ h)
def Fa.meet (F G : Fa) : Fa := match F, G with
  | .row ws, G => .row (ws.filter G.alw)
  | F, .row bs => .row (bs.filter F.alw)
  | F, G => if max F.lo G.lo > min F.hi G.hi then .row [] else spanF (max F.lo G.lo) (min F.hi G.hi)
def factOf (ms : List Int) : Fa := if ms.length ≤ 16 then .row ms else spanF (ms.headD 0) (ms.getLastD 0)
/-- what join gives -/
def JoinR (F G R : Fa) : Prop :=
  if F = .row [] ∨ G = .row [] then R = (if G = .row [] then F else G)
  else match F, G with
    | .row ws, .row bs => ∃ ms : List Int, ms.Pairwise (· < ·) ∧ (∀ k, k ∈ ms ↔ k ∈ ws ++ bs) ∧ R = factOf ms
    | F, G => R = spanF (min F.lo G.lo) (max F.hi G.hi)
def faD : Fa → PyData
  | .all => .none
  | .row ws => .tuple [.str "words", rowD ws]
  | .rng lo hi => .tuple [.str "range", .int lo, .int hi]
theorem FaAt.dp {K : PySem.W.Frag} {H : Hp} {v : V} {F : Fa} (h : FaAt K H v F) : Dp K H v (faD F) := by
  cases F with
  | all => obtain rfl : v = .non := h; exact .non
  | row ws => obtain ⟨a, b, rfl, h1, h2⟩ := h; exact .tup h1 (.cons (.str _) (.cons (dpRow h2) .nil))
  | rng lo hi => obtain ⟨a, rfl, h1⟩ := h; exact .tup h1 (.cons (.str _) (.cons (.int _) (.cons (.int _) .nil)))
theorem ok_words : PyData.strOk "words" = true := by decide +kernel
theorem ok_range : PyData.strOk "range" = true := by decide +kernel
theorem fa_shaped (F : Fa) : SeqAt.shaped (faD F) = true := by
  cases F with
  | all => rfl
  | row ws =>
    have l := lay_ints ws
    simp [SeqAt.shaped, faD, rowD, PyData.canLay0, PyData.canLayAll0, PyData.depth, PyData.depthAll, l.1, l.2, ok_words]
  | rng lo hi => simp [SeqAt.shaped, faD, PyData.canLay0, PyData.canLayAll0, PyData.depth, PyData.depthAll, ok_range]
theorem ne_wr : (("words" : Str) == ("range" : Str)) = false := by decide
theorem ne_rw : (("range" : Str) == ("words" : Str)) = false := by decide
theorem eqvFa (F G : Fa) : PyData.eqv (faD F) (faD G) = decide (F = G) := by
  cases F with
  | all => cases G <;> simp [faD, PyData.eqv]
  | row ws =>
    cases G with
    | all => simp [faD, PyData.eqv]
    | row bs =>
      simp only [faD, rowD, PyData.eqv, PyData.eqvAll, eqvInts, beq_self_eq_true, Bool.true_and, Bool.and_true, Fa.row.injEq]
    | rng l h => simp only [faD, rowD, PyData.eqv, PyData.eqvAll, ne_wr, Bool.false_and]; simp
  | rng lo hi =>
    cases G with
    | all => simp [faD, PyData.eqv]
    | row bs => simp only [faD, rowD, PyData.eqv, PyData.eqvAll, ne_rw, Bool.false_and]; simp
    | rng l h =>
      simp only [faD, PyData.eqv, PyData.eqvAll, beq_self_eq_true, Bool.true_and, Bool.and_true, Fa.rng.injEq, Bool.decide_and]
      rfl
theorem nodup_len : ∀ (l D : List Int), l.Pairwise (· ≠ ·) → (∀ x ∈ l, x ∈ D) → l.length ≤ D.length
  | [], D, _, _ => Nat.zero_le _
  | x :: l, D, p, h => by
    rw [List.pairwise_cons] at p
    have hx := h x (by simp)
    have e := List.length_erase_of_mem hx
    have := nodup_len l (D.erase x) p.2 fun y hy => (List.mem_erase_of_ne (fun z => p.1 y hy z.symm)).mpr (h y (by simp [hy]))
    have hD := List.length_pos_of_mem hx
    rw [List.length_cons]
    omega
def spWithin (K : PySem.W.Frag) : Sp := fun vs H Q _ => ∃ v u F G, vs = [v, u] ∧ FaAt K H v F ∧ FaAt K H u G ∧ F ≠ .row [] ∧ (∀ ws, F = .row ws → ws.length ≤ 1000) ∧ (∀ ws, G = .row ws → ws.length ≤ 1000) ∧ ∀ H', Same H H' → Q (.bl (F.within G)) H'
def spMeet (K : PySem.W.Frag) : Sp := fun vs H Q _ => ∃ v u F G, vs = [v, u] ∧ FaAt K H v F ∧ FaAt K H u G ∧ (∀ ws, F = .row ws → ws.length ≤ 1000) ∧ (∀ ws, G = .row ws → ws.length ≤ 1000) ∧ ∀ x H', Same H H' → FaAt K H' x (F.meet G) → Q x H'
def spFactOf (K : PySem.W.Frag) : Sp := fun vs H Q _ => ∃ l ms, vs = [.ref l] ∧ H l = some (.lst (ms.map V.int)) ∧ ms ≠ [] ∧ ms.length ≤ 1000 ∧ ∀ x H', Same H H' → FaAt K H' x (factOf ms) → Q x H'
def spJoin (K : PySem.W.Frag) : Sp := fun vs H Q _ => ∃ v u F G, vs = [v, u] ∧ FaAt K H v F ∧ FaAt K H u G ∧ (∀ ws, F = .row ws → ws.length ≤ 16) ∧ (∀ ws, G = .row ws → ws.length ≤ 16) ∧ ∀ x R H', JoinR F G R → Same H H' → FaAt K H' x R → Q x H'
section
variable {P : Program} {w : World} {K : PySem.W.Frag} {mg : Str → Option Value} {base : Heap}
theorem ok_fact_of_words (b_len : mg "len" = none) (b_tuple : mg "tuple" = none) (g_MOST_WORDS : GV mg "MOST_WORDS" (.int 16)) (c_span : Cd P w K mg base 1 "span" (spSpan K)) (Z : St1 K mg "_fact_of_words" s_fact_of_words ["words"]) : Cd P w K mg base 2 "_fact_of_words" (spFactOf K) := by
  refine Z.cd sc_fact_of_words (fun vs H Q E h => by obtain ⟨l, ms, rfl, _⟩ := h; rfl) (fun f cdv A outer s H vs Q E hr h => ?_)
  obtain ⟨l, ms, rfl, hl, hne, hz, q⟩ := h
  refine ⟨_, (pss_one (ps_ret (pe_ifExp (pt_cmpR op_le (pe_callB call_lenQ (by rfl) b_len PySem.boot_len (pa_cons (pv 0) pa_nil)) (pe_gv (by rfl) g_MOST_WORDS) (nomark _)) (pe_tup (pa_cons pe_str (pa_cons (pe_callTy call_tupQ (by rfl) b_tuple (by decide +kernel) (pa_cons (pv 0) pa_nil)) pa_nil))) (pe_cd c_span hr (by first | decide | omega) (by rfl) (pa_cons (pe_ix ix_list (pv 0) pe_int (fun _ _ => rfl)) (pa_cons (pe_ix ix_list (pv 0) (pe_un un_neg pe_int) (fun _ _ => rfl)) pa_nil)))))), ?_⟩
  walk_at "ws"
  rw [List.length_map]
  refine w_dec (fun e => ?_) (fun e => ?_)
  · walk_at "ws"
    refine w_tupL (.of hl) fun p H1 np s1 hp => ?_
    walk_at "ws"
    refine w_kTup (by show 2 ≤ sizeLine; decide) fun p2 H2 np2 s2 hp2 => ?_
    refine q _ _ (s1.trans s2) ?_
    unfold factOf
    rw [if_pos (by omega)]
    exact ⟨p2, p, rfl, .of hp2, .of (s2 _ _ hp)⟩
  · walk_at "ws"
    refine w_ixL hl (at_head hne) ?_
    walk_at "ws"
    refine w_ixL hl (at_last hne) ?_
    walk_at "ws"
    refine ⟨_, _, rfl, fun x H' s1 hx => q _ _ s1 ?_⟩
    unfold factOf
    rw [if_neg (by omega)]
    exact hx
end
end K21

open PySem.W
namespace K21
local macro_rules | `(tactic| walk_at "w1") => `(tactic| first
  | ((with_reducible refine' w_ixTs ?hh ?ha ?_); (case hh => assumption); (case ha => exact rfl))
  | (with_reducible refine w_par ?_)
  | (with_reducible refine w_par3 ?_)
  | (with_reducible refine w_two ?_)
  | (with_reducible refine w_three ?_)
  | (with_reducible refine w_isNN ?_)
  | (with_reducible refine w_isNR ?_)
  | (with_reducible refine w_notNN ?_)
  | (with_reducible refine w_notNR ?_))
theorem sc_law_word : FnScope ["draw", "k"] ["draw"] (defScope s_law_word) := ⟨rfl, rfl, rfl, by decide +kernel, rfl, by decide +kernel, by decide +kernel⟩
theorem sc_law_fact : FnScope ["draw", "k", "words", "lo", "first", "row", "j"] ["draw"] (defScope s_law_fact) := ⟨rfl, rfl, rfl, by decide +kernel, rfl, by decide +kernel, by decide +kernel⟩
theorem sc_law_bounds : FnScope ["fact"] ["fact"] (defScope s_law_bounds) := ⟨rfl, rfl, rfl, by decide +kernel, rfl, by decide +kernel, by decide +kernel⟩
theorem sc_law_allows : FnScope ["fact", "w"] ["fact", "w"] (defScope s_law_allows) := ⟨rfl, rfl, rfl, by decide +kernel, rfl, by decide +kernel, by decide +kernel⟩
theorem sc_law_of : FnScope ["lo", "hi"] ["lo", "hi"] (defScope s_law_of) := ⟨rfl, rfl, rfl, by decide +kernel, rfl, by decide +kernel, by decide +kernel⟩
theorem sc_law_row : FnScope ["words", "row"] ["words"] (defScope s_law_row) := ⟨rfl, rfl, rfl, by decide +kernel, rfl, by decide +kernel, by decide +kernel⟩
theorem sc_law_samples : FnScope ["draw", "fact", "lo", "hi"] ["draw", "fact"] (defScope s_law_samples) := ⟨rfl, rfl, rfl, by decide +kernel, rfl, by decide +kernel, by decide +kernel⟩
theorem ints_shapedL (ns : List Int) : SeqAt.shaped (.list (ns.map .int)) = true := by
  have l := lay_ints ns
  simp [SeqAt.shaped, PyData.canLay0, PyData.depth, l.1, l.2]
def W32 (x : Int) : Prop := 0 ≤ x ∧ x < 4294967296
theorem and32 (x : Int) : W32 (Builtin.bitAnd x 4294967295) := by
  rw [show (4294967295 : Int) = 2 ^ 32 - 1 from rfl, PySem.W.kbt_mask x 32]
  exact ⟨Int.emod_nonneg _ (by decide), Int.emod_lt_of_pos _ (by decide)⟩
def Fa.Good : Fa → Prop
  | .all => True
  | .row ws => ws ≠ [] ∧ ws.Pairwise (· < ·) ∧ (∀ x ∈ ws, W32 x) ∧ ws.length ≤ 16
  | .rng lo hi => 0 ≤ lo ∧ lo < hi ∧ hi < 4294967296
def spWord : Sp := fun vs H Q _ => ∃ (d cc : Addr), vs = [.ref d] ∧ DrawC H d cc ∧ ∀ (r : Int) H', W32 r → DrawC H' d cc → But d H H' → Q (.int r) H'
def spBoundsG (K : PySem.W.Frag) : Sp := fun vs H Q _ => ∃ v F, vs = [v] ∧ FaAt K H v F ∧ F.Good ∧ ∀ p H', H p = none → Same H H' → H' p = some (.tup [.int F.lo, .int F.hi]) → Q (.ref p) H'
def spRowL (K : PySem.W.Frag) : Sp := fun vs H Q _ => ∃ l ns, vs = [.ref l] ∧ H l = some (.lst (ns.map V.int)) ∧ ns ≠ [] ∧ ns.length ≤ 1000 ∧ ∀ ms x H', ms.Pairwise (· < ·) → (∀ k, k ∈ ms ↔ k ∈ ns) → Same H H' → FaAt K H' x (factOf ms) → Q x H'
def spSamp (K : PySem.W.Frag) : Sp := fun vs H Q _ => ∃ (d cc : Addr) (v : V) (F : Fa), vs = [.ref d, v] ∧ DrawC H d cc ∧ FaAt K H v F ∧ F.Good ∧ ∀ (l : Addr) (ns : List Int) H', (∀ x ∈ ns, W32 x ∧ F.alw x = true) → ns.length ≤ 16 → H' l = some (.lst (ns.map V.int)) → H l = none → DrawC H' d cc → But d H H' → Q (.ref l) H'
theorem fold_min : ∀ {x : Int} {r : List Int}, (x :: r).Pairwise (· < ·) → r.foldl min x = x
  | x, [], _ => rfl
  | x, y :: r, h => by
    rw [List.pairwise_cons] at h
    have hy := h.1 y (by simp)
    rw [List.foldl_cons, Int.min_eq_left (by omega)]
    refine fold_min ?_
    rw [List.pairwise_cons]
    exact ⟨fun z hz => h.1 z (by simp [hz]), (List.pairwise_cons.mp h.2).2⟩
theorem fold_max : ∀ {x : Int} {r : List Int}, (x :: r).Pairwise (· < ·) → r.foldl max x = (x :: r).getLastD 0
  | x, [], _ => rfl
  | x, y :: r, h => by
    rw [List.pairwise_cons] at h
    have hy := h.1 y (by simp)
    rw [List.foldl_cons, Int.max_eq_right (by omega), fold_max h.2]
    rfl
theorem free_but {d cc l : Addr} {H H1 : Hp} (b : But d H H1) (n : H1 l = none) (hd : DrawC H1 d cc) : H l = none := by
  cases e : H l with
  | none => rfl
  | some o =>
    by_cases z : l = d
    · subst z
      obtain ⟨cs, i, cur, seed, h, _⟩ := hd
      rw [n] at h; cases h
    · have := b _ _ z e; rw [n] at this; cases this
def spFact (K : PySem.W.Frag) : Sp := fun vs H Q _ => ∃ (d cc : Addr), vs = [.ref d] ∧ DrawC H d cc ∧ ∀ (v : V) (F : Fa) H', F.Good → FaAt K H' v F → DrawC H' d cc → But d H H' → Q v H'
theorem w_slL {K : PySem.W.Frag} {a : Addr} {xs : List V} {lo hi : Option Int} {H : Hp} {Q : VK} (h : SqL K H a xs) (q : ∀ p H', H p = none → Same H H' → H' p = some (.lst (cutV xs lo hi)) → Q (.ref p) H') : rSlL K (.ref a) lo hi H Q :=
  ⟨a, xs, rfl, h, fun p np => q p _ np (Same.new np) upd_same⟩
theorem cut_to (xs : List V) (n : Nat) : cutV xs none (some (n : Nat)) = xs.take n := by
  unfold cutV
  rw [HT.sIx_none, HT.sIx_nat]
  rcases Nat.le_total n xs.length with h | h
  · rw [Nat.min_eq_left h]; simp
  · rw [Nat.min_eq_right h]; simp [List.take_of_length_le h]
section
variable {P : Program} {w : World} {K : PySem.W.Frag} {mg : Str → Option Value} {base : Heap}
theorem ok_law_word (c_law_take : Cd P w K mg base 1 "_law_take" spTake) (Z : St1 K mg "_law_word" s_law_word ["draw"]) : Cd P w K mg base 2 "_law_word" spWord := by
  refine Z.cd sc_law_word (fun vs H Q E h => by obtain ⟨d, cc, rfl, _⟩ := h; rfl) (fun f cdv A outer s H vs Q E hr h => ?_)
  obtain ⟨d, cc, rfl, hd, q⟩ := h
  refine ⟨_, (pss_cons (ps_set (i := 1) sc_law_word.nd rfl (.inl rfl) (pe_cd c_law_take hr (by first | decide | omega) (by rfl) (pa_cons (pv 0) (pa_cons pe_int pa_nil))))
      (pss_cons (ps_if (pt_cmpR op_lt (pv 1) pe_int (nomark _)) (pss_one (ps_ret (pe_cd c_law_take hr (by first | decide | omega) (by rfl) (pa_cons (pv 0) (pa_cons pe_int pa_nil))))) pss_nil)
      (pss_cons (ps_if (pt_cmpR op_eq (pv 1) pe_int (nomark _)) (pss_one (ps_ret (pe_op op_sub pe_int (pe_cd c_law_take hr (by first | decide | omega) (by rfl) (pa_cons (pv 0) (pa_cons pe_int pa_nil)))))) pss_nil)
      (pss_cons (ps_if (pt_cmpR op_eq (pv 1) pe_int (nomark _)) (pss_one (ps_ret (pe_op op_and (pe_op op_sub (pe_op op_add (pe_op op_shl pe_int (pe_cd c_law_take hr (by first | decide | omega) (by rfl) (pa_cons (pv 0) (pa_cons pe_int pa_nil)))) (pe_cd c_law_take hr (by first | decide | omega) (by rfl) (pa_cons (pv 0) (pa_cons pe_int pa_nil)))) pe_int) pe_int))) pss_nil)
      (pss_one (ps_ret (pe_op op_and (pe_op op_add (pe_op op_mul (pe_cd c_law_take hr (by first | decide | omega) (by rfl) (pa_cons (pv 0) (pa_cons pe_int pa_nil))) pe_int) (pe_cd c_law_take hr (by first | decide | omega) (by rfl) (pa_cons (pv 0) (pa_cons pe_int pa_nil)))) pe_int))))))), ?_⟩
  walk_at "ws"
  refine w_take hd (by decide) (by decide) fun k H1 k0 k1 hd1 b1 => ?_
  walk_at "ws"
  refine w_dec (fun e1 => ?_) (fun e1 => ?_)
  · walk_at "ws"
    exact w_take hd1 (by decide) (by decide) fun x H2 x0 x1 hd2 b2 => q _ _ ⟨x0, by omega⟩ hd2 (b1.trans b2)
  · walk_at "ws"
    refine w_dec (fun e2 => ?_) (fun e2 => ?_)
    · walk_at "ws"
      refine w_take hd1 (by decide) (by decide) fun x H2 x0 x1 hd2 b2 => ?_
      walk_at "ws"
      exact q _ _ ⟨by omega, by omega⟩ hd2 (b1.trans b2)
    · walk_at "ws"
      refine w_dec (fun e3 => ?_) (fun e3 => ?_)
      · walk_at "ws"
        refine w_take hd1 (by decide) (by decide) fun x H2 x0 x1 hd2 b2 => ?_
        walk_at "ws"
        refine w_take hd2 (by decide) (by decide) fun y H3 y0 y1 hd3 b3 => ?_
        walk_at "ws"
        exact q _ _ (and32 _) hd3 (b1.trans (b2.trans b3))
      · walk_at "ws"
        refine w_take hd1 (by decide) (by decide) fun x H2 x0 x1 hd2 b2 => ?_
        walk_at "ws"
        refine w_take hd2 (by decide) (by decide) fun y H3 y0 y1 hd3 b3 => ?_
        walk_at "ws"
        exact q _ _ (and32 _) hd3 (b1.trans (b2.trans b3))
theorem w_wordD {d cc : Addr} {H : Hp} {Q : VK} {E : XK} (hd : DrawC H d cc) (q : ∀ (r : Int) H', W32 r → DrawC H' d cc → But d H H' → Q (.int r) H') : spWord [.ref d] H Q E := ⟨d, cc, rfl, hd, q⟩
theorem ok_law_fact (b_set : mg "set" = none) (b_range : mg "range" = none) (b_sorted : mg "sorted" = none) (b_tuple : mg "tuple" = none) (c_law_take : Cd P w K mg base 1 "_law_take" spTake) (c_law_word : Cd P w K mg base 2 "_law_word" spWord) (Z : St1 K mg "_law_fact" s_law_fact ["draw"]) : Cd P w K mg base 3 "_law_fact" (spFact K) := by
  refine Z.cd sc_law_fact (fun vs H Q E h => by obtain ⟨d, cc, rfl, _⟩ := h; rfl) (fun f cdv A outer s H vs Q E hr h => ?_)
  obtain ⟨d, cc, rfl, hd, q⟩ := h
  refine ⟨_, (pss_cons (ps_set (i := 1) sc_law_fact.nd rfl (.inl rfl) (pe_cd c_law_take hr (by first | decide | omega) (by rfl) (pa_cons (pv 0) (pa_cons pe_int pa_nil))))
      (pss_cons (ps_if (pt_cmpR op_eq (pv 1) pe_int (nomark _)) (pss_one (ps_ret pe_non)) pss_nil)
      (Evl.pss_cut (ps_if (pt_cmpR op_lt (pv 1) pe_int (nomark _)) (pss_cons (ps_set (i := 2) sc_law_fact.nd rfl (.inl rfl) (pe_callB cr_sorted (by rfl) b_sorted (by decide +kernel) (pa_cons (pe_lst (pa_cons (pe_cd c_law_word hr (by first | decide | omega) (by rfl) (pa_cons (pv 0) pa_nil)) (pa_cons (pe_cd c_law_word hr (by first | decide | omega) (by rfl) (pa_cons (pv 0) pa_nil)) pa_nil))) pa_nil)))
      (pss_one (ps_if (PW.pt (pw_and (pt_cmpR op_lt (pe_ix ix_list (pv 2) pe_int (fun _ _ => rfl)) (pe_ix ix_list (pv 2) pe_int (fun _ _ => rfl)) (nomark _)) (pw_and1 (pt_cmpR (op_neD hr.units) (pv 2) (pe_lst (pa_cons pe_int (pa_cons pe_int pa_nil))) (nomark _))))) (pss_one (ps_ret (pe_tup (pa_cons pe_str (pa_cons (pe_ix ix_list (pv 2) pe_int (fun _ _ => rfl)) (pa_cons (pe_ix ix_list (pv 2) pe_int (fun _ _ => rfl)) pa_nil)))))) pss_nil))) pss_nil)
      (Evl.pss_cut (ps_if (pt_cmpR op_eq (pv 1) pe_int (nomark _)) (pss_cons (ps_set (i := 3) sc_law_fact.nd rfl (.inl rfl) (pe_cd c_law_take hr (by first | decide | omega) (by rfl) (pa_cons (pv 0) (pa_cons pe_int pa_nil))))
      (pss_one (ps_ret (pe_tup (pa_cons pe_str (pa_cons (pv 3) (pa_cons (pe_op op_add (pe_op op_add (pv 3) pe_int) (pe_cd c_law_take hr (by first | decide | omega) (by rfl) (pa_cons (pv 0) (pa_cons pe_int pa_nil)))) pa_nil))))))) pss_nil)
      (pss_cons (ps_set (i := 4) sc_law_fact.nd rfl (.inl rfl) (pe_cd c_law_word hr (by first | decide | omega) (by rfl) (pa_cons (pv 0) pa_nil)))
      (pss_cons (ps_set (i := 5) sc_law_fact.nd rfl (.inl rfl) (pe_lst (pa_cons (pv 4) pa_nil)))
      (pss_cons (ps_for PassesOwn.never rfl (pi_range1 (by rfl) b_range (pa_cons (pe_cd c_law_take hr (by first | decide | omega) (by rfl) (pa_cons (pv 0) (pa_cons (pe_ix ix_list (pe_lst (pa_cons pe_int (pa_cons pe_int (pa_cons pe_int pa_nil)))) (pe_cd c_law_take hr (by first | decide | omega) (by rfl) (pa_cons (pv 0) (pa_cons pe_int pa_nil))) (fun _ _ => rfl)) pa_nil))) pa_nil)) (pg_name (i := 6) sc_law_fact.nd rfl (.inl rfl))
      (pss_one (ps_expr (pe_bm PySem.F.plainAttrs_list PySem.F.slot_list_append PySem.F.type_list_append mt_append (pv 5) (pa_cons (pe_ix ix_list (pe_lst (pa_cons (pe_cd c_law_word hr (by first | decide | omega) (by rfl) (pa_cons (pv 0) pa_nil)) (pa_cons (pe_op op_and (pe_op op_add (pe_op op_add (pv 4) (pe_op op_mul pe_int (pv 6))) pe_int) pe_int) pa_nil))) (pe_cd c_law_take hr (by first | decide | omega) (by rfl) (pa_cons (pv 0) (pa_cons pe_int pa_nil))) (fun _ _ => rfl)) pa_nil)))))
      (pss_one (ps_ret (pe_tup (pa_cons pe_str (pa_cons (pe_callTy call_tupQ (by rfl) b_tuple (by decide +kernel) (pa_cons (pe_slice sl_list (pe_callB (cr_sortedSet rfl) (by rfl) b_sorted (by decide +kernel) (pa_cons (pe_callTy (cr_setS rfl) (by rfl) b_set (by decide +kernel) (pa_cons (pv 5) pa_nil)) pa_nil)) po_none (po_some pe_int)) pa_nil)) pa_nil)))))))))))), ?_⟩
  walk_at "ws"
  refine w_take hd (by decide) (by decide) fun k H1 k0 k1 hd1 b1 => ?_
  walk_at "ws"
  refine w_dec (fun e1 => ?_) (fun e1 => ?_)
  · walk_at "ws"
    exact q _ .all _ trivial rfl hd1 b1
  have hdl : ∀ {H}, DrawC H d cc → ∃ xs, H d = some (.lst xs) := fun h => by obtain ⟨cs, i, cur, seed, hd, _⟩ := h; exact ⟨_, hd⟩
  walk_at "ws"
  refine Evl.q_cut (M := fun σ' H' => DrawC H' d cc ∧ But d H H' ∧ ∃ x : Option V, σ' = [some (.ref d), some (.int k), x, none, none, none, none]) ?_ ?_
  · walk_at "ws"
    refine w_dec (fun e2 => ?_) (fun e2 => ?_)
    · walk_at "ws"
      refine w_wordD hd1 fun x H2 hx hd2 b2 => ?_
      walk_at "ws"
      refine w_wordD hd2 fun y H3 hy hd3 b3 => ?_
      walk_at "ws"
      refine w_kLst (by show 2 ≤ sizeLine; decide) fun l H4 nl s4 hl => ?_
      walk_at "ws"
      refine ⟨l, [x, y], rfl, .of hl, by show 2 < 64; decide, fun zs p hp1 hp2 np => ?_⟩
      have s5 := Same.new (o := .lst (zs.map V.int)) np
      have hp : upd H4 p (.lst (zs.map V.int)) p = some (.lst (zs.map V.int)) := upd_same
      have hd5 := (hd3.same s4).same s5
      have zl : zs.length = 2 := hp1.length_eq
      obtain ⟨z1, z2, rfl⟩ : ∃ z1 z2, zs = [z1, z2] := by
        match zs, zl with
        | [a, b], _ => exact ⟨a, b, rfl⟩
      have hz : ∀ z ∈ [z1, z2], W32 z := fun z h => by
        have := hp1.subset h
        simp only [List.mem_cons, List.not_mem_nil, or_false] at this
        rcases this with rfl | rfl <;> assumption
      have hz1 := hz z1 (by simp)
      have hz2 := hz z2 (by simp)
      generalize hH5 : upd H4 p (.lst ([z1, z2].map V.int)) = H5 at hp s5 hd5 ⊢
      have b5 : But d H H5 := b1.trans (b2.trans (b3.trans (fun a o n e => s5 _ _ (s4 _ _ e))))
      have hp' : H5 p = some (.lst [.int z1, .int z2]) := hp
      walk_at "ws"
      · refine w_dec (fun e3 => ?_) (fun e3 => ?_)
        · walk_at "ws"
          refine w_kLst (by show 2 ≤ sizeLine; decide) fun l6 H6 nl6 s6 hl6 => ?_
          have hp6 := s6 _ _ hp'
          refine w_neE (d := .list ([z1, z2].map .int)) (e := .list ([0, 4294967295].map .int)) (.lst (.of hp6) (dpInts [z1, z2])) (.lst (.of hl6) (dpInts [0, 4294967295])) (ints_shapedL _) (ints_shapedL _) (eqvInts [z1, z2] [0, 4294967295]) ?_
          walk_at "ws"
          have hd6 := hd5.same s6
          have b6 : But d H H6 := b5.trans (.of s6)
          refine w_ndec (fun e4 => ?_) (fun e4 => ?_)
          · walk_at "ws"
            refine w_kTup (by show 3 ≤ sizeLine; decide) fun t H7 nt s7 ht => ?_
            exact q _ (.rng z1 z2) _ ⟨hz1.1, e3, hz2.2⟩ ⟨t, rfl, .of ht⟩ (hd6.same s7) (b6.trans (.of s7))
          · walk_at "ws"
            exact ⟨hd6, b6, _, rfl⟩
        · walk_at "ws"
          exact ⟨hd5, b5, _, rfl⟩
    · walk_at "ws"
      exact ⟨hd1, b1, _, rfl⟩
  rintro σ2 H2 ⟨hd2, b2, x2, rfl⟩
  refine Evl.q_cut (M := fun σ' H' => H' = H2 ∧ σ' = [some (.ref d), some (.int k), x2, none, none, none, none]) ?_ ?_
  · walk_at "ws"
    refine w_dec (fun e2 => ?_) (fun e2 => ?_)
    · walk_at "ws"
      refine w_take hd2 (by decide) (by decide) fun x H3 x0 x1 hd3 b3 => ?_
      walk_at "ws"
      refine w_take hd3 (by decide) (by decide) fun y H4 y0 y1 hd4 b4 => ?_
      walk_at "ws"
      refine w_kTup (by show 3 ≤ sizeLine; decide) fun t H7 nt s7 ht => ?_
      exact q _ (.rng x (x + 1 + y)) _ ⟨x0, by omega, by omega⟩ ⟨t, rfl, .of ht⟩ (hd4.same s7) (b2.trans (b3.trans (b4.trans (.of s7))))
    · walk_at "ws"
      exact ⟨rfl, rfl⟩
  rintro σ3 H3 ⟨rfl, rfl⟩
  walk_at "ws"
  refine w_wordD hd2 fun x H4 hx hd4 b4 => ?_
  walk_at "ws"
  refine w_kLst (by show 1 ≤ sizeLine; decide) fun R H5 nR s5 hR => ?_
  have hd5 := hd4.same s5
  obtain ⟨xs5, hdl5⟩ := hdl hd4
  have nRd : R ≠ d := (ne_of_none hdl5 nR).symm
  have nRc : R ≠ cc := hd4.nec nR
  walk_at "ws"
  refine w_kLst (by show 3 ≤ sizeLine; decide) fun l6 H6 nl6 s6 hl6 => ?_
  have hd6 := hd5.same s6
  walk_at "ws"
  refine w_take hd6 (by decide) (by decide) fun y H7 y0 y1 hd7 b7 => ?_
  obtain ⟨xs6, hdl6⟩ := hdl hd5
  have nld : l6 ≠ d := (ne_of_none hdl6 nl6).symm
  obtain ⟨n, hn1, hn2, hat⟩ : ∃ n : Int, 1 ≤ n ∧ n ≤ 16 ∧ atI [V.int 3, V.int 3, V.int 16] y = some (.int n) := by
    have : y = 0 ∨ y = 1 ∨ y = 2 := by omega
    rcases this with rfl | rfl | rfl
    · exact ⟨3, by decide, by decide, rfl⟩
    · exact ⟨3, by decide, by decide, rfl⟩
    · exact ⟨16, by decide, by decide, rfl⟩
  refine w_ixL (b7 _ _ nld hl6) hat ?_
  walk_at "ws"
  refine w_take hd7 (by omega) (by omega) fun m H8 m0 m1 hd8 b8 => ?_
  walk_at "ws"
  have hR8 : H8 R = some (.lst [.int x]) := b8 _ _ nRd (b7 _ _ nRd (s6 _ _ hR))
  have b08 : But d H H8 := b2.trans (b4.trans (fun a o n e => b8 _ _ n (b7 _ _ n (s6 _ _ (s5 _ _ e)))))
  obtain ⟨mm, rfl⟩ := Int.eq_ofNat_of_zero_le m0
  refine w_forR mm (fun i σ' H' => DrawC H' d cc ∧ But d H H' ∧ ∃ rs : List Int, rs.length = i + 1 ∧ (∀ r ∈ rs, W32 r) ∧ H' R = some (.lst (rs.map V.int)) ∧ ∃ y : Option V, σ' = [some (.ref d), some (.int k), x2, none, some (.int x), some (.ref R), y]) rfl (by omega) ⟨hd8, b08, [x], rfl, (fun r hr => by rw [List.mem_singleton.mp hr]; exact hx), hR8, _, rfl⟩ (fun i σ' H9 hi h => ?_) (fun σ' H9 h => ?_)
  · obtain ⟨hd9, b9, rs, lrs, hrs, hR9, y9, rfl⟩ := h
    walk_at "ws"
    refine w_wordD hd9 fun z H10 hz hd10 b10 => ?_
    walk_at "ws"
    refine w_kLst (by show 2 ≤ sizeLine; decide) fun l11 H11 nl11 s11 hl11 => ?_
    have hd11 := hd10.same s11
    obtain ⟨xs10, hdl10⟩ := hdl hd10
    have nld11 : l11 ≠ d := (ne_of_none hdl10 nl11).symm
    walk_at "ws"
    refine w_take hd11 (by decide) (by decide) fun u H12 u0 u1 hd12 b12 => ?_
    obtain ⟨o, ho, hat⟩ : ∃ o : Int, W32 o ∧ atI [V.int z, V.int (Builtin.bitAnd (x + 4 * (i : Int) + 4) 4294967295)] u = some (.int o) := by
      have : u = 0 ∨ u = 1 := by omega
      rcases this with rfl | rfl
      · exact ⟨z, hz, rfl⟩
      · exact ⟨_, and32 _, rfl⟩
    refine w_ixL (b12 _ _ nld11 hl11) hat ?_
    walk_at "ws"
    have hR12 : H12 R = some (.lst (rs.map V.int)) := b12 _ _ nRd (s11 _ _ (b10 _ _ nRd hR9))
    refine w_append hR12 (by rw [List.length_map]; exact small1000 (by omega)) fun H13 hR13 b13 => ?_
    walk_at "ws"
    refine ⟨hd12.keep (fun o => b13 _ o nRd.symm) (fun o => b13 _ o nRc.symm), fun a o n e => ?_, rs ++ [o], by simp [lrs], fun r hr => ?_, by rw [hR13, List.map_append]; rfl, _, rfl⟩
    · have hb := b12 _ _ n (s11 _ _ (b10 _ _ n (b9 a o n e)))
      by_cases z : a = R
      · exact absurd (show H R = some o from z ▸ e) (by
          intro e'
          have := s5 _ _ (b4 _ _ nRd (b2 _ _ nRd e'))
          have n2 : H4 R = some o := b4 _ _ nRd (b2 _ _ nRd e')
          rw [nR] at n2; cases n2)
      · exact b13 a o z hb
    · rcases List.mem_append.mp hr with hr | hr
      · exact hrs r hr
      · rw [List.mem_singleton.mp hr]; exact ho
  · obtain ⟨hd9, b9, rs, lrs, hrs, hR9, y9, rfl⟩ := h
    walk_at "ws"
    refine w_setS (.inl (.of hR9)) (by omega) fun D c H10 nD hc s10 hD => ?_
    walk_at "ws"
    refine w_sortedOf hD (by omega) fun ms p3 H11 asc hm np3 s11 hp3 => ?_
    walk_at "ws"
    refine w_slL (.of hp3) fun p4 H12 np4 s12 hp4 => ?_
    rw [show cutV (ms.map V.int) none (some (16 : Int)) = (ms.take 16).map V.int from by rw [List.map_take]; exact cut_to _ 16] at hp4
    walk_at "ws"
    refine w_tupL (.of hp4) fun p5 H13 np5 s13 hp5 => ?_
    walk_at "ws"
    refine w_kTup (by show 2 ≤ sizeLine; decide) fun p6 H14 np6 s14 hp6 => ?_
    have s914 := s10.trans (s11.trans (s12.trans (s13.trans s14)))
    refine q _ (.row (ms.take 16)) _ ⟨?_, asc.sublist (List.take_sublist _ _), fun r hr => ?_, ?_⟩ ⟨p6, p5, rfl, .of hp6, .of (s14 _ _ hp5)⟩ (hd9.same s914) (b9.trans (.of s914))
    · intro z
      have hms : ms = [] := by
        cases ms with
        | nil => rfl
        | cons a r => simp at z
      have : rs ≠ [] := by intro z; rw [z] at lrs; simp at lrs
      obtain ⟨r, hr⟩ := List.exists_mem_of_ne_nil rs this
      have := (hm r).mpr hr
      rw [hms] at this; cases this
    · exact hrs r ((hm r).mp (List.take_subset _ _ hr))
    · rw [List.length_take]; omega
theorem ok_law_bounds (b_min : mg "min" = none) (b_max : mg "max" = none) (Z : St1 K mg "_law_bounds" s_law_bounds ["fact"]) : Cd P w K mg base 1 "_law_bounds" (spBoundsG K) := by
  refine Z.cd sc_law_bounds (fun vs H Q E h => by obtain ⟨v, F, rfl, _⟩ := h; rfl) (fun f cdv A outer s H vs Q E hr h => ?_)
  obtain ⟨v, F, rfl, hF, hg, q⟩ := h
  refine ⟨_, (pss_cons (ps_if (pt_cmpR op_isNQ (pv 0) pe_non (nomark _)) (pss_one (ps_ret (pe_tup (pa_cons pe_int (pa_cons pe_int pa_nil))))) pss_nil)
      (pss_cons (ps_if (pt_cmpR op_eq (pe_ix ix_tup (pv 0) pe_int (fun _ _ => rfl)) pe_str (nomark _)) (pss_one (ps_ret (pe_tup (pa_cons (pe_callB (cr_minT rfl (hu70 hr)) (by rfl) b_min (by decide +kernel) (pa_cons (pe_ix ix_tup (pv 0) pe_int (fun _ _ => rfl)) pa_nil)) (pa_cons (pe_callB (cr_maxT rfl (hu70 hr)) (by rfl) b_max (by decide +kernel) (pa_cons (pe_ix ix_tup (pv 0) pe_int (fun _ _ => rfl)) pa_nil)) pa_nil))))) pss_nil)
      (pss_one (ps_ret (pe_tup (pa_cons (pe_ix ix_tup (pv 0) pe_int (fun _ _ => rfl)) (pa_cons (pe_ix ix_tup (pv 0) pe_int (fun _ _ => rfl)) pa_nil))))))), ?_⟩
  cases F with
  | all =>
    obtain rfl : v = .non := hF
    walk_at "wd"
    exact w_kTup (by show 2 ≤ sizeLine; decide) q
  | row ws =>
    obtain ⟨a, b, rfl, h1, h2⟩ := hF
    obtain ⟨hw, asc, _, _⟩ := hg
    cases ws with
    | nil => exact absurd rfl hw
    | cons x r =>
      walk_at "wd"
      refine ⟨b, x, r, rfl, h2, ?_⟩
      walk_at "wd"
      refine ⟨b, x, r, rfl, h2, ?_⟩
      walk_at "wd"
      rw [fold_min asc, fold_max asc]
      exact w_kTup (by show 2 ≤ sizeLine; decide) q
  | rng lo hi =>
    obtain ⟨a, rfl, h1⟩ := hF
    walk_at "wd"
    exact w_kTup (by show 2 ≤ sizeLine; decide) q
theorem ok_law_allows (Z : St1 K mg "_law_allows" s_law_allows ["fact", "w"]) : Cd P w K mg base 1 "_law_allows" (spAllows K) := by
  refine Z.cd sc_law_allows (fun vs H Q E h => by obtain ⟨v, F, x, rfl, _⟩ := h; rfl) (fun f cdv A outer s H vs Q E hr h => ?_)
  obtain ⟨v, F, x, rfl, hF, q⟩ := h
  refine ⟨_, (pss_cons (ps_if (pt_cmpR op_isNQ (pv 0) pe_non (nomark _)) (pss_one (ps_ret pe_bl)) pss_nil)
      (pss_cons (ps_if (pt_cmpR op_eq (pe_ix ix_tup (pv 0) pe_int (fun _ _ => rfl)) pe_str (nomark _)) (pss_one (ps_ret (pe_cmpR op_in_seq (pv 1) (pe_ix ix_tup (pv 0) pe_int (fun _ _ => rfl)) rfl))) pss_nil)
      (pss_one (ps_ret (pe_chain op_le op_le (pe_ix ix_tup (pv 0) pe_int (fun _ _ => rfl)) (pv 1) (pe_ix ix_tup (pv 0) pe_int (fun _ _ => rfl))))))), ?_⟩
  cases F with
  | all =>
    obtain rfl : v = .non := hF
    walk_at "wd"
    exact q
  | row ws =>
    obtain ⟨a, b, rfl, h1, h2⟩ := hF
    walk_at "wd"
    exact w_inTi h2 q
  | rng lo hi =>
    obtain ⟨a, rfl, h1⟩ := hF
    walk_at "wd"
    refine w_dec (fun e1 => ?_) (fun e1 => ?_)
    · walk_at "ws"
      have : Fa.alw (.rng lo hi) x = decide (x ≤ hi) := by simp [Fa.alw, e1]
      rw [this] at q
      exact q
    · walk_at "ws"
      have : Fa.alw (.rng lo hi) x = false := by simp [Fa.alw, e1]
      rw [this] at q
      exact q
theorem ok_law_of (Z : St1 K mg "_law_of" s_law_of ["lo", "hi"]) : Cd P w K mg base 1 "_law_of" (spSpan K) := by
  refine Z.cd sc_law_of (fun vs H Q E h => by obtain ⟨lo, hi, rfl, _⟩ := h; rfl) (fun f cdv A outer s H vs Q E hr h => ?_)
  obtain ⟨lo, hi, rfl, q⟩ := h
  refine ⟨_, (pss_cons (ps_if (pt_cmpR op_eq (pv 0) (pv 1) (nomark _)) (pss_one (ps_ret (pe_tup (pa_cons pe_str (pa_cons (pe_tup (pa_cons (pv 0) pa_nil)) pa_nil))))) pss_nil)
      (pss_cons (ps_if (PW.pt (pw_and (pt_cmpR op_eq (pv 0) pe_int (nomark _)) (pw_and1 (pt_cmpR op_eq (pv 1) pe_int (nomark _))))) (pss_one (ps_ret pe_non)) pss_nil)
      (pss_one (ps_ret (pe_tup (pa_cons pe_str (pa_cons (pv 0) (pa_cons (pv 1) pa_nil)))))))), ?_⟩
  walk_at "ws"
  refine w_dec (fun e => ?_) (fun e => ?_)
  · walk_at "ws"
    refine w_kTup (by show 1 ≤ sizeLine; decide) fun p H1 np s1 hp => ?_
    walk_at "ws"
    refine w_kTup (by show 2 ≤ sizeLine; decide) fun p2 H2 np2 s2 hp2 => ?_
    refine q _ _ (s1.trans s2) ?_
    unfold spanF
    rw [if_pos e]
    exact ⟨p2, p, rfl, .of hp2, .of (s2 _ _ hp)⟩
  · have fin : ¬ (lo = 0 ∧ hi = 4294967295) → ∀ p H', Same H H' → H' p = some (.tup [.str "range", .int lo, .int hi]) → Q (.ref p) H' := fun h p H' s1 hp => by
      refine q _ _ s1 ?_
      unfold spanF
      rw [if_neg e, if_neg h]
      exact ⟨p, rfl, .of hp⟩
    walk_at "ws"
    refine w_dec (fun e1 => ?_) (fun e1 => ?_)
    · walk_at "ws"
      refine w_dec (fun e2 => ?_) (fun e2 => ?_)
      · walk_at "ws"
        refine q _ _ (fun _ _ e => e) ?_
        unfold spanF
        rw [if_neg e, if_pos ⟨e1, e2⟩]
        exact rfl
      · walk_at "ws"
        exact w_kTup (by show 3 ≤ sizeLine; decide) fun p H1 np s1 hp => fin (fun z => e2 z.2) p H1 s1 hp
    · walk_at "ws"
      exact w_kTup (by show 3 ≤ sizeLine; decide) fun p H1 np s1 hp => fin (fun z => e1 z.1) p H1 s1 hp
theorem ok_law_row (b_set : mg "set" = none) (b_len : mg "len" = none) (b_sorted : mg "sorted" = none) (b_tuple : mg "tuple" = none) (c_law_of : Cd P w K mg base 1 "_law_of" (spSpan K)) (Z : St1 K mg "_law_row" s_law_row ["words"]) : Cd P w K mg base 2 "_law_row" (spRowL K) := by
  refine Z.cd sc_law_row (fun vs H Q E h => by obtain ⟨l, ms, rfl, _⟩ := h; rfl) (fun f cdv A outer s H vs Q E hr h => ?_)
  obtain ⟨l, ns, rfl, hl, hne, hz, q⟩ := h
  refine ⟨_, (pss_cons (ps_set (i := 1) sc_law_row.nd rfl (.inl rfl) (pe_callB (cr_sortedB rfl) (by rfl) b_sorted (by decide +kernel) (pa_cons (pe_callTy (cr_setS rfl) (by rfl) b_set (by decide +kernel) (pa_cons (pv 0) pa_nil)) pa_nil)))
      (pss_cons (ps_if (pt_cmpR op_le (pe_callB call_lenQ (by rfl) b_len PySem.boot_len (pa_cons (pv 1) pa_nil)) pe_int (nomark _)) (pss_one (ps_ret (pe_tup (pa_cons pe_str (pa_cons (pe_callTy call_tupQ (by rfl) b_tuple (by decide +kernel) (pa_cons (pv 1) pa_nil)) pa_nil))))) pss_nil)
      (pss_one (ps_ret (pe_cd c_law_of hr (by first | decide | omega) (by rfl) (pa_cons (pe_ix ix_list (pv 1) pe_int (fun _ _ => rfl)) (pa_cons (pe_ix ix_list (pv 1) (pe_op op_sub (pe_callB call_lenQ (by rfl) b_len PySem.boot_len (pa_cons (pv 1) pa_nil)) pe_int) (fun _ _ => rfl)) pa_nil))))))), ?_⟩
  walk_at "ws"
  refine w_setS (.inl (.of hl)) (by omega) fun D c H2 nD hc s2 hD => ?_
  walk_at "ws"
  refine w_sortedOfB hD (by omega) fun ms p3 H3 asc hm _ np3 s3 hp3 => ?_
  have hmn : ms ≠ [] := by
    obtain ⟨x, hx⟩ := List.exists_mem_of_ne_nil ns hne
    exact List.ne_nil_of_mem ((hm x).mpr hx)
  walk_at "ws"
  rw [List.length_map]
  refine w_dec (fun e => ?_) (fun e => ?_)
  · walk_at "ws"
    refine w_tupL (.of hp3) fun p H4 np s4 hp => ?_
    walk_at "ws"
    refine w_kTup (by show 2 ≤ sizeLine; decide) fun p2 H5 np2 s5 hp2 => ?_
    refine q _ _ _ asc hm (s2.trans (s3.trans (s4.trans s5))) ?_
    unfold factOf
    rw [if_pos (by omega)]
    exact ⟨p2, p, rfl, .of hp2, .of (s5 _ _ hp)⟩
  · walk_at "ws"
    refine w_ixL hp3 (at_head hmn) ?_
    walk_at "ws"
    rw [List.length_map]
    refine w_ixL hp3 (v := .int (ms.getLastD 0)) ?_ ?_
    · have hl : 0 < ms.length := List.length_pos_iff.mpr hmn
      rw [show ((ms.length : Nat) : Int) - 1 = ((ms.length - 1 : Nat) : Int) by omega]
      refine atI_nat ?_
      rw [List.getElem?_map, ← List.getLast?_eq_getElem?, List.getLast?_eq_some_getLast hmn, List.getLastD_eq_getLast?, List.getLast?_eq_some_getLast hmn]
      rfl
    walk_at "ws"
    refine ⟨_, _, rfl, fun x H' s1 hx => q _ _ _ asc hm (s2.trans (s3.trans s1)) ?_⟩
    unfold factOf
    rw [if_neg (by omega)]
    exact hx
theorem ok_law_samples (b_list : mg "list" = none) (c_law_take : Cd P w K mg base 1 "_law_take" spTake) (c_law_bounds : Cd P w K mg base 1 "_law_bounds" (spBoundsG K)) (Z : St1 K mg "_law_samples" s_law_samples ["draw", "fact"]) : Cd P w K mg base 2 "_law_samples" (spSamp K) := by
  refine Z.cd sc_law_samples (fun vs H Q E h => by obtain ⟨d, cc, v, F, rfl, _⟩ := h; rfl) (fun f cdv A outer s H vs Q E hr h => ?_)
  obtain ⟨d, cc, v, F, rfl, hd, hF, hg, q⟩ := h
  refine ⟨_, (pss_cons (ps_asg (pe_cd c_law_bounds hr (by first | decide | omega) (by rfl) (pa_cons (pv 1) pa_nil)) (pg_tup rfl (pgs_cons (pg_name (i := 2) sc_law_samples.nd rfl (.inl rfl)) (pgs_cons (pg_name (i := 3) sc_law_samples.nd rfl (.inl rfl)) pgs_nil))))
      (pss_cons (ps_if (PW.pt (pw_and (pt_cmpR op_notNQ (pv 1) pe_non (nomark _)) (pw_and1 (pt_cmpR op_eq (pe_ix ix_tup (pv 1) pe_int (fun _ _ => rfl)) pe_str (nomark _))))) (pss_one (ps_ret (pe_callTy call_listQ (by rfl) b_list (by decide +kernel) (pa_cons (pe_ix ix_tup (pv 1) pe_int (fun _ _ => rfl)) pa_nil)))) pss_nil)
      (pss_one (ps_ret (pe_lst (pa_cons (pv 2) (pa_cons (pv 3) (pa_cons (pe_op op_add (pv 2) (pe_op op_fdiv (pe_op op_sub (pv 3) (pv 2)) pe_int)) (pa_cons (pe_op op_add (pv 2) (pe_cd c_law_take hr (by first | decide | omega) (by rfl) (pa_cons (pv 0) (pa_cons (pe_op op_add (pe_op op_sub (pv 3) (pv 2)) pe_int) pa_nil)))) pa_nil))))))))), ?_⟩
  walk_at "ws"
  refine ⟨_, F, rfl, hF, hg, fun p H1 np s1 hp => ?_⟩
  have hF1 := hF.same s1
  have hd1 := hd.same s1
  cases F with
  | row ws =>
    obtain ⟨a, b, rfl, h1, h2⟩ := hF1
    walk_at "wd"
    refine w_listT h2 fun l H2 nl s2 hl => ?_
    exact q l ws _ (fun z hz => ⟨hg.2.2.1 z hz, by simpa [Fa.alw] using hz⟩) (by have := hg.2.2.2; omega) hl (s1.free nl) (hd1.same s2) (fun a o n e => s2 _ _ (s1 _ _ e))
  | all =>
    obtain rfl : v = .non := hF1
    walk_at "wd"
    refine w_take hd1 (by decide) (by decide) fun x H3 x0 x1 hd3 b3 => ?_
    walk_at "wd"
    refine w_kLst (by show 4 ≤ sizeLine; decide) fun l H4 nl s4 hl => ?_
    refine q l [0, 4294967295, 0 + (4294967295 - 0) / 2, 0 + x] _ (fun z hz => ?_) (by show 4 ≤ 16; decide) hl (s1.free (free_but b3 nl hd3)) (hd3.same s4) (fun a o n e => s4 _ _ (b3 _ _ n (s1 _ _ e)))
    simp only [List.mem_cons, List.not_mem_nil, or_false] at hz
    rcases hz with rfl | rfl | rfl | rfl
    · exact ⟨⟨by decide, by decide⟩, rfl⟩
    · exact ⟨⟨by decide, by decide⟩, rfl⟩
    · exact ⟨⟨by decide, by decide⟩, rfl⟩
    · exact ⟨⟨by omega, by simp only [Fa.hi, Fa.lo] at x1; omega⟩, rfl⟩
  | rng lo hi =>
    obtain ⟨a, rfl, h1⟩ := hF1
    obtain ⟨g1, g2, g3⟩ := hg
    simp only [Fa.hi, Fa.lo] at hp
    walk_at "wd"
    refine w_take hd1 (by show 0 < hi - lo + 1; omega) (by show hi - lo + 1 ≤ _; omega) fun x H3 x0 x1 hd3 b3 => ?_
    walk_at "wd"
    refine w_kLst (by show 4 ≤ sizeLine; decide) fun l H4 nl s4 hl => ?_
    refine q l [lo, hi, lo + (hi - lo) / 2, lo + x] _ (fun z hz => ?_) (by show 4 ≤ 16; decide) hl (s1.free (free_but b3 nl hd3)) (hd3.same s4) (fun a o n e => s4 _ _ (b3 _ _ n (s1 _ _ e)))
    have x1 : x < hi - lo + 1 := x1
    simp only [List.mem_cons, List.not_mem_nil, or_false] at hz
    rcases hz with rfl | rfl | rfl | rfl
    all_goals exact ⟨⟨by omega, by omega⟩, by simp only [Fa.alw, Bool.and_eq_true, decide_eq_true_eq]; omega⟩
end
end K21

open PySem.W
namespace K21
/-! facts as ranges and rows: what is common to the laws about them -/
theorem Fa.Good.ne {F : Fa} (h : F.Good) : F ≠ .row [] := fun e => by subst e; exact h.1 rfl
theorem Fa.Good.l16 {F : Fa} (h : F.Good) : ∀ ws, F = .row ws → ws.length ≤ 16 := fun ws e => by subst e; exact h.2.2.2
theorem isRow_of {F : Fa} (h : F.isRow = true) : ∃ ws, F = .row ws := by cases F <;> first | exact ⟨_, rfl⟩ | cases h
theorem last_ge : ∀ {ms : List Int} {w : Int}, ms.Pairwise (· < ·) → w ∈ ms → ms.headD 0 ≤ w ∧ w ≤ ms.getLastD 0
  | [x], w, _, h => by simp at h; subst h; simp
  | x :: y :: r, w, p, h => by
    rw [List.pairwise_cons] at p
    have ih := fun h => last_ge (ms := y :: r) (w := w) p.2 h
    have hl : (x :: y :: r).getLastD 0 = (y :: r).getLastD 0 := rfl
    have hy := last_ge (ms := y :: r) (w := y) p.2 (by simp)
    have := p.1 y (by simp)
    rw [hl]
    rcases List.mem_cons.mp h with rfl | h
    · exact ⟨by simp, by omega⟩
    · have i := ih h
      have : x < w := p.1 w h
      exact ⟨by simp; omega, i.2⟩
theorem Fa.Good.bnd {F : Fa} (h : F.Good) : 0 ≤ F.lo ∧ F.lo ≤ F.hi ∧ F.hi < 4294967296 := by
  cases F with
  | all => exact ⟨by decide, by decide, by decide⟩
  | rng l h' => exact ⟨h.1, Int.le_of_lt h.2.1, h.2.2⟩
  | row ws =>
    obtain ⟨ne, asc, w32, _⟩ := h
    cases ws with
    | nil => exact absurd rfl ne
    | cons x r =>
      have h1 := w32 x (by simp)
      have h2 := last_ge asc (show x ∈ x :: r by simp)
      have h3 : (x :: r).getLastD 0 ∈ x :: r := by
        rw [List.getLastD_eq_getLast?, List.getLast?_eq_some_getLast (by simp)]
        exact List.getLast_mem _
      have h4 := w32 _ h3
      exact ⟨h1.1, h2.2, h4.2⟩
theorem spanF_good {lo hi : Int} (h0 : 0 ≤ lo) (h1 : lo ≤ hi) (h2 : hi < 4294967296) : (spanF lo hi).Good := by
  unfold spanF
  split
  · exact ⟨by simp, List.pairwise_singleton _ _, fun x hx => by rw [List.mem_singleton.mp hx]; exact ⟨h0, by omega⟩, by simp⟩
  · split
    · trivial
    · exact ⟨h0, by omega, h2⟩
theorem factOf_good {ms : List Int} (ne : ms ≠ []) (asc : ms.Pairwise (· < ·)) (w32 : ∀ x ∈ ms, W32 x) : (factOf ms).Good := by
  unfold factOf
  split
  · rename_i h; exact ⟨ne, asc, w32, h⟩
  · cases ms with
    | nil => exact absurd rfl ne
    | cons x r =>
      have h1 := w32 x (by simp)
      have h2 := last_ge asc (show x ∈ x :: r by simp)
      have h3 : (x :: r).getLastD 0 ∈ x :: r := by
        rw [List.getLastD_eq_getLast?, List.getLast?_eq_some_getLast (by simp)]
        exact List.getLast_mem _
      exact spanF_good h1.1 h2.2 (w32 _ h3).2
theorem alw_span {lo hi w : Int} (hw : W32 w) (h0 : 0 ≤ lo) (h2 : hi < 4294967296) : (spanF lo hi).alw w = (decide (lo ≤ w) && decide (w ≤ hi)) := by
  unfold W32 at hw
  unfold spanF
  rw [Bool.eq_iff_iff]
  split
  · rename_i e; simp [Fa.alw]; omega
  · split
    · rename_i e; simp [Fa.alw]; omega
    · simp [Fa.alw]
theorem alw_bnd {F : Fa} {w : Int} (hF : F.isRow = false) (hw : W32 w) : F.alw w = (decide (F.lo ≤ w) && decide (w ≤ F.hi)) := by
  unfold W32 at hw
  cases F with
  | row ws => cases hF
  | rng l h => rfl
  | all =>
    show true = (decide (0 ≤ w) && decide (w ≤ 4294967295))
    rw [decide_eq_true hw.1, decide_eq_true (by omega)]; rfl
theorem alw_in {F : Fa} {w : Int} (g : F.Good) (hw : W32 w) (h : F.alw w = true) : F.lo ≤ w ∧ w ≤ F.hi := by
  cases e : F.isRow with
  | false => rw [alw_bnd e hw] at h; simpa using h
  | true =>
    obtain ⟨ws, rfl⟩ := isRow_of e
    exact last_ge g.2.1 (by simpa [Fa.alw] using h)
theorem sqT_but {K : PySem.W.Frag} {H H' : Hp} {d a : Addr} {xs ys : List V} (b : But d H H') (hd : H d = some (.lst ys)) (h : SqT K H a xs) : SqT K H' a xs := by
  rcases h with (h | ⟨o, h⟩) | h
  · exact .inl (.inl (b _ _ (ne_of h hd (by intro z; cases z)) h))
  · exact .inl (.inr ⟨o, b _ _ (ne_of h hd (by intro z; cases z)) h⟩)
  · exact .inr h
theorem FaAt.but {K : PySem.W.Frag} {H H' : Hp} {d : Addr} {ys : List V} {v : V} {F : Fa} (h : FaAt K H v F) (b : But d H H') (hd : H d = some (.lst ys)) : FaAt K H' v F := by
  cases F with
  | all => exact h
  | row ws => obtain ⟨a, c, e, h1, h2⟩ := h; exact ⟨a, c, e, sqT_but b hd h1, sqT_but b hd h2⟩
  | rng lo hi => obtain ⟨a, e, h1⟩ := h; exact ⟨a, e, sqT_but b hd h1⟩
theorem w_fact {K : PySem.W.Frag} {d cc : Addr} {H : Hp} {Q : VK} {E : XK} (hd : DrawC H d cc) (q : ∀ (v : V) (F : Fa) H', F.Good → FaAt K H' v F → DrawC H' d cc → But d H H' → Q v H') : spFact K [.ref d] H Q E := ⟨d, cc, rfl, hd, q⟩
theorem alw_factOf {ms : List Int} {w : Int} (asc : ms.Pairwise (· < ·)) (w32 : ∀ x ∈ ms, W32 x) (h : w ∈ ms) : (factOf ms).alw w = true := by
  unfold factOf
  split
  · simpa [Fa.alw] using h
  · have h1 := last_ge asc h
    have ne : ms ≠ [] := List.ne_nil_of_mem h
    have h3 : ms.getLastD 0 ∈ ms := by
      rw [List.getLastD_eq_getLast?, List.getLast?_eq_some_getLast ne]
      exact List.getLast_mem _
    have h4 : ms.headD 0 ∈ ms := by cases ms with | nil => exact absurd rfl ne | cons x r => simp
    rw [alw_span (w32 w h) (w32 _ h4).1 (w32 _ h3).2, decide_eq_true h1.1, decide_eq_true h1.2]; rfl
end K21

open PySem.W
namespace K21
/-! the machine's results and conditions -/
structure Mtx (K : PySem.W.Frag) (mg : Str → Option Value) : Prop where
  g_MASK : GV mg "MASK" (.int 4294967295)
  g_HALF : GV mg "HALF" (.int 2147483648)
  g_WORDS_IN_ALL : GV mg "WORDS_IN_ALL" (.int 4294967296)
def W2 (x y : Int) : Prop := W32 x ∧ W32 y
def sgn (x : Int) : Int := if 2147483648 ≤ x then x - 4294967296 else x
def dAdd (x y : Int) : Int := (x + y) % 4294967296
def dSub (x y : Int) : Int := (x - y) % 4294967296
def dMul (x y : Int) : Int := (x * y) % 4294967296
def dAnd (x y : Int) : Int := Builtin.bitAnd x y
def dOr (x y : Int) : Int := Builtin.bitOr x y
def dXor (x y : Int) : Int := Builtin.bitXor x y
def dShl (x y : Int) : Int := (x * 2 ^ (y % 32).toNat) % 4294967296
def dShr (x y : Int) : Int := x / 2 ^ (y % 32).toNat
def dSar (x y : Int) : Int := (sgn x / 2 ^ (y % 32).toNat) % 4294967296
def dSlt (x y : Int) : Int := if sgn x < sgn y then 1 else 0
def dSltu (x y : Int) : Int := if x < y then 1 else 0
def dDivu (x y : Int) : Int := if y = 0 then 4294967295 else x / y
def dRemu (x y : Int) : Int := if y = 0 then x else x % y
abbrev spOp (g : Int → Int → Int) : Sp := spI2 W2 fun x y => .int (g x y)
theorem sc_signed : FnScope ["word"] ["word"] (defScope s_signed) := ⟨rfl, rfl, rfl, by decide +kernel, rfl, by decide +kernel, by decide +kernel⟩
theorem sc_add_1 : FnScope ["x", "y"] ["x", "y"] (defScope s_add_1) := ⟨rfl, rfl, rfl, by decide +kernel, rfl, by decide +kernel, by decide +kernel⟩
theorem sc_sub_1 : FnScope ["x", "y"] ["x", "y"] (defScope s_sub_1) := ⟨rfl, rfl, rfl, by decide +kernel, rfl, by decide +kernel, by decide +kernel⟩
theorem sc_mul : FnScope ["x", "y"] ["x", "y"] (defScope s_mul) := ⟨rfl, rfl, rfl, by decide +kernel, rfl, by decide +kernel, by decide +kernel⟩
theorem sc_and_1 : FnScope ["x", "y"] ["x", "y"] (defScope s_and_1) := ⟨rfl, rfl, rfl, by decide +kernel, rfl, by decide +kernel, by decide +kernel⟩
theorem sc_or_1 : FnScope ["x", "y"] ["x", "y"] (defScope s_or_1) := ⟨rfl, rfl, rfl, by decide +kernel, rfl, by decide +kernel, by decide +kernel⟩
theorem sc_xor : FnScope ["x", "y"] ["x", "y"] (defScope s_xor) := ⟨rfl, rfl, rfl, by decide +kernel, rfl, by decide +kernel, by decide +kernel⟩
theorem sc_shl_1 : FnScope ["x", "y"] ["x", "y"] (defScope s_shl_1) := ⟨rfl, rfl, rfl, by decide +kernel, rfl, by decide +kernel, by decide +kernel⟩
theorem sc_shr_1 : FnScope ["x", "y"] ["x", "y"] (defScope s_shr_1) := ⟨rfl, rfl, rfl, by decide +kernel, rfl, by decide +kernel, by decide +kernel⟩
theorem sc_sar : FnScope ["x", "y"] ["x", "y"] (defScope s_sar) := ⟨rfl, rfl, rfl, by decide +kernel, rfl, by decide +kernel, by decide +kernel⟩
theorem sc_slt : FnScope ["x", "y"] ["x", "y"] (defScope s_slt) := ⟨rfl, rfl, rfl, by decide +kernel, rfl, by decide +kernel, by decide +kernel⟩
theorem sc_sltu : FnScope ["x", "y"] ["x", "y"] (defScope s_sltu) := ⟨rfl, rfl, rfl, by decide +kernel, rfl, by decide +kernel, by decide +kernel⟩
theorem sc_divu_1 : FnScope ["x", "y"] ["x", "y"] (defScope s_divu_1) := ⟨rfl, rfl, rfl, by decide +kernel, rfl, by decide +kernel, by decide +kernel⟩
theorem sc_remu_1 : FnScope ["x", "y"] ["x", "y"] (defScope s_remu_1) := ⟨rfl, rfl, rfl, by decide +kernel, rfl, by decide +kernel, by decide +kernel⟩
theorem sc_compute : FnScope ["op", "x", "y", "result_of"] ["op", "x", "y"] (defScope s_compute) := ⟨rfl, rfl, rfl, by decide +kernel, rfl, by decide +kernel, by decide +kernel⟩
theorem sc_holds : FnScope ["op", "x", "y"] ["op", "x", "y"] (defScope s_holds) := ⟨rfl, rfl, rfl, by decide +kernel, rfl, by decide +kernel, by decide +kernel⟩
theorem sc_law_signed : FnScope ["x"] ["x"] (defScope s_law_signed) := ⟨rfl, rfl, rfl, by decide +kernel, rfl, by decide +kernel, by decide +kernel⟩
theorem sc_law_compute : FnScope ["op", "x", "y", "top"] ["op", "x", "y"] (defScope s_law_compute) := ⟨rfl, rfl, rfl, by decide +kernel, rfl, by decide +kernel, by decide +kernel⟩
theorem sc_law_holds : FnScope ["op", "x", "y"] ["op", "x", "y"] (defScope s_law_holds) := ⟨rfl, rfl, rfl, by decide +kernel, rfl, by decide +kernel, by decide +kernel⟩
abbrev spSgn : Sp := spI1 W32 fun x => .int (sgn x)
def tab13 : List (Str × (Int → Int → Int)) := [("add", dAdd), ("sub", dSub), ("mul", dMul), ("and", dAnd), ("or", dOr), ("xor", dXor), ("shl", dShl), ("shr", dShr), ("sar", dSar), ("slt", dSlt), ("sltu", dSltu), ("divu", dDivu), ("remu", dRemu)]
def tab8 : List (Str × (Int → Int → Int)) := [("addi", dAdd), ("andi", dAnd), ("ori", dOr), ("xori", dXor), ("shli", dShl), ("shri", dShr), ("sari", dSar), ("slti", dSlt)]
def tab6 : List (Str × (Int → Int → Bool)) := [("beq", fun x y => decide (x = y)), ("bne", fun x y => !decide (x = y)), ("blt", fun x y => decide (sgn x < sgn y)), ("bge", fun x y => decide (sgn y ≤ sgn x)), ("bltu", fun x y => decide (x < y)), ("bgeu", fun x y => decide (y ≤ x))]
def spComp : Sp := fun vs H Q _ => ∃ (op : Str) (g : Int → Int → Int) (x y : Int), vs = [.str op, .int x, .int y] ∧ (op, g) ∈ tab13 ++ tab8 ∧ W32 x ∧ W32 y ∧ Q (.int (g x y)) H
def spHolds : Sp := fun vs H Q _ => ∃ (op : Str) (g : Int → Int → Bool) (x y : Int), vs = [.str op, .int x, .int y] ∧ (op, g) ∈ tab6 ∧ W32 x ∧ W32 y ∧ Q (.bl (g x y)) H
def spCompL : Sp := fun vs H Q _ => ∃ (op : Str) (g : Int → Int → Int) (x y : Int), vs = [.str op, .int x, .int y] ∧ (op, g) ∈ tab13 ∧ W32 x ∧ W32 y ∧ Q (.int (g x y)) H
section
variable {P : Program} {w : World} {K : PySem.W.Frag} {mg : Str → Option Value} {base : Heap}
theorem ok_signed (T : Mtx K mg) (Z : St1 K mg "_signed" s_signed ["word"]) : Cd P w K mg base 1 "_signed" spSgn := by
  obtain ⟨g_MASK, g_HALF, g_WORDS_IN_ALL⟩ := T
  refine Z.cd sc_signed len_spI1 (fun f cdv A outer s H vs Q E hr h => ?_)
  obtain ⟨x, rfl, _, q⟩ := h
  refine ⟨_, (pss_one (ps_ret (pe_ifExp (pt_cmpR op_ge (pv 0) (pe_gv (by rfl) g_HALF) (nomark _)) (pe_op op_sub (pv 0) (pe_gv (by rfl) g_WORDS_IN_ALL)) (pv 0)))), ?_⟩
  walk_at "ws"
  refine w_dec (fun e => ?_) (fun e => ?_)
  · walk_at "ws"
    simpa only [sgn, if_pos e] using q
  · walk_at "ws"
    simpa only [sgn, if_neg e] using q
theorem ok_law_signed (Z : St1 K mg "_law_signed" s_law_signed ["x"]) : Cd P w K mg base 1 "_law_signed" spSgn := by
  refine Z.cd sc_law_signed len_spI1 (fun f cdv A outer s H vs Q E hr h => ?_)
  obtain ⟨x, rfl, _, q⟩ := h
  refine ⟨_, (pss_cons (ps_if (pt_cmpR op_ge (pv 0) pe_int (nomark _)) (pss_one (ps_ret (pe_op op_sub (pv 0) pe_int))) pss_nil)
      (pss_one (ps_ret (pv 0)))), ?_⟩
  walk_at "ws"
  refine w_dec (fun e => ?_) (fun e => ?_)
  · walk_at "ws"
    simpa only [sgn, if_pos e] using q
  · walk_at "ws"
    simpa only [sgn, if_neg e] using q
theorem om_add {fa : Addr} (T : Mtx K mg) (Z : StF K "_add" s_add_1 ["x", "y"] fa) : Held P w K mg base 2 fa (spOp dAdd) := by
  obtain ⟨g_MASK, g_HALF, g_WORDS_IN_ALL⟩ := T
  refine Z.cd sc_add_1 len_spI2 (fun f cdv A outer s H vs Q E hr h => ?_)
  obtain ⟨x, y, rfl, ⟨hx, hy⟩, q⟩ := h
  refine ⟨_, (pss_one (ps_ret (pe_op op_and (pe_op op_add (pv 0) (pv 1)) (pe_gv (by rfl) g_MASK)))), ?_⟩
  walk_at "ws"
  rw [bitAnd_m32]; exact q
theorem om_sub {fa : Addr} (T : Mtx K mg) (Z : StF K "_sub" s_sub_1 ["x", "y"] fa) : Held P w K mg base 2 fa (spOp dSub) := by
  obtain ⟨g_MASK, g_HALF, g_WORDS_IN_ALL⟩ := T
  refine Z.cd sc_sub_1 len_spI2 (fun f cdv A outer s H vs Q E hr h => ?_)
  obtain ⟨x, y, rfl, ⟨hx, hy⟩, q⟩ := h
  refine ⟨_, (pss_one (ps_ret (pe_op op_and (pe_op op_sub (pv 0) (pv 1)) (pe_gv (by rfl) g_MASK)))), ?_⟩
  walk_at "ws"
  rw [bitAnd_m32]; exact q
theorem om_mul {fa : Addr} (T : Mtx K mg) (Z : StF K "_mul" s_mul ["x", "y"] fa) : Held P w K mg base 2 fa (spOp dMul) := by
  obtain ⟨g_MASK, g_HALF, g_WORDS_IN_ALL⟩ := T
  refine Z.cd sc_mul len_spI2 (fun f cdv A outer s H vs Q E hr h => ?_)
  obtain ⟨x, y, rfl, ⟨⟨hx, hx'⟩, hy, hy'⟩, q⟩ := h
  refine ⟨_, (pss_one (ps_ret (pe_op op_and (pe_op op_mul (pv 0) (pv 1)) (pe_gv (by rfl) g_MASK)))), ?_⟩
  walk_at "ws"
  rw [bitAnd_m32]; exact q
theorem om_and {fa : Addr} (Z : StF K "_and" s_and_1 ["x", "y"] fa) : Held P w K mg base 2 fa (spOp dAnd) := by
  refine Z.cd sc_and_1 len_spI2 (fun f cdv A outer s H vs Q E hr h => ?_)
  obtain ⟨x, y, rfl, ⟨⟨hx, hx'⟩, hy, hy'⟩, q⟩ := h
  refine ⟨_, (pss_one (ps_ret (pe_op op_and (pv 0) (pv 1)))), ?_⟩
  walk_at "ws"
  exact q
theorem om_or {fa : Addr} (Z : StF K "_or" s_or_1 ["x", "y"] fa) : Held P w K mg base 2 fa (spOp dOr) := by
  refine Z.cd sc_or_1 len_spI2 (fun f cdv A outer s H vs Q E hr h => ?_)
  obtain ⟨x, y, rfl, ⟨⟨hx, hx'⟩, hy, hy'⟩, q⟩ := h
  refine ⟨_, (pss_one (ps_ret (pe_op op_or (pv 0) (pv 1)))), ?_⟩
  walk_at "ws"
  exact q
theorem om_xor {fa : Addr} (Z : StF K "_xor" s_xor ["x", "y"] fa) : Held P w K mg base 2 fa (spOp dXor) := by
  refine Z.cd sc_xor len_spI2 (fun f cdv A outer s H vs Q E hr h => ?_)
  obtain ⟨x, y, rfl, ⟨⟨hx, hx'⟩, hy, hy'⟩, q⟩ := h
  refine ⟨_, (pss_one (ps_ret (pe_op op_xor (pv 0) (pv 1)))), ?_⟩
  walk_at "ws"
  exact q
theorem om_shl {fa : Addr} (T : Mtx K mg) (Z : StF K "_shl" s_shl_1 ["x", "y"] fa) : Held P w K mg base 2 fa (spOp dShl) := by
  obtain ⟨g_MASK, g_HALF, g_WORDS_IN_ALL⟩ := T
  refine Z.cd sc_shl_1 len_spI2 (fun f cdv A outer s H vs Q E hr h => ?_)
  obtain ⟨x, y, rfl, ⟨⟨hx, hx'⟩, hy, hy'⟩, q⟩ := h
  refine ⟨_, (pss_one (ps_ret (pe_op op_and (pe_op op_shl (pv 0) (pe_op op_and (pv 1) pe_int)) (pe_gv (by rfl) g_MASK)))), ?_⟩
  walk_at "ws"
  rw [bitAnd_m5]
  refine w_I ⟨by omega, by omega, by show x.natAbs < 18446744073709551616; omega⟩ ?_
  walk_at "ws"
  rw [bitAnd_m32]; exact q
theorem om_shr {fa : Addr} (Z : StF K "_shr" s_shr_1 ["x", "y"] fa) : Held P w K mg base 2 fa (spOp dShr) := by
  refine Z.cd sc_shr_1 len_spI2 (fun f cdv A outer s H vs Q E hr h => ?_)
  obtain ⟨x, y, rfl, ⟨⟨hx, hx'⟩, hy, hy'⟩, q⟩ := h
  refine ⟨_, (pss_one (ps_ret (pe_op op_shr (pv 0) (pe_op op_and (pv 1) pe_int)))), ?_⟩
  walk_at "ws"
  rw [bitAnd_m5]
  walk_at "ws"
  exact q
theorem om_sar {fa : Addr} (T : Mtx K mg) (c_signed : Cd P w K mg base 1 "_signed" spSgn) (Z : StF K "_sar" s_sar ["x", "y"] fa) : Held P w K mg base 2 fa (spOp dSar) := by
  obtain ⟨g_MASK, g_HALF, g_WORDS_IN_ALL⟩ := T
  refine Z.cd sc_sar len_spI2 (fun f cdv A outer s H vs Q E hr h => ?_)
  obtain ⟨x, y, rfl, ⟨hx, hy⟩, q⟩ := h
  refine ⟨_, (pss_one (ps_ret (pe_op op_and (pe_op op_shr (pe_cd c_signed hr (by first | decide | omega) (by rfl) (pa_cons (pv 0) pa_nil)) (pe_op op_and (pv 1) pe_int)) (pe_gv (by rfl) g_MASK)))), ?_⟩
  walk_at "ws"
  rw [bitAnd_m5]
  walk_at "ws"
  rw [bitAnd_m32]; exact q
theorem om_slt {fa : Addr} (c_signed : Cd P w K mg base 1 "_signed" spSgn) (Z : StF K "_slt" s_slt ["x", "y"] fa) : Held P w K mg base 2 fa (spOp dSlt) := by
  refine Z.cd sc_slt len_spI2 (fun f cdv A outer s H vs Q E hr h => ?_)
  obtain ⟨x, y, rfl, ⟨hx, hy⟩, q⟩ := h
  refine ⟨_, (pss_one (ps_ret (pe_ifExp (pt_cmpR op_lt (pe_cd c_signed hr (by first | decide | omega) (by rfl) (pa_cons (pv 0) pa_nil)) (pe_cd c_signed hr (by first | decide | omega) (by rfl) (pa_cons (pv 1) pa_nil)) (nomark _)) pe_int pe_int))), ?_⟩
  walk_at "ws"
  refine w_dec (fun e => ?_) (fun e => ?_)
  · walk_at "ws"
    simpa only [dSlt, if_pos e] using q
  · walk_at "ws"
    simpa only [dSlt, if_neg e] using q
theorem om_sltu {fa : Addr} (Z : StF K "_sltu" s_sltu ["x", "y"] fa) : Held P w K mg base 2 fa (spOp dSltu) := by
  refine Z.cd sc_sltu len_spI2 (fun f cdv A outer s H vs Q E hr h => ?_)
  obtain ⟨x, y, rfl, ⟨hx, hy⟩, q⟩ := h
  refine ⟨_, (pss_one (ps_ret (pe_ifExp (pt_cmpR op_lt (pv 0) (pv 1) (nomark _)) pe_int pe_int))), ?_⟩
  walk_at "ws"
  refine w_dec (fun e => ?_) (fun e => ?_)
  · walk_at "ws"
    simpa only [dSltu, if_pos e] using q
  · walk_at "ws"
    simpa only [dSltu, if_neg e] using q
theorem om_divu {fa : Addr} (T : Mtx K mg) (Z : StF K "_divu" s_divu_1 ["x", "y"] fa) : Held P w K mg base 2 fa (spOp dDivu) := by
  obtain ⟨g_MASK, g_HALF, g_WORDS_IN_ALL⟩ := T
  refine Z.cd sc_divu_1 len_spI2 (fun f cdv A outer s H vs Q E hr h => ?_)
  obtain ⟨x, y, rfl, ⟨⟨hx, hx'⟩, hy, hy'⟩, q⟩ := h
  refine ⟨_, (pss_one (ps_ret (pe_ifExp (pt_cmpR op_eq (pv 1) pe_int (nomark _)) (pe_gv (by rfl) g_MASK) (pe_op op_fdivW (pv 0) (pv 1))))), ?_⟩
  walk_at "ws"
  refine w_dec (fun e => ?_) (fun e => ?_)
  · walk_at "ws"
    simpa only [dDivu, if_pos e] using q
  · walk_at "ws"
    simpa only [dDivu, if_neg e] using q
theorem om_remu {fa : Addr} (Z : StF K "_remu" s_remu_1 ["x", "y"] fa) : Held P w K mg base 2 fa (spOp dRemu) := by
  refine Z.cd sc_remu_1 len_spI2 (fun f cdv A outer s H vs Q E hr h => ?_)
  obtain ⟨x, y, rfl, ⟨⟨hx, hx'⟩, hy, hy'⟩, q⟩ := h
  refine ⟨_, (pss_one (ps_ret (pe_ifExp (pt_cmpR op_eq (pv 1) pe_int (nomark _)) (pv 0) (pe_op op_mod (pv 0) (pv 1))))), ?_⟩
  walk_at "ws"
  refine w_dec (fun e => ?_) (fun e => ?_)
  · walk_at "ws"
    simpa only [dRemu, if_pos e] using q
  · walk_at "ws"
    simpa only [dRemu, if_neg e] using q
theorem ok_compute {R : Addr} (gR : GV mg "RESULTS" (.ref R)) (rows : ∀ p ∈ tab13 ++ tab8, ∃ f, KDct K w R p.1 (.ref f) ∧ Held P w K mg base 2 f (spOp p.2)) (Z : St1 K mg "compute" s_compute ["op", "x", "y"]) : Cd P w K mg base 3 "compute" spComp := by
  refine Z.cd sc_compute (fun vs H Q E h => by obtain ⟨op, g, x, y, rfl, _⟩ := h; rfl) (fun f cdv A outer s H vs Q E hr h => ?_)
  obtain ⟨op, g, x, y, rfl, hm, hx, hy, q⟩ := h
  obtain ⟨f, hk, hf⟩ := rows _ hm
  refine ⟨_, (pss_cons (ps_set (i := 3) sc_compute.nd rfl (.inl rfl) (pe_ix ix_kdict (pe_gv (by rfl) gR) (pv 0) (fun _ _ => rfl)))
      (pss_one (ps_ret (pe_callZ (i := 3) hr rfl (Or.inl rfl) (pa_cons (pv 1) (pa_cons (pv 2) pa_nil)))))), ?_⟩
  walk_at "ws"
  refine w_ixD hk ?_
  walk_at "ws"
  refine w_callZ rfl hf ?_
  walk_at "ws"
  exact ⟨x, y, rfl, ⟨hx, hy⟩, q⟩
theorem ok_holds (c_signed : Cd P w K mg base 1 "_signed" spSgn) (Z : St1 K mg "holds" s_holds ["op", "x", "y"]) : Cd P w K mg base 2 "holds" spHolds := by
  refine Z.cd sc_holds (fun vs H Q E h => by obtain ⟨op, g, x, y, rfl, _⟩ := h; rfl) (fun f cdv A outer s H vs Q E hr h => ?_)
  obtain ⟨op, g, x, y, rfl, hm, hx, hy, q⟩ := h
  refine ⟨_, (pss_cons (ps_if (pt_cmpR op_eq (pv 0) pe_str (nomark _)) (pss_one (ps_ret (pe_cmpR op_eq (pv 1) (pv 2) (nomark _)))) pss_nil)
      (pss_cons (ps_if (pt_cmpR op_eq (pv 0) pe_str (nomark _)) (pss_one (ps_ret (pe_cmpR op_ne (pv 1) (pv 2) (nomark _)))) pss_nil)
      (pss_cons (ps_if (pt_cmpR op_eq (pv 0) pe_str (nomark _)) (pss_one (ps_ret (pe_cmpR op_lt (pe_cd c_signed hr (by first | decide | omega) (by rfl) (pa_cons (pv 1) pa_nil)) (pe_cd c_signed hr (by first | decide | omega) (by rfl) (pa_cons (pv 2) pa_nil)) (nomark _)))) pss_nil)
      (pss_cons (ps_if (pt_cmpR op_eq (pv 0) pe_str (nomark _)) (pss_one (ps_ret (pe_cmpR op_ge (pe_cd c_signed hr (by first | decide | omega) (by rfl) (pa_cons (pv 1) pa_nil)) (pe_cd c_signed hr (by first | decide | omega) (by rfl) (pa_cons (pv 2) pa_nil)) (nomark _)))) pss_nil)
      (pss_cons (ps_if (pt_cmpR op_eq (pv 0) pe_str (nomark _)) (pss_one (ps_ret (pe_cmpR op_lt (pv 1) (pv 2) (nomark _)))) pss_nil)
      (pss_one (ps_ret (pe_cmpR op_ge (pv 1) (pv 2) (nomark _))))))))), ?_⟩
  simp only [tab6, List.mem_cons, Prod.mk.injEq, List.not_mem_nil, or_false] at hm
  rcases hm with ⟨rfl, rfl⟩ | ⟨rfl, rfl⟩ | ⟨rfl, rfl⟩ | ⟨rfl, rfl⟩ | ⟨rfl, rfl⟩ | ⟨rfl, rfl⟩
  all_goals
    walk_at "wd"
    exact q
end
end K21

open PySem.W
namespace K21
theorem sc_plain_op : FnScope ["op"] ["op"] (defScope s_plain_op) := ⟨rfl, rfl, rfl, by decide +kernel, rfl, by decide +kernel, by decide +kernel⟩
section
variable {P : Program} {w : World} {K : PySem.W.Frag} {mg : Str → Option Value} {base : Heap}
theorem pow2_lt {n : Nat} (h : n < 32) : (0 : Int) < 2 ^ n ∧ (2 : Int) ^ n < 4294967296 := (by decide : ∀ n : _root_.Fin 32, (0 : Int) < 2 ^ n.val ∧ (2 : Int) ^ n.val < 4294967296) ⟨n, h⟩
theorem w_intB {b : Bool} {H : Hp} {Q : VK} (q : Q (.int (if b then 1 else 0)) H) : rIntQ [.bl b] H Q := .inr ⟨b, rfl, q⟩
theorem ok_law_holds (c_law_signed : Cd P w K mg base 1 "_law_signed" spSgn) (Z : St1 K mg "_law_holds" s_law_holds ["op", "x", "y"]) : Cd P w K mg base 2 "_law_holds" spHolds := by
  refine Z.cd sc_law_holds (fun vs H Q E h => by obtain ⟨op, g, x, y, rfl, _⟩ := h; rfl) (fun f cdv A outer s H vs Q E hr h => ?_)
  obtain ⟨op, g, x, y, rfl, hm, hx, hy, q⟩ := h
  refine ⟨_, (pss_cons (ps_if (pt_cmpR op_eq (pv 0) pe_str (nomark _)) (pss_one (ps_ret (pe_cmpR op_eq (pv 1) (pv 2) (nomark _)))) pss_nil)
      (pss_cons (ps_if (pt_cmpR op_eq (pv 0) pe_str (nomark _)) (pss_one (ps_ret (pe_cmpR op_ne (pv 1) (pv 2) (nomark _)))) pss_nil)
      (pss_cons (ps_if (pt_cmpR op_eq (pv 0) pe_str (nomark _)) (pss_one (ps_ret (pe_cmpR op_lt (pe_cd c_law_signed hr (by first | decide | omega) (by rfl) (pa_cons (pv 1) pa_nil)) (pe_cd c_law_signed hr (by first | decide | omega) (by rfl) (pa_cons (pv 2) pa_nil)) (nomark _)))) pss_nil)
      (pss_cons (ps_if (pt_cmpR op_eq (pv 0) pe_str (nomark _)) (pss_one (ps_ret (pe_cmpR op_ge (pe_cd c_law_signed hr (by first | decide | omega) (by rfl) (pa_cons (pv 1) pa_nil)) (pe_cd c_law_signed hr (by first | decide | omega) (by rfl) (pa_cons (pv 2) pa_nil)) (nomark _)))) pss_nil)
      (pss_cons (ps_if (pt_cmpR op_eq (pv 0) pe_str (nomark _)) (pss_one (ps_ret (pe_cmpR op_lt (pv 1) (pv 2) (nomark _)))) pss_nil)
      (pss_one (ps_ret (pe_cmpR op_ge (pv 1) (pv 2) (nomark _))))))))), ?_⟩
  simp only [tab6, List.mem_cons, Prod.mk.injEq, List.not_mem_nil, or_false] at hm
  rcases hm with ⟨rfl, rfl⟩ | ⟨rfl, rfl⟩ | ⟨rfl, rfl⟩ | ⟨rfl, rfl⟩ | ⟨rfl, rfl⟩ | ⟨rfl, rfl⟩
  all_goals
    walk_at "wd"
    exact q
theorem ok_law_compute (b_int : mg "int" = none) (c_law_signed : Cd P w K mg base 1 "_law_signed" spSgn) (Z : St1 K mg "_law_compute" s_law_compute ["op", "x", "y"]) : Cd P w K mg base 2 "_law_compute" spCompL := by
  refine Z.cd sc_law_compute (fun vs H Q E h => by obtain ⟨op, g, x, y, rfl, _⟩ := h; rfl) (fun f cdv A outer s H vs Q E hr h => ?_)
  obtain ⟨op, g, x, y, rfl, hm, hx, hy, q⟩ := h
  refine ⟨_, (pss_cons (ps_set (i := 3) sc_law_compute.nd rfl (.inl rfl) pe_int)
      (pss_cons (ps_if (pt_cmpR op_eq (pv 0) pe_str (nomark _)) (pss_one (ps_ret (pe_op op_and (pe_op op_add (pv 1) (pv 2)) (pv 3)))) pss_nil)
      (pss_cons (ps_if (pt_cmpR op_eq (pv 0) pe_str (nomark _)) (pss_one (ps_ret (pe_op op_and (pe_op op_sub (pv 1) (pv 2)) (pv 3)))) pss_nil)
      (pss_cons (ps_if (pt_cmpR op_eq (pv 0) pe_str (nomark _)) (pss_one (ps_ret (pe_op op_and (pe_op op_mul (pv 1) (pv 2)) (pv 3)))) pss_nil)
      (pss_cons (ps_if (pt_cmpR op_eq (pv 0) pe_str (nomark _)) (pss_one (ps_ret (pe_op op_and (pv 1) (pv 2)))) pss_nil)
      (pss_cons (ps_if (pt_cmpR op_eq (pv 0) pe_str (nomark _)) (pss_one (ps_ret (pe_op op_or (pv 1) (pv 2)))) pss_nil)
      (pss_cons (ps_if (pt_cmpR op_eq (pv 0) pe_str (nomark _)) (pss_one (ps_ret (pe_op op_xor (pv 1) (pv 2)))) pss_nil)
      (pss_cons (ps_if (pt_cmpR op_eq (pv 0) pe_str (nomark _)) (pss_one (ps_ret (pe_op op_and (pe_op op_mul (pv 1) (pe_op op_shl pe_int (pe_op op_and (pv 2) pe_int))) (pv 3)))) pss_nil)
      (pss_cons (ps_if (pt_cmpR op_eq (pv 0) pe_str (nomark _)) (pss_one (ps_ret (pe_op op_fdivW (pv 1) (pe_op op_shl pe_int (pe_op op_and (pv 2) pe_int))))) pss_nil)
      (pss_cons (ps_if (pt_cmpR op_eq (pv 0) pe_str (nomark _)) (pss_one (ps_ret (pe_op op_and (pe_op op_fdivW (pe_cd c_law_signed hr (by first | decide | omega) (by rfl) (pa_cons (pv 1) pa_nil)) (pe_op op_shl pe_int (pe_op op_and (pv 2) pe_int))) (pv 3)))) pss_nil)
      (pss_cons (ps_if (pt_cmpR op_eq (pv 0) pe_str (nomark _)) (pss_one (ps_ret (pe_callTy call_intQ (by rfl) b_int (by decide +kernel) (pa_cons (pe_cmpR op_lt (pe_cd c_law_signed hr (by first | decide | omega) (by rfl) (pa_cons (pv 1) pa_nil)) (pe_cd c_law_signed hr (by first | decide | omega) (by rfl) (pa_cons (pv 2) pa_nil)) (nomark _)) pa_nil)))) pss_nil)
      (pss_cons (ps_if (pt_cmpR op_eq (pv 0) pe_str (nomark _)) (pss_one (ps_ret (pe_callTy call_intQ (by rfl) b_int (by decide +kernel) (pa_cons (pe_cmpR op_lt (pv 1) (pv 2) (nomark _)) pa_nil)))) pss_nil)
      (pss_cons (ps_if (pt_cmpR op_eq (pv 0) pe_str (nomark _)) (pss_one (ps_ret (pe_ifExp (pt_cmpR op_eq (pv 2) pe_int (nomark _)) (pv 3) (pe_op op_fdivW (pv 1) (pv 2))))) pss_nil)
      (pss_one (ps_ret (pe_ifExp (pt_cmpR op_eq (pv 2) pe_int (nomark _)) (pv 1) (pe_op op_sub (pv 1) (pe_op op_mul (pe_op op_fdivW (pv 1) (pv 2)) (pv 2))))))))))))))))))), ?_⟩
  have x0 := hx.1
  have x1 := hx.2
  have y0 := hy.1
  have y1 := hy.2
  have m0 : 0 ≤ y % 32 := Int.emod_nonneg _ (by decide)
  have m1 : y % 32 < 32 := Int.emod_lt_of_pos _ (by decide)
  have p2 := pow2_lt (n := (y % 32).toNat) (by omega)
  have e1 : (1 * 2 ^ (y % 32).toNat : Int) = 2 ^ (y % 32).toNat := Int.one_mul _
  simp only [tab13, List.mem_cons, Prod.mk.injEq, List.not_mem_nil, or_false] at hm
  rcases hm with ⟨rfl, rfl⟩ | ⟨rfl, rfl⟩ | ⟨rfl, rfl⟩ | ⟨rfl, rfl⟩ | ⟨rfl, rfl⟩ | ⟨rfl, rfl⟩ | ⟨rfl, rfl⟩ | ⟨rfl, rfl⟩ | ⟨rfl, rfl⟩ | ⟨rfl, rfl⟩ | ⟨rfl, rfl⟩ | ⟨rfl, rfl⟩ | ⟨rfl, rfl⟩
  all_goals walk_at "wd"
  · rw [bitAnd_m32]; exact q
  · rw [bitAnd_m32]; exact q
  · rw [bitAnd_m32]; exact q
  · exact q
  · exact q
  · exact q
  · rw [bitAnd_m5]
    walk_at "ws"
    rw [e1, bitAnd_m32]; exact q
  · rw [bitAnd_m5]
    walk_at "ws"
    rw [e1]; exact q
  · rw [bitAnd_m5]
    walk_at "ws"
    rw [e1, bitAnd_m32]; exact q
  · refine w_intB ?_
    simpa only [dSlt, decide_eq_true_eq] using q
  · refine w_intB ?_
    simpa only [dSltu, decide_eq_true_eq] using q
  · refine w_dec (fun e => ?_) (fun e => ?_)
    · walk_at "ws"
      simpa only [dDivu, if_pos e] using q
    · walk_at "ws"
      simpa only [dDivu, if_neg e] using q
  · refine w_dec (fun e => ?_) (fun e => ?_)
    · walk_at "ws"
      simpa only [dRemu, if_pos e] using q
    · walk_at "ws"
      rw [Int.mul_comm (x / y) y, ← Int.emod_def]
      simpa only [dRemu, if_neg e] using q
def tabI : List (Str × Str) := [("addi", "add"), ("andi", "and"), ("ori", "or"), ("xori", "xor"), ("shli", "shl"), ("shri", "shr"), ("sari", "sar"), ("slti", "slt")]
def names13 : List Str := tab13.map (·.1)
def spPlain : Sp := fun vs H Q _ => ∃ op : Str, vs = [.str op] ∧ op ∈ names13 ∧ Q (.str op) H
theorem ok_plain_op {I : Addr} (gI : GV mg "OPS_OF_IMMEDIATES" (.ref I)) (none13 : ∀ op ∈ names13, KGet K w I op none) (Z : St1 K mg "plain_op" s_plain_op ["op"]) : Cd P w K mg base 1 "plain_op" spPlain := by
  refine Z.cd sc_plain_op (fun vs H Q E h => by obtain ⟨op, rfl, _⟩ := h; rfl) (fun f cdv A outer s H vs Q E hr h => ?_)
  obtain ⟨op, rfl, hm, q⟩ := h
  refine ⟨_, (pss_one (ps_ret (pe_kget2 (pe_gv (by rfl) gI) (pv 0) (pv 0)))), ?_⟩
  walk_at "ws"
  refine w_kget2 ?_
  walk_at "ws"
  refine ⟨_, rfl, ⟨_, _, none13 op hm⟩, ?_⟩
  walk_at "ws"
  exact ⟨op, none, rfl, none13 op hm, q⟩
end
end K21

open PySem.W
namespace K21
theorem w_bits {to : TE} {σ : L2.St} {H : Hp} {Q : VK} (q : to σ H fun x H1 => ∃ i, x = .int i ∧ Q (.int (Builtin.Int.intBits i : Nat)) H1) : tBits to σ H Q := q
theorem w_isNI {c : Int} {H : Hp} {Q : VK} (q : Q (.bl false) H) : rIsNQ (.int c) .non H Q := ⟨rfl, q⟩
theorem w_notNI {c : Int} {H : Hp} {Q : VK} (q : Q (.bl true) H) : rNotNQ (.int c) .non H Q := ⟨rfl, q⟩
local macro_rules | `(tactic| walk_at "w1") => `(tactic| first
  | ((with_reducible refine' w_ixTs ?hh ?ha ?_); (case hh => assumption); (case ha => exact rfl))
  | (with_reducible refine w_par ?_)
  | (with_reducible refine w_two ?_)
  | (with_reducible refine w_isNN ?_)
  | (with_reducible refine w_isNR ?_)
  | (with_reducible refine w_notNN ?_)
  | (with_reducible refine w_notNR ?_)
  | (with_reducible refine w_isNI ?_)
  | (with_reducible refine w_notNI ?_))
theorem sc_only_word : FnScope ["fact"] ["fact"] (defScope s_only_word) := ⟨rfl, rfl, rfl, by decide +kernel, rfl, by decide +kernel, by decide +kernel⟩
theorem sc_add : FnScope ["a", "b", "low_a", "high_a", "low_b", "high_b"] ["a", "b"] (defScope s_add) := ⟨rfl, rfl, rfl, by decide +kernel, rfl, by decide +kernel, by decide +kernel⟩
theorem sc_sub : FnScope ["a", "b", "low_a", "high_a", "low_b", "high_b"] ["a", "b"] (defScope s_sub) := ⟨rfl, rfl, rfl, by decide +kernel, rfl, by decide +kernel, by decide +kernel⟩
theorem sc_and : FnScope ["a", "b", "word", "bits", "k"] ["a", "b"] (defScope s_and) := ⟨rfl, rfl, rfl, by decide +kernel, rfl, by decide +kernel, by decide +kernel⟩
theorem sc_sums : FnScope ["bits", "found", "bit", "word"] ["bits"] (defScope s_sums) := ⟨rfl, rfl, rfl, by decide +kernel, rfl, by decide +kernel, by decide +kernel⟩
theorem sc_or : FnScope ["a", "b", "high"] ["a", "b"] (defScope s_or) := ⟨rfl, rfl, rfl, by decide +kernel, rfl, by decide +kernel, by decide +kernel⟩
theorem sc_shr : FnScope ["a", "b", "word", "low", "high"] ["a", "b"] (defScope s_shr) := ⟨rfl, rfl, rfl, by decide +kernel, rfl, by decide +kernel, by decide +kernel⟩
theorem sc_shl : FnScope ["a", "b", "word", "low", "high"] ["a", "b"] (defScope s_shl) := ⟨rfl, rfl, rfl, by decide +kernel, rfl, by decide +kernel, by decide +kernel⟩
theorem sc_divu : FnScope ["a", "b", "word", "low", "high"] ["a", "b"] (defScope s_divu) := ⟨rfl, rfl, rfl, by decide +kernel, rfl, by decide +kernel, by decide +kernel⟩
theorem sc_remu : FnScope ["a", "b", "word", "low", "high"] ["a", "b"] (defScope s_remu) := ⟨rfl, rfl, rfl, by decide +kernel, rfl, by decide +kernel, by decide +kernel⟩
theorem sc_less : FnScope ["a", "b"] ["a", "b"] (defScope s_less) := ⟨rfl, rfl, rfl, by decide +kernel, rfl, by decide +kernel, by decide +kernel⟩
def wordOf : Fa → Option Int
  | .row [w] => some w
  | _ => none
def ov : Option Int → V
  | some w => .int w
  | none => .non
def spOnly (K : PySem.W.Frag) : Sp := fun vs H Q _ => ∃ v F, vs = [v] ∧ FaAt K H v F ∧ Q (ov (wordOf F)) H
def spRule (K : PySem.W.Frag) (r : Fa → Fa → Fa) : Sp := fun vs H Q _ => ∃ v u F G, vs = [v, u] ∧ FaAt K H v F ∧ FaAt K H u G ∧ F.Good ∧ G.Good ∧ ∀ x H', Same H H' → FaAt K H' x (r F G) → Q x H'
def rAdd (F G : Fa) : Fa := if F.hi + G.hi ≤ 4294967295 then spanF (F.lo + G.lo) (F.hi + G.hi) else .all
def rSub (F G : Fa) : Fa := if G.hi ≤ F.lo then spanF (F.lo - G.hi) (F.hi - G.lo) else .all
def rLess (_ _ : Fa) : Fa := .row [0, 1]
def rShr (F G : Fa) : Fa := match wordOf G with
  | none => .all
  | some c => spanF (F.lo / 2 ^ (c % 32).toNat) (F.hi / 2 ^ (c % 32).toNat)
def rShl (F G : Fa) : Fa := match wordOf G with
  | none => .all
  | some c => if F.hi * 2 ^ (c % 32).toNat ≤ 4294967295 then spanF (F.lo * 2 ^ (c % 32).toNat) (F.hi * 2 ^ (c % 32).toNat) else .all
def rDivu (F G : Fa) : Fa := match wordOf G with
  | none => .all
  | some c => if c = 0 then .all else spanF (F.lo / c) (F.hi / c)
def rRemu (F G : Fa) : Fa := match wordOf G with
  | none => .all
  | some c => if c = 0 then .all else if F.hi < c then spanF F.lo F.hi else spanF 0 (c - 1)
def rOr (F G : Fa) : Fa := spanF 0 (1 * 2 ^ Builtin.Int.intBits (max F.hi G.hi) - 1)
theorem wordOf_lo {G : Fa} {c : Int} (h : wordOf G = some c) : G = .row [c] := by
  unfold wordOf at h
  split at h
  · cases h; rfl
  · cases h
def sums (bs : List Int) : List Int := bs.foldl (fun acc b => acc ++ acc.map (· + b)) [0]
theorem sums_snoc (bs : List Int) (b : Int) : sums (bs ++ [b]) = sums bs ++ (sums bs).map (· + b) := by
  unfold sums; rw [List.foldl_append]; rfl
theorem sums_len (bs : List Int) : (sums bs).length = 2 ^ bs.length := by
  suffices h : ∀ (n : Nat) (bs : List Int), bs.length = n → (sums bs).length = 2 ^ n from h _ bs rfl
  intro n
  induction n with
  | zero => intro bs h; rw [List.length_eq_zero_iff.mp h]; rfl
  | succ n ih =>
    intro bs h
    obtain ⟨l, b, rfl⟩ : ∃ l b, bs = l ++ [b] := ⟨bs.dropLast, bs.getLast (by intro z; rw [z] at h; simp at h), (List.dropLast_concat_getLast _).symm⟩
    rw [sums_snoc, List.length_append, List.length_map, ih l (by simpa using h), Nat.pow_succ]
    omega
def spSums : Sp := fun vs H Q _ => ∃ (l : Addr) (bs : List Int), vs = [.ref l] ∧ H l = some (.lst (bs.map V.int)) ∧ bs.length ≤ 4 ∧ ∀ p H', Same H H' → H' p = some (.lst ((sums bs).map V.int)) → Q (.ref p) H'
def bitOn (c : Int) (j : Nat) : Bool := decide (c / 2 ^ j % 2 = 1)
def bitsK (c : Int) (k : Nat) : List Int := ((List.range k).filter (bitOn c)).map fun j => (2 : Int) ^ j
theorem bitsK_succ (c : Int) (k : Nat) : bitsK c (k + 1) = bitsK c k ++ (if bitOn c k = true then [(2 : Int) ^ k] else []) := by
  unfold bitsK
  rw [List.range_succ, List.filter_append, List.map_append]
  congr 1
  cases h : bitOn c k <;> simp [h]
theorem bitAnd1 (x : Int) : Builtin.bitAnd x 1 = x % 2 := by
  have := PySem.W.kbt_mask x 1
  simpa using this
def rAnd (F G : Fa) : Fa := match wordOf G with
  | some c => if (bitsK c 32).length ≤ 4 then .row (sums (bitsK c 32)) else spanF 0 (min F.hi G.hi)
  | none => spanF 0 (min F.hi G.hi)
theorem intBits_spec {x : Int} (h0 : 0 ≤ x) : x < 2 ^ Builtin.Int.intBits x ∧ ∀ k : Nat, x < 2 ^ k → Builtin.Int.intBits x ≤ k := by
  obtain ⟨n, rfl⟩ := Int.eq_ofNat_of_zero_le h0
  unfold Builtin.Int.intBits
  by_cases hn : n = 0
  · subst hn; exact ⟨by decide, fun k _ => Nat.zero_le _⟩
  · have e : (((n : Int) == 0) = true) = False := by simp [hn]
    rw [if_neg (by simp [hn])]
    rw [Int.natAbs_natCast]
    refine ⟨?_, fun k hk => ?_⟩
    · have := Nat.lt_log2_self (n := n)
      exact_mod_cast this
    · have hk' : n < 2 ^ k := by exact_mod_cast hk
      exact (Nat.log2_lt hn).mpr hk'
theorem intBits_le {x : Int} (h0 : 0 ≤ x) (h1 : x < 4294967296) : Builtin.Int.intBits x ≤ 32 := (intBits_spec h0).2 32 h1
section
variable {P : Program} {w : World} {K : PySem.W.Frag} {mg : Str → Option Value} {base : Heap}
theorem w_bnds {v : V} {F : Fa} {H : Hp} {Q : VK} {E : XK} (hF : FaAt K H v F) (g : F.Good) (q : ∀ p H', H p = none → Same H H' → H' p = some (.tup [.int F.lo, .int F.hi]) → Q (.ref p) H') : spBounds K [v] H Q E := ⟨v, F, rfl, hF, g.ne, q⟩
theorem ok_only_word (b_len : mg "len" = none) (c_is_row_fact : Cd P w K mg base 1 "is_row_fact" (spIsRow K)) (Z : St1 K mg "only_word" s_only_word ["fact"]) : Cd P w K mg base 2 "only_word" (spOnly K) := by
  refine Z.cd sc_only_word (fun vs H Q E h => by obtain ⟨v, F, rfl, _⟩ := h; rfl) (fun f cdv A outer s H vs Q E hr h => ?_)
  obtain ⟨v, F, rfl, hF, q⟩ := h
  refine ⟨_, (pss_one (ps_ret (pe_ifExp (PW.pt (pw_and (pt_val (pe_cd c_is_row_fact hr (by first | decide | omega) (by rfl) (pa_cons (pv 0) pa_nil))) (pw_and1 (pt_cmpR op_eq (pe_callB call_lenQ (by rfl) b_len PySem.boot_len (pa_cons (pe_ix ix_tup (pv 0) pe_int (fun _ _ => rfl)) pa_nil)) pe_int (nomark _))))) (pe_ix ix_tup (pe_ix ix_tup (pv 0) pe_int (fun _ _ => rfl)) pe_int (fun _ _ => rfl)) pe_non))), ?_⟩
  walk_at "ws"
  refine ⟨v, F, rfl, hF, ?_⟩
  cases F with
  | all => walk_at "wd"; exact q
  | rng lo hi => walk_at "wd"; exact q
  | row ws =>
    obtain ⟨a, b, rfl, h1, h2⟩ := hF
    rw [show Fa.isRow (.row ws) = true from rfl]
    walk_at "wd"
    refine w_lenTs h2 ?_
    walk_at "ws"
    rw [List.length_map]
    refine w_dec (fun e => ?_) (fun e => ?_)
    · match ws, e with
      | [x], _ =>
        walk_at "wd"
        exact q
    · walk_at "ws"
      have : wordOf (.row ws) = none := by
        unfold wordOf
        split
        · rename_i z; cases z; exact absurd rfl e
        · rfl
      rw [this] at q
      exact q
theorem or_add {fa : Addr} (g_MASK : GV mg "MASK" (.int 4294967295)) (c_bounds : Cd P w K mg base 1 "bounds" (spBounds K)) (c_span : Cd P w K mg base 1 "span" (spSpan K)) (Z : StF K "_add" s_add ["a", "b"] fa) : Held P w K mg base 3 fa (spRule K rAdd) := by
  refine Z.cd sc_add (fun vs H Q E h => by obtain ⟨v, u, F, G, rfl, _⟩ := h; rfl) (fun f cdv A outer s H vs Q E hr h => ?_)
  obtain ⟨v, u, F, G, rfl, hF, hG, gF, gG, q⟩ := h
  refine ⟨_, (pss_cons (ps_asg (pe_cd c_bounds hr (by first | decide | omega) (by rfl) (pa_cons (pv 0) pa_nil)) (pg_tup rfl (pgs_cons (pg_name (i := 2) sc_add.nd rfl (.inl rfl)) (pgs_cons (pg_name (i := 3) sc_add.nd rfl (.inl rfl)) pgs_nil))))
      (pss_cons (ps_asg (pe_cd c_bounds hr (by first | decide | omega) (by rfl) (pa_cons (pv 1) pa_nil)) (pg_tup rfl (pgs_cons (pg_name (i := 4) sc_add.nd rfl (.inl rfl)) (pgs_cons (pg_name (i := 5) sc_add.nd rfl (.inl rfl)) pgs_nil))))
      (pss_one (ps_ret (pe_ifExp (pt_cmpR op_le (pe_op op_add (pv 3) (pv 5)) (pe_gv (by rfl) g_MASK) (nomark _)) (pe_cd c_span hr (by first | decide | omega) (by rfl) (pa_cons (pe_op op_add (pv 2) (pv 4)) (pa_cons (pe_op op_add (pv 3) (pv 5)) pa_nil))) pe_non))))), ?_⟩
  walk_at "ws"
  refine w_bnds hF gF fun p H1 np s1 hp => ?_
  walk_at "ws"
  refine w_bnds (hG.same s1) gG fun p2 H2 np2 s2 hp2 => ?_
  walk_at "ws"
  unfold rAdd at q
  refine w_dec (fun e => ?_) (fun e => ?_)
  · rw [if_pos e] at q
    walk_at "ws"
    exact ⟨_, _, rfl, fun x H3 s3 hx => q x H3 (s1.trans (s2.trans s3)) hx⟩
  · rw [if_neg e] at q
    walk_at "ws"
    exact q _ _ (s1.trans s2) rfl
theorem or_sub {fa : Addr} (c_bounds : Cd P w K mg base 1 "bounds" (spBounds K)) (c_span : Cd P w K mg base 1 "span" (spSpan K)) (Z : StF K "_sub" s_sub ["a", "b"] fa) : Held P w K mg base 3 fa (spRule K rSub) := by
  refine Z.cd sc_sub (fun vs H Q E h => by obtain ⟨v, u, F, G, rfl, _⟩ := h; rfl) (fun f cdv A outer s H vs Q E hr h => ?_)
  obtain ⟨v, u, F, G, rfl, hF, hG, gF, gG, q⟩ := h
  refine ⟨_, (pss_cons (ps_asg (pe_cd c_bounds hr (by first | decide | omega) (by rfl) (pa_cons (pv 0) pa_nil)) (pg_tup rfl (pgs_cons (pg_name (i := 2) sc_sub.nd rfl (.inl rfl)) (pgs_cons (pg_name (i := 3) sc_sub.nd rfl (.inl rfl)) pgs_nil))))
      (pss_cons (ps_asg (pe_cd c_bounds hr (by first | decide | omega) (by rfl) (pa_cons (pv 1) pa_nil)) (pg_tup rfl (pgs_cons (pg_name (i := 4) sc_sub.nd rfl (.inl rfl)) (pgs_cons (pg_name (i := 5) sc_sub.nd rfl (.inl rfl)) pgs_nil))))
      (pss_one (ps_ret (pe_ifExp (pt_cmpR op_ge (pv 2) (pv 5) (nomark _)) (pe_cd c_span hr (by first | decide | omega) (by rfl) (pa_cons (pe_op op_sub (pv 2) (pv 5)) (pa_cons (pe_op op_sub (pv 3) (pv 4)) pa_nil))) pe_non))))), ?_⟩
  walk_at "ws"
  refine w_bnds hF gF fun p H1 np s1 hp => ?_
  walk_at "ws"
  refine w_bnds (hG.same s1) gG fun p2 H2 np2 s2 hp2 => ?_
  walk_at "ws"
  unfold rSub at q
  refine w_dec (fun e => ?_) (fun e => ?_)
  · rw [if_pos e] at q
    walk_at "ws"
    exact ⟨_, _, rfl, fun x H3 s3 hx => q x H3 (s1.trans (s2.trans s3)) hx⟩
  · rw [if_neg e] at q
    walk_at "ws"
    exact q _ _ (s1.trans s2) rfl
theorem or_less {fa : Addr} (Z : StF K "_less" s_less ["a", "b"] fa) : Held P w K mg base 3 fa (spRule K rLess) := by
  refine Z.cd sc_less (fun vs H Q E h => by obtain ⟨v, u, F, G, rfl, _⟩ := h; rfl) (fun f cdv A outer s H vs Q E hr h => ?_)
  obtain ⟨v, u, F, G, rfl, hF, hG, gF, gG, q⟩ := h
  refine ⟨_, (pss_one (ps_ret (pe_tup (pa_cons pe_str (pa_cons (pe_tup (pa_cons pe_int (pa_cons pe_int pa_nil))) pa_nil))))), ?_⟩
  walk_at "ws"
  refine w_kTup (by show 2 ≤ sizeLine; decide) fun p H1 np s1 hp => ?_
  walk_at "ws"
  refine w_kTup (by show 2 ≤ sizeLine; decide) fun p2 H2 np2 s2 hp2 => ?_
  exact q _ _ (s1.trans s2) ⟨p2, p, rfl, .of hp2, .of (s2 _ _ hp)⟩
theorem or_shr {fa : Addr} (c_bounds : Cd P w K mg base 1 "bounds" (spBounds K)) (c_span : Cd P w K mg base 1 "span" (spSpan K)) (c_only_word : Cd P w K mg base 2 "only_word" (spOnly K)) (Z : StF K "_shr" s_shr ["a", "b"] fa) : Held P w K mg base 3 fa (spRule K rShr) := by
  refine Z.cd sc_shr (fun vs H Q E h => by obtain ⟨v, u, F, G, rfl, _⟩ := h; rfl) (fun f cdv A outer s H vs Q E hr h => ?_)
  obtain ⟨v, u, F, G, rfl, hF, hG, gF, gG, q⟩ := h
  refine ⟨_, (pss_cons (ps_set (i := 2) sc_shr.nd rfl (.inl rfl) (pe_cd c_only_word hr (by first | decide | omega) (by rfl) (pa_cons (pv 1) pa_nil)))
      (pss_cons (ps_if (pt_cmpR op_isNQ (pv 2) pe_non (nomark _)) (pss_one (ps_ret pe_non)) pss_nil)
      (pss_cons (ps_asg (pe_cd c_bounds hr (by first | decide | omega) (by rfl) (pa_cons (pv 0) pa_nil)) (pg_tup rfl (pgs_cons (pg_name (i := 3) sc_shr.nd rfl (.inl rfl)) (pgs_cons (pg_name (i := 4) sc_shr.nd rfl (.inl rfl)) pgs_nil))))
      (pss_one (ps_ret (pe_cd c_span hr (by first | decide | omega) (by rfl) (pa_cons (pe_op op_shr (pv 3) (pe_op op_and (pv 2) pe_int)) (pa_cons (pe_op op_shr (pv 4) (pe_op op_and (pv 2) pe_int)) pa_nil)))))))), ?_⟩
  walk_at "ws"
  refine ⟨u, G, rfl, hG, ?_⟩
  unfold rShr at q
  cases eg : wordOf G with
  | none =>
    rw [eg] at q
    dsimp only at q
    dsimp only [ov]
    walk_at "wd"
    exact q _ _ (fun _ _ e => e) rfl
  | some c =>
    rw [eg] at q
    dsimp only at q
    obtain rfl := wordOf_lo eg
    have hc : W32 c := gG.2.2.1 c (by simp)
    have gb := gF.bnd
    dsimp only [ov]
    walk_at "wd"
    refine w_bnds hF gF fun p H1 np s1 hp => ?_
    walk_at "ws"
    rw [bitAnd_m5]
    have m0 : 0 ≤ c % 32 := Int.emod_nonneg _ (by decide)
    have m1 : c % 32 < 32 := Int.emod_lt_of_pos _ (by decide)
    walk_at "ws"
    rw [bitAnd_m5]
    walk_at "ws"
    exact ⟨_, _, rfl, fun x H3 s3 hx => q x H3 (s1.trans s3) hx⟩
theorem or_shl {fa : Addr} (g_MASK : GV mg "MASK" (.int 4294967295)) (c_bounds : Cd P w K mg base 1 "bounds" (spBounds K)) (c_span : Cd P w K mg base 1 "span" (spSpan K)) (c_only_word : Cd P w K mg base 2 "only_word" (spOnly K)) (Z : StF K "_shl" s_shl ["a", "b"] fa) : Held P w K mg base 3 fa (spRule K rShl) := by
  refine Z.cd sc_shl (fun vs H Q E h => by obtain ⟨v, u, F, G, rfl, _⟩ := h; rfl) (fun f cdv A outer s H vs Q E hr h => ?_)
  obtain ⟨v, u, F, G, rfl, hF, hG, gF, gG, q⟩ := h
  refine ⟨_, (pss_cons (ps_set (i := 2) sc_shl.nd rfl (.inl rfl) (pe_cd c_only_word hr (by first | decide | omega) (by rfl) (pa_cons (pv 1) pa_nil)))
      (pss_cons (ps_if (pt_cmpR op_isNQ (pv 2) pe_non (nomark _)) (pss_one (ps_ret pe_non)) pss_nil)
      (pss_cons (ps_asg (pe_cd c_bounds hr (by first | decide | omega) (by rfl) (pa_cons (pv 0) pa_nil)) (pg_tup rfl (pgs_cons (pg_name (i := 3) sc_shl.nd rfl (.inl rfl)) (pgs_cons (pg_name (i := 4) sc_shl.nd rfl (.inl rfl)) pgs_nil))))
      (pss_one (ps_ret (pe_ifExp (pt_cmpR op_le (pe_op op_shl (pv 4) (pe_op op_and (pv 2) pe_int)) (pe_gv (by rfl) g_MASK) (nomark _)) (pe_cd c_span hr (by first | decide | omega) (by rfl) (pa_cons (pe_op op_shl (pv 3) (pe_op op_and (pv 2) pe_int)) (pa_cons (pe_op op_shl (pv 4) (pe_op op_and (pv 2) pe_int)) pa_nil))) pe_non)))))), ?_⟩
  walk_at "ws"
  refine ⟨u, G, rfl, hG, ?_⟩
  unfold rShl at q
  cases eg : wordOf G with
  | none =>
    rw [eg] at q
    dsimp only at q
    dsimp only [ov]
    walk_at "wd"
    exact q _ _ (fun _ _ e => e) rfl
  | some c =>
    rw [eg] at q
    dsimp only at q
    obtain rfl := wordOf_lo eg
    have hc : W32 c := gG.2.2.1 c (by simp)
    have gb := gF.bnd
    dsimp only [ov]
    walk_at "wd"
    refine w_bnds hF gF fun p H1 np s1 hp => ?_
    walk_at "ws"
    rw [bitAnd_m5]
    have m0 : 0 ≤ c % 32 := Int.emod_nonneg _ (by decide)
    have m1 : c % 32 < 32 := Int.emod_lt_of_pos _ (by decide)
    refine w_I ⟨by omega, by omega, by show F.hi.natAbs < 18446744073709551616; omega⟩ ?_
    walk_at "ws"
    refine w_dec (fun e => ?_) (fun e => ?_)
    · rw [if_pos e] at q
      walk_at "ws"
      rw [bitAnd_m5]
      refine w_I ⟨by omega, by omega, by show F.lo.natAbs < 18446744073709551616; omega⟩ ?_
      walk_at "ws"
      rw [bitAnd_m5]
      refine w_I ⟨by omega, by omega, by show F.hi.natAbs < 18446744073709551616; omega⟩ ?_
      walk_at "ws"
      exact ⟨_, _, rfl, fun x H3 s3 hx => q x H3 (s1.trans s3) hx⟩
    · rw [if_neg e] at q
      walk_at "ws"
      exact q _ _ s1 rfl
theorem or_divu {fa : Addr} (c_bounds : Cd P w K mg base 1 "bounds" (spBounds K)) (c_span : Cd P w K mg base 1 "span" (spSpan K)) (c_only_word : Cd P w K mg base 2 "only_word" (spOnly K)) (Z : StF K "_divu" s_divu ["a", "b"] fa) : Held P w K mg base 3 fa (spRule K rDivu) := by
  refine Z.cd sc_divu (fun vs H Q E h => by obtain ⟨v, u, F, G, rfl, _⟩ := h; rfl) (fun f cdv A outer s H vs Q E hr h => ?_)
  obtain ⟨v, u, F, G, rfl, hF, hG, gF, gG, q⟩ := h
  refine ⟨_, (pss_cons (ps_set (i := 2) sc_divu.nd rfl (.inl rfl) (pe_cd c_only_word hr (by first | decide | omega) (by rfl) (pa_cons (pv 1) pa_nil)))
      (pss_cons (ps_if (PW.pt (pw_or (pt_cmpR op_isNQ (pv 2) pe_non (nomark _)) (pw_or1 (pt_cmpR op_eq (pv 2) pe_int (nomark _))))) (pss_one (ps_ret pe_non)) pss_nil)
      (pss_cons (ps_asg (pe_cd c_bounds hr (by first | decide | omega) (by rfl) (pa_cons (pv 0) pa_nil)) (pg_tup rfl (pgs_cons (pg_name (i := 3) sc_divu.nd rfl (.inl rfl)) (pgs_cons (pg_name (i := 4) sc_divu.nd rfl (.inl rfl)) pgs_nil))))
      (pss_one (ps_ret (pe_cd c_span hr (by first | decide | omega) (by rfl) (pa_cons (pe_op op_fdivW (pv 3) (pv 2)) (pa_cons (pe_op op_fdivW (pv 4) (pv 2)) pa_nil)))))))), ?_⟩
  walk_at "ws"
  refine ⟨u, G, rfl, hG, ?_⟩
  unfold rDivu at q
  cases eg : wordOf G with
  | none =>
    rw [eg] at q
    dsimp only at q
    dsimp only [ov]
    walk_at "wd"
    exact q _ _ (fun _ _ e => e) rfl
  | some c =>
    rw [eg] at q
    dsimp only at q
    obtain rfl := wordOf_lo eg
    have hc : W32 c := gG.2.2.1 c (by simp)
    have gb := gF.bnd
    dsimp only [ov]
    walk_at "wd"
    refine w_dec (fun e => ?_) (fun e => ?_)
    · rw [if_pos e] at q
      walk_at "ws"
      exact q _ _ (fun _ _ e => e) rfl
    · rw [if_neg e] at q
      walk_at "ws"
      refine w_bnds hF gF fun p H1 np s1 hp => ?_
      have c0 := hc.1
      have c1 := hc.2
      walk_at "ws"
      exact ⟨_, _, rfl, fun x H3 s3 hx => q x H3 (s1.trans s3) hx⟩
theorem or_remu {fa : Addr} (c_bounds : Cd P w K mg base 1 "bounds" (spBounds K)) (c_span : Cd P w K mg base 1 "span" (spSpan K)) (c_only_word : Cd P w K mg base 2 "only_word" (spOnly K)) (Z : StF K "_remu" s_remu ["a", "b"] fa) : Held P w K mg base 3 fa (spRule K rRemu) := by
  refine Z.cd sc_remu (fun vs H Q E h => by obtain ⟨v, u, F, G, rfl, _⟩ := h; rfl) (fun f cdv A outer s H vs Q E hr h => ?_)
  obtain ⟨v, u, F, G, rfl, hF, hG, gF, gG, q⟩ := h
  refine ⟨_, (pss_cons (ps_set (i := 2) sc_remu.nd rfl (.inl rfl) (pe_cd c_only_word hr (by first | decide | omega) (by rfl) (pa_cons (pv 1) pa_nil)))
      (pss_cons (ps_if (PW.pt (pw_or (pt_cmpR op_isNQ (pv 2) pe_non (nomark _)) (pw_or1 (pt_cmpR op_eq (pv 2) pe_int (nomark _))))) (pss_one (ps_ret pe_non)) pss_nil)
      (pss_cons (ps_asg (pe_cd c_bounds hr (by first | decide | omega) (by rfl) (pa_cons (pv 0) pa_nil)) (pg_tup rfl (pgs_cons (pg_name (i := 3) sc_remu.nd rfl (.inl rfl)) (pgs_cons (pg_name (i := 4) sc_remu.nd rfl (.inl rfl)) pgs_nil))))
      (pss_one (ps_ret (pe_ifExp (pt_cmpR op_lt (pv 4) (pv 2) (nomark _)) (pe_cd c_span hr (by first | decide | omega) (by rfl) (pa_cons (pv 3) (pa_cons (pv 4) pa_nil))) (pe_cd c_span hr (by first | decide | omega) (by rfl) (pa_cons pe_int (pa_cons (pe_op op_sub (pv 2) pe_int) pa_nil))))))))), ?_⟩
  walk_at "ws"
  refine ⟨u, G, rfl, hG, ?_⟩
  unfold rRemu at q
  cases eg : wordOf G with
  | none =>
    rw [eg] at q
    dsimp only at q
    dsimp only [ov]
    walk_at "wd"
    exact q _ _ (fun _ _ e => e) rfl
  | some c =>
    rw [eg] at q
    dsimp only at q
    obtain rfl := wordOf_lo eg
    have hc : W32 c := gG.2.2.1 c (by simp)
    have gb := gF.bnd
    dsimp only [ov]
    walk_at "wd"
    refine w_dec (fun e => ?_) (fun e => ?_)
    · rw [if_pos e] at q
      walk_at "ws"
      exact q _ _ (fun _ _ e => e) rfl
    · rw [if_neg e] at q
      walk_at "ws"
      refine w_bnds hF gF fun p H1 np s1 hp => ?_
      walk_at "ws"
      refine w_dec (fun e2 => ?_) (fun e2 => ?_)
      · rw [if_pos e2] at q
        walk_at "ws"
        exact ⟨_, _, rfl, fun x H3 s3 hx => q x H3 (s1.trans s3) hx⟩
      · rw [if_neg e2] at q
        walk_at "ws"
        exact ⟨_, _, rfl, fun x H3 s3 hx => q x H3 (s1.trans s3) hx⟩
theorem or_or {fa : Addr} (b_max : mg "max" = none) (c_bounds : Cd P w K mg base 1 "bounds" (spBounds K)) (c_span : Cd P w K mg base 1 "span" (spSpan K)) (Z : StF K "_or" s_or ["a", "b"] fa) : Held P w K mg base 3 fa (spRule K rOr) := by
  refine Z.cd sc_or (fun vs H Q E h => by obtain ⟨v, u, F, G, rfl, _⟩ := h; rfl) (fun f cdv A outer s H vs Q E hr h => ?_)
  obtain ⟨v, u, F, G, rfl, hF, hG, gF, gG, q⟩ := h
  refine ⟨_, (pss_cons (ps_set (i := 2) sc_or.nd rfl (.inl rfl) (pe_callB (call_max2 rfl) (by rfl) b_max (by decide +kernel) (pa_cons (pe_ix ix_tup (pe_cd c_bounds hr (by first | decide | omega) (by rfl) (pa_cons (pv 0) pa_nil)) pe_int (fun _ _ => rfl)) (pa_cons (pe_ix ix_tup (pe_cd c_bounds hr (by first | decide | omega) (by rfl) (pa_cons (pv 1) pa_nil)) pe_int (fun _ _ => rfl)) pa_nil))))
      (pss_one (ps_ret (pe_cd c_span hr (by first | decide | omega) (by rfl) (pa_cons pe_int (pa_cons (pe_op op_sub (pe_op op_shl pe_int (pe_bits (pv 2))) pe_int) pa_nil)))))), ?_⟩
  walk_at "ws"
  refine w_bnds hF gF fun p H1 np s1 hp => ?_
  walk_at "ws"
  refine w_bnds (hG.same s1) gG fun p2 H2 np2 s2 hp2 => ?_
  walk_at "ws"
  have mx : (if G.hi > F.hi then G.hi else F.hi) = max F.hi G.hi := by rw [Int.max_def]; split <;> split <;> omega
  refine ⟨_, _, rfl, ?_⟩
  rw [mx]
  have b1 := gF.bnd
  have b2 := gG.bnd
  have ib := intBits_le (x := max F.hi G.hi) (by omega) (by omega)
  walk_at "ws"
  refine w_bits ?_
  walk_at "ws"
  exact ⟨_, _, rfl, fun x H3 s3 hx => q x H3 (s1.trans (s2.trans s3)) hx⟩

theorem ok_sums (Z : St1 K mg "_sums" s_sums ["bits"]) : Cd P w K mg base 1 "_sums" spSums := by
  refine Z.cd sc_sums (fun vs H Q E h => by obtain ⟨l, bs, rfl, _⟩ := h; rfl) (fun f cdv A outer s H vs Q E hr h => ?_)
  obtain ⟨l, bs, rfl, hl, hz, q⟩ := h
  refine ⟨_, (pss_cons (ps_set (i := 1) sc_sums.nd rfl (.inl rfl) (pe_lst (pa_cons pe_int pa_nil)))
      (pss_cons (ps_for PassesOwn.never rfl (pi_list (pv 0)) (pg_name (i := 2) sc_sums.nd rfl (.inr rfl))
      (pss_one (ps_set (i := 1) sc_sums.nd rfl (.inl rfl) (pe_op op_cat (pv 1) (pe_lc (own := [("word", 3)]) rfl sc_sums.nd (pi_list (pv 1)) (blkOk_by (own := [("word", 3)]) (N := ["bits", "found", "bit", "word"]) (sc := (defScope s_sums)) (by decide +kernel)) (fun _ _ _ _ _ => (pg_name (i := 3) sc_sums.nd rfl (.inl rfl))) (fun _ _ _ _ _ => pts_nil) (fun _ _ _ _ _ => (pe_op op_add (pv 3) (pv 2))))))))
      (pss_one (ps_ret (pv 1))))), ?_⟩
  walk_at "ws"
  refine w_kLst (by show 1 ≤ sizeLine; decide) fun p0 H0 np0 s0 hp0 => ?_
  have hl0 := s0 _ _ hl
  walk_at "ws"
  refine w_forL (bs.map V.int) (fun i σ' H' => Same H0 H' ∧ ∃ (p : Addr) (x2 : Option V), H' p = some (.lst ((sums (bs.take i)).map V.int)) ∧ σ' = [some (.ref l), some (.ref p), x2, none]) (.of hl0) ⟨fun _ _ e => e, p0, none, hp0, rfl⟩ (fun i σ' H' _ h => .of (h.1 _ _ hl0)) (fun i x σ' H1 hx h => ?_) (fun σ' H1 h => ?_)
  · obtain ⟨s1, p, x2, hp, rfl⟩ := h
    obtain ⟨b, eb, rfl⟩ := map_get hx
    have hi := (List.getElem?_eq_some_iff.mp eb).1
    have ln : (sums (bs.take i)).length ≤ 16 := by
      rw [sums_len, List.length_take]
      exact Nat.le_trans (Nat.pow_le_pow_right (by decide) (show min i bs.length ≤ 4 by omega)) (by decide)
    walk_at "ws"
    refine w_lcL ((sums (bs.take i)).map V.int) (fun D j H' => H1 D = none ∧ Same H1 H' ∧ H' D = some (.lst ((((sums (bs.take i)).take j).map (· + b)).map V.int))) (.of hp) (fun D nD => ⟨nD, Same.new nD, upd_same⟩) (fun D j H' _ h => .of (h.2.1 _ _ hp)) (fun D j y H2 hy h => ?_) (fun D H2 nD h => ?_)
    · obtain ⟨nD, s2, hD⟩ := h
      obtain ⟨z, ez, rfl⟩ := map_get hy
      walk_at "ws"
      refine ⟨rfl, ?_⟩
      walk_at "ws"
      refine ⟨_, hD, by rw [List.length_map, List.length_map, List.length_take]; exact small1000 (by omega), nD, fun a o ha => ?_, ?_⟩
      · rw [upd_ne (ne_of_none ha nD)]; exact s2 _ _ ha
      · rw [upd_same, take_more ez, List.map_append, List.map_append]
        simp [Int.add_comm]
    · obtain ⟨_, s2, hD⟩ := h
      rw [List.length_map, List.take_length] at hD
      walk_at "ws"
      refine w_catL (s2 _ _ hp) hD (by rw [List.length_map, List.length_map, List.length_map]; exact Nat.le_trans (show _ ≤ 1000 by omega) (by decide)) fun p2 H3 np2 s3 hp2 => ?_
      walk_at "ws"
      refine ⟨s1.trans (s2.trans s3), p2, _, ?_, rfl⟩
      rw [hp2, take_more eb, sums_snoc, List.map_append]
  · obtain ⟨s1, p, x2, hp, rfl⟩ := h
    rw [List.length_map, List.take_length] at hp
    walk_at "ws"
    exact q p H1 (s0.trans s1) hp
theorem or_and {fa : Addr} (b_range : mg "range" = none) (b_len : mg "len" = none) (b_tuple : mg "tuple" = none) (b_min : mg "min" = none) (g_MOST : GV mg "MOST_ONE_BITS" (.int 4)) (c_bounds : Cd P w K mg base 1 "bounds" (spBounds K)) (c_span : Cd P w K mg base 1 "span" (spSpan K)) (c_only_word : Cd P w K mg base 2 "only_word" (spOnly K)) (c_sums : Cd P w K mg base 1 "_sums" spSums) (Z : StF K "_and" s_and ["a", "b"] fa) : Held P w K mg base 3 fa (spRule K rAnd) := by
  have g_MOST_ONE_BITS := g_MOST
  refine Z.cd sc_and (fun vs H Q E h => by obtain ⟨v, u, F, G, rfl, _⟩ := h; rfl) (fun f cdv A outer s H vs Q E hr h => ?_)
  obtain ⟨v, u, F, G, rfl, hF, hG, gF, gG, q⟩ := h
  refine ⟨_, (pss_cons (ps_set (i := 2) sc_and.nd rfl (.inr rfl) (pe_cd c_only_word hr (by first | decide | omega) (by rfl) (pa_cons (pv 1) pa_nil)))
      (Evl.pss_cut (ps_if (pt_cmpR op_notNQ (pv 2) pe_non (nomark _)) (pss_cons (ps_setLc (i := 3) (own := [("k", 4)]) rfl sc_and.nd rfl rfl (sw_true rfl rfl rfl (by decide +kernel)) (pi_range1 (by rfl) b_range (pa_cons pe_int pa_nil)) (blkOk_by (own := [("k", 4)]) (N := ["a", "b", "word", "bits", "k"]) (sc := (defScope s_and)) (by decide +kernel)) (fun _ _ _ _ _ => (pg_name (i := 4) sc_and.nd rfl (.inl rfl))) (fun _ _ _ _ _ => (pts_one (pt_cmpR op_eq (pe_op op_and (pe_op op_shr (pv 2) (pv 4)) pe_int) pe_int (nomark _)))) (fun _ _ _ _ _ => (pe_op op_shl pe_int (pv 4))))
      (pss_one (ps_if (pt_cmpR op_le (pe_callB call_lenQ (by rfl) b_len PySem.boot_len (pa_cons (pv 3) pa_nil)) (pe_gv (by rfl) g_MOST_ONE_BITS) (nomark _)) (pss_one (ps_ret (pe_tup (pa_cons pe_str (pa_cons (pe_callTy call_tupQ (by rfl) b_tuple (by decide +kernel) (pa_cons (pe_cd c_sums hr (by first | decide | omega) (by rfl) (pa_cons (pv 3) pa_nil)) pa_nil)) pa_nil))))) pss_nil))) pss_nil)
      (pss_one (ps_ret (pe_cd c_span hr (by first | decide | omega) (by rfl) (pa_cons pe_int (pa_cons (pe_callB (call_min2 rfl) (by rfl) b_min (by decide +kernel) (pa_cons (pe_ix ix_tup (pe_cd c_bounds hr (by first | decide | omega) (by rfl) (pa_cons (pv 0) pa_nil)) pe_int (fun _ _ => rfl)) (pa_cons (pe_ix ix_tup (pe_cd c_bounds hr (by first | decide | omega) (by rfl) (pa_cons (pv 1) pa_nil)) pe_int (fun _ _ => rfl)) pa_nil))) pa_nil))))))), ?_⟩
  have tail : (∀ c, wordOf G = some c → ¬ (bitsK c 32).length ≤ 4) → rAnd F G = spanF 0 (min F.hi G.hi) := by
    intro h
    unfold rAnd
    split
    · rename_i c e; rw [if_neg (h c e)]
    · rfl
  walk_at "ws"
  refine ⟨u, G, rfl, hG, ?_⟩
  walk_at "ws"
  refine Evl.q_cut (M := fun σ' H' => Same H H' ∧ (∀ c, wordOf G = some c → ¬ (bitsK c 32).length ≤ 4) ∧ ∃ x2 x3 x4 : Option V, σ' = [some v, some u, x2, x3, x4]) ?_ ?_
  · cases eg : wordOf G with
    | none =>
      dsimp only [ov]
      walk_at "ws"
      exact ⟨fun _ _ e => e, (fun c z => by cases z), _, _, _, rfl⟩
    | some c =>
      dsimp only [ov]
      obtain rfl := wordOf_lo eg
      have hc : W32 c := gG.2.2.1 c (by simp)
      walk_at "wd"
      refine w_lcR 32 (fun D i H' => H D = none ∧ Same H H' ∧ H' D = some (.lst ((bitsK c i).map V.int))) rfl ⟨by decide, by decide⟩ (fun D nD => ⟨nD, Same.new nD, upd_same⟩) (fun D i H' hi h => ?_) (fun D H' nD h => ?_)
      · obtain ⟨nD, s1, hD⟩ := h
        have ln : (bitsK c i).length ≤ i := by
          unfold bitsK
          rw [List.length_map]
          exact Nat.le_trans (List.length_filter_le ..) (by simp)
        have c0 := hc.1
        have c1 := hc.2
        walk_at "ws"
        refine ⟨rfl, ?_⟩
        walk_at "ws"
        rw [bitAnd1, Int.toNat_natCast]
        refine w_dec (fun e => ?_) (fun e => ?_)
        · have eb : bitOn c i = true := by unfold bitOn; rw [decide_eq_true_eq]; exact e
          walk_at "ws"
          refine ⟨_, hD, by rw [List.length_map]; exact small1000 (by omega), nD, fun a o ha => ?_, ?_⟩
          · rw [upd_ne (ne_of_none ha nD)]; exact s1 _ _ ha
          · rw [upd_same, bitsK_succ, eb, Int.toNat_natCast, Int.one_mul, if_pos rfl, List.map_append]
            rfl
        · have eb : bitOn c i = false := by unfold bitOn; rw [decide_eq_false_iff_not]; exact e
          exact ⟨nD, s1, by rw [bitsK_succ, eb, hD]; simp⟩
      · obtain ⟨_, s1, hD⟩ := h
        walk_at "ws"
        rw [List.length_map]
        refine w_dec (fun e => ?_) (fun e => ?_)
        · have e4 : (bitsK c 32).length ≤ 4 := by omega
          walk_at "ws"
          refine ⟨D, bitsK c 32, rfl, hD, e4, fun p H2 s2 hp => ?_⟩
          walk_at "ws"
          refine w_tupL (.of hp) fun p3 H3 np3 s3 hp3 => ?_
          walk_at "ws"
          refine w_kTup (by show 2 ≤ sizeLine; decide) fun p4 H4 np4 s4 hp4 => ?_
          refine q _ _ (s1.trans (s2.trans (s3.trans s4))) ?_
          have e : rAnd F (.row [c]) = .row (sums (bitsK c 32)) := by
            unfold rAnd wordOf
            dsimp only
            rw [if_pos e4]
          rw [e]
          exact ⟨p4, p3, rfl, .of hp4, .of (s4 _ _ hp3)⟩
        · walk_at "ws"
          refine ⟨s1, fun c' z => ?_, _, _, _, rfl⟩
          cases z
          omega
  · rintro σ' H1 ⟨s1, ht, x2, x3, x4, rfl⟩
    have e := tail ht
    rw [e] at q
    walk_at "ws"
    refine w_bnds (hF.same s1) gF fun p H2 np s2 hp => ?_
    walk_at "ws"
    refine w_bnds (hG.same (s1.trans s2)) gG fun p2 H3 np2 s3 hp2 => ?_
    walk_at "ws"
    refine ⟨_, _, rfl, ?_⟩
    have mn : (if G.hi < F.hi then G.hi else F.hi) = min F.hi G.hi := by rw [Int.min_def]; split <;> split <;> omega
    rw [mn]
    walk_at "ws"
    exact ⟨_, _, rfl, fun x H4 s4 hx => q x H4 (s1.trans (s2.trans (s3.trans s4))) hx⟩
end
end K21

open PySem.W
namespace K21
local macro_rules | `(tactic| walk_at "w1") => `(tactic| first
  | ((with_reducible refine' w_ixTs ?hh ?ha ?_); (case hh => assumption); (case ha => exact rfl))
  | (with_reducible refine w_isNN ?_)
  | (with_reducible refine w_isNR ?_)
  | (with_reducible refine w_notNN ?_)
  | (with_reducible refine w_notNR ?_))
theorem sc_result : FnScope ["op", "a", "b", "rule", "x", "y"] ["op", "a", "b"] (defScope s_result) := ⟨rfl, rfl, rfl, by decide +kernel, rfl, by decide +kernel, by decide +kernel⟩
def rAll (_ _ : Fa) : Fa := .all
def tabR : List (Str × (Int → Int → Int) × (Fa → Fa → Fa)) := [("add", dAdd, rAdd), ("sub", dSub, rSub), ("mul", dMul, rAll), ("and", dAnd, rAnd), ("or", dOr, rOr), ("xor", dXor, rOr), ("shl", dShl, rShl), ("shr", dShr, rShr), ("sar", dSar, rAll), ("slt", dSlt, rLess), ("sltu", dSltu, rLess), ("divu", dDivu, rDivu), ("remu", dRemu, rRemu)]
theorem w_tin {wi : TI} {g : TG} {tt : TT} {tb : TBd} {vs : List Nat} {σ : L2.St} {H : Hp} {Z : Hp → Prop} (q : wi σ H (tLp g tt tb vs σ Z)) : tIn wi g tt tb vs σ H Z := q
theorem w_tadd {w : World} {D : Addr} {te : TE} {σ : L2.St} {H : Hp} {Z : Hp → Prop} (q : te σ H fun y H4 => ∃ (c : Int) (S : Int → Bool) (n : Nat), y = .int c ∧ H4 D = some (SetO w D S n) ∧ n + 1 < scanBound ∧ Z (upd H4 D (SetO w D (fun j => S j || decide (j = c)) (if S c = true then n else n + 1)))) : tAdd w D te σ H Z := q
theorem tabR_13 {op : Str} {g : Int → Int → Int} {r : Fa → Fa → Fa} (h : (op, g, r) ∈ tabR) : (op, g) ∈ tab13 := by
  have e : tab13 = tabR.map fun p => (p.1, p.2.1) := rfl
  rw [e]
  exact List.mem_map.mpr ⟨_, h, rfl⟩
def pairsG {α : Type} (g : Int → Int → α) (ws bs : List Int) : List α := ws.flatMap fun x => bs.map (g x)
theorem pairsG_len {α : Type} (g : Int → Int → α) (ws bs : List Int) : (pairsG g ws bs).length = ws.length * bs.length := by
  induction ws with
  | nil => simp [pairsG]
  | cons x r ih =>
    have : pairsG g (x :: r) bs = bs.map (g x) ++ pairsG g r bs := rfl
    rw [this, List.length_append, List.length_map, ih, List.length_cons, Nat.succ_mul, Nat.add_comm]
theorem pairsG_snoc {α : Type} (g : Int → Int → α) (ws bs : List Int) (x : Int) : pairsG g (ws ++ [x]) bs = pairsG g ws bs ++ bs.map (g x) := by
  unfold pairsG; simp
def ResR (g : Int → Int → Int) (r : Fa → Fa → Fa) (F G R : Fa) : Prop := match F, G with
  | .row ws, .row bs => if ws.length * bs.length ≤ 64 then ∃ ms : List Int, ms.Pairwise (· < ·) ∧ (∀ k, k ∈ ms ↔ k ∈ pairsG g ws bs) ∧ R = factOf ms else R = r F G
  | _, _ => R = r F G
def spResult (K : PySem.W.Frag) : Sp := fun vs H Q _ => ∃ (op : Str) (g : Int → Int → Int) (r : Fa → Fa → Fa) (v u : V) (F G : Fa), vs = [.str op, v, u] ∧ (op, g, r) ∈ tabR ∧ FaAt K H v F ∧ FaAt K H u G ∧ F.Good ∧ G.Good ∧ ∀ x R H', ResR g r F G R → Same H H' → FaAt K H' x R → Q x H'
section
variable {P : Program} {w : World} {K : PySem.W.Frag} {mg : Str → Option Value} {base : Heap}
theorem ok_result {RU : Addr} (b_len : mg "len" = none) (b_sorted : mg "sorted" = none) (gRU : GV mg "RULES" (.ref RU)) (g_MOST_PAIRS : GV mg "MOST_PAIRS" (.int 64)) (rules : ∀ p ∈ tabR, (p.2.2 = rAll ∧ KGet K w RU p.1 none) ∨ ∃ f, KGet K w RU p.1 (some (.ref f)) ∧ Held P w K mg base 3 f (spRule K p.2.2))
    (c_is_row_fact : Cd P w K mg base 1 "is_row_fact" (spIsRow K)) (c_compute : Cd P w K mg base 3 "compute" spComp) (c_fact_of_words : Cd P w K mg base 2 "_fact_of_words" (spFactOf K)) (c_plain_op : Cd P w K mg base 1 "plain_op" spPlain) (Z : St1 K mg "result" s_result ["op", "a", "b"]) : Cd P w K mg base 4 "result" (spResult K) := by
  refine Z.cd sc_result (fun vs H Q E h => by obtain ⟨op, g, r, v, u, F, G, rfl, _⟩ := h; rfl) (fun f cdv A outer s H vs Q E hr h => ?_)
  obtain ⟨op, g, r, v, u, F, G, rfl, hm, hF, hG, gF, gG, q⟩ := h
  refine ⟨_, (Evl.pss_cut (ps_if (PW.pt (pw_and (pt_val (pe_cd c_is_row_fact hr (by first | decide | omega) (by rfl) (pa_cons (pv 1) pa_nil))) (pw_and (pt_val (pe_cd c_is_row_fact hr (by first | decide | omega) (by rfl) (pa_cons (pv 2) pa_nil))) (pw_and1 (pt_cmpR op_le (pe_op op_mul (pe_callB call_lenQ (by rfl) b_len PySem.boot_len (pa_cons (pe_ix ix_tup (pv 1) pe_int (fun _ _ => rfl)) pa_nil)) (pe_callB call_lenQ (by rfl) b_len PySem.boot_len (pa_cons (pe_ix ix_tup (pv 2) pe_int (fun _ _ => rfl)) pa_nil))) (pe_gv (by rfl) g_MOST_PAIRS) (nomark _)))))) (pss_one (ps_ret (pe_cd c_fact_of_words hr (by first | decide | omega) (by rfl) (pa_cons (pe_callB (cr_sortedB rfl) (by rfl) b_sorted (by decide +kernel) (pa_cons (pe_sci2 (own := [("x", 4), ("y", 5)]) (vs1 := [5]) rfl sc_result.nd (pi_tup (pe_ix ix_tup (pv 1) pe_int (fun _ _ => rfl))) (blkOk_by (own := [("x", 4), ("y", 5)]) (N := ["op", "a", "b", "rule", "x", "y"]) (sc := (defScope s_result)) (by decide +kernel)) (by decide) (fun _ _ _ _ _ => (pg_name (i := 4) sc_result.nd rfl (.inl rfl))) (fun _ _ _ _ _ => pts_nil) (fun _ _ _ _ _ => (pi_tupK (K' := K) (by rfl) (pe_ix (ix_tupK (K' := K) (by rfl)) (pv 2) pe_int (fun _ _ => rfl)))) (fun _ _ _ _ _ => (pg_name (i := 5) sc_result.nd rfl (.inl rfl))) (fun _ _ _ _ _ => pts_nil) (fun _ _ _ _ _ => (pe_cd c_compute hr (by first | decide | omega) (by rfl) (pa_cons (pv 0) (pa_cons (pv 4) (pa_cons (pv 5) pa_nil)))))) pa_nil)) pa_nil)))) pss_nil)
      (pss_cons (ps_set (i := 3) sc_result.nd rfl (.inl rfl) (pe_kget1 (pe_gv (by rfl) gRU) (pe_cd c_plain_op hr (by decide) (by rfl) (pa_cons (pv 0) pa_nil))))
      (pss_one (ps_ret (pe_ifExp (pt_cmpR op_isNQ (pv 3) pe_non (nomark _)) pe_non (pe_callZ (i := 3) hr rfl (Or.inl rfl) (pa_cons (pv 1) (pa_cons (pv 2) pa_nil)))))))), ?_⟩
  walk_at "ws"
  refine Evl.q_cut (M := fun σ' H' => Same H H' ∧ (∀ R, R = r F G → ResR g r F G R) ∧ σ' = [some (.str op), some v, some u, none, none, none]) ?_ ?_
  · walk_at "ws"
    refine ⟨v, F, rfl, hF, ?_⟩
    cases hFr : F.isRow with
    | false =>
      walk_at "ws"
      refine ⟨fun _ _ e => e, fun R e => ?_, rfl⟩
      unfold ResR
      cases F <;> first | exact e | cases hFr
    | true =>
      obtain ⟨ws, rfl⟩ := isRow_of hFr
      obtain ⟨a, b, rfl, h1, h2⟩ := id hF
      walk_at "ws"
      refine ⟨u, G, rfl, hG, ?_⟩
      cases hGr : G.isRow with
      | false =>
        walk_at "ws"
        refine ⟨fun _ _ e => e, fun R e => ?_, rfl⟩
        unfold ResR
        cases G <;> first | exact e | cases hGr
      | true =>
        obtain ⟨bs, rfl⟩ := isRow_of hGr
        obtain ⟨a', b', rfl, h1', h2'⟩ := id hG
        walk_at "ws"
        refine w_lenTs h2 ?_
        walk_at "ws"
        refine w_lenTs h2' ?_
        walk_at "ws"
        rw [List.length_map, List.length_map]
        have lw := gF.l16 ws rfl
        have lb := gG.l16 bs rfl
        walk_at "ws"
        refine w_dec (fun e => ?_) (fun e => ?_)
        · have e64 : ws.length * bs.length ≤ 64 := by exact_mod_cast e
          walk_at "ws"
          refine ⟨b, rfl, ⟨_, h2⟩, fun D nD => ?_⟩
          refine w_lpT (ws.map V.int) (fun i H' => Same H H' ∧ ∃ c, c ≤ i * bs.length ∧ H' D = some (SetO w D (fun j => decide (j ∈ pairsG g (ws.take i) bs)) c)) ⟨Same.new nD, 0, Nat.zero_le _, ?_⟩ (fun i H' h => h.1.sqT h2) (fun i x H1 hx h => ?_) (fun H1 h => ?_)
          · rw [upd_same]; rfl
          · obtain ⟨s1, c, hc, hD⟩ := h
            obtain ⟨z, ez, rfl⟩ := map_get hx
            have hi := (List.getElem?_eq_some_iff.mp ez).1
            have wz := gF.2.2.1 z (List.mem_of_getElem? ez)
            have mi : i * bs.length ≤ 16 * 16 := Nat.mul_le_mul (by omega) lb
            walk_at "ws"
            refine ⟨rfl, ?_⟩
            walk_at "ws"
            have h3 := s1.sqT h2'
            have h1s := s1.sqT h1'
            refine w_tin ?_
            walk_at "ws"
            refine ⟨b', rfl, ⟨_, h3⟩, ?_⟩
            refine w_lpT (bs.map V.int) (fun j H' => Same H H' ∧ ∃ c, c ≤ i * bs.length + j ∧ H' D = some (SetO w D (fun k => decide (k ∈ pairsG g (ws.take i) bs ++ (bs.take j).map (g z))) c)) ⟨s1, c, hc, ?_⟩ (fun j H' h => h.1.sqT h2') (fun j y H2 hy h => ?_) (fun H2 h => ?_)
            · rw [hD]; simp
            · obtain ⟨s2, c2, hc2, hD2⟩ := h
              obtain ⟨y', ey, rfl⟩ := map_get hy
              have hj := (List.getElem?_eq_some_iff.mp ey).1
              have wy := gG.2.2.1 y' (List.mem_of_getElem? ey)
              walk_at "ws"
              refine ⟨rfl, ?_⟩
              walk_at "ws"
              refine w_tadd ?_
              walk_at "ws"
              refine ⟨op, g, z, y', rfl, List.mem_append_left _ (tabR_13 hm), wz, wy, ?_⟩
              refine ⟨_, _, _, rfl, hD2, Nat.lt_of_le_of_lt (show c2 + 1 ≤ 300 by omega) (by decide), fun a o ha => ?_, if decide (g z y' ∈ pairsG g (ws.take i) bs ++ (bs.take j).map (g z)) = true then c2 else c2 + 1, by split <;> omega, ?_⟩
              · rw [upd_ne (ne_of_none ha nD)]; exact s2 _ _ ha
              · rw [upd_same]
                congr 3
                funext k
                rw [take_more ey, List.map_append, ← List.append_assoc, Bool.eq_iff_iff]
                simp [or_assoc]
            · obtain ⟨s2, c2, hc2, hD2⟩ := h
              rw [List.length_map] at hc2
              rw [List.length_map, List.take_length] at hD2
              exact ⟨s2, c2, by rw [Nat.succ_mul]; exact hc2, by rw [hD2, take_more ez, pairsG_snoc]⟩
          · obtain ⟨s1, c, hc, hD⟩ := h
            rw [List.length_map] at hc
            rw [List.length_map, List.take_length] at hD
            have mi : ws.length * bs.length ≤ 64 := e64
            walk_at "ws"
            refine w_sortedOfB hD (by omega) fun ms p H2 asc mem len np s2 hp => ?_
            walk_at "ws"
            have hne : pairsG g ws bs ≠ [] := by
              intro z
              have := pairsG_len g ws bs
              rw [z] at this
              have l1 : 0 < ws.length := List.length_pos_iff.mpr gF.1
              have l2 : 0 < bs.length := List.length_pos_iff.mpr gG.1
              have := Nat.mul_pos l1 l2
              simp at *
              omega
            have hmn : ms ≠ [] := by
              obtain ⟨k, hk⟩ := List.exists_mem_of_ne_nil _ hne
              exact List.ne_nil_of_mem ((mem k).mpr hk)
            refine ⟨p, ms, rfl, hp, hmn, by omega, fun x H3 s3 hx => ?_⟩
            refine q x (factOf ms) H3 ?_ (s1.trans (s2.trans s3)) hx
            unfold ResR
            dsimp only
            rw [if_pos e64]
            exact ⟨ms, asc, mem, rfl⟩
        · walk_at "ws"
          refine ⟨fun _ _ e => e, fun R e' => ?_, rfl⟩
          have e64 : ¬ ws.length * bs.length ≤ 64 := fun z => e (by exact_mod_cast z)
          unfold ResR
          dsimp only
          rw [if_neg e64]
          exact e'
  · rintro σ' H1 ⟨s1, hR, rfl⟩
    walk_at "ws"
    refine w_kget1 ?_
    have kk : ∃ o, KGet K w RU op o := by
      rcases rules _ hm with ⟨_, h⟩ | ⟨f, h, _⟩
      · exact ⟨_, h⟩
      · exact ⟨_, h⟩
    have h13 : op ∈ names13 := List.mem_map.mpr ⟨_, tabR_13 hm, rfl⟩
    refine ⟨RU, rfl, ⟨op, kk⟩, ?_⟩
    walk_at "ws"
    refine ⟨op, rfl, h13, ?_⟩
    rcases rules _ hm with ⟨hr, hk⟩ | ⟨f, hk, hf⟩
    · refine ⟨op, none, rfl, hk, ?_⟩
      dsimp only [Option.getD]
      walk_at "wd"
      refine q _ .all _ (hR _ ?_) s1 rfl
      rw [show r = rAll from hr]; rfl
    · refine ⟨op, some (.ref f), rfl, hk, ?_⟩
      dsimp only [Option.getD]
      walk_at "wd"
      refine w_callZ rfl hf ?_
      walk_at "ws"
      exact ⟨v, u, F, G, rfl, hF.same s1, hG.same s1, gF, gG, fun x H2 s2 hx => q x _ H2 (hR _ rfl) (s1.trans s2) hx⟩
end
end K21

open PySem.W
namespace K21
theorem map_getB {L : List Bool} {j : Nat} {y : V} (h : (L.map V.bl)[j]? = some y) : ∃ b, L[j]? = some b ∧ V.bl b = y := by
  rw [List.getElem?_map] at h
  exact Option.map_eq_some_iff.mp h
theorem w_in2S {K : PySem.W.Frag} {op x y : Str} {p : Addr} {H : Hp} {Q : VK} (h : SqT K H p [.str x, .str y]) (q : Q (.bl (!decide (op = x ∨ op = y))) H) : rIn K true (.str op) (.ref p) H Q :=
  ⟨p, _, rfl, .inr h, rfl, rfl, by
    have e : inV (.str op) [.str x, .str y] = decide (op = x ∨ op = y) := by
      rw [Bool.eq_iff_iff]
      simp [inV, eqV]
      exact ⟨fun h => h.imp Eq.symm Eq.symm, fun h => h.imp Eq.symm Eq.symm⟩
    rw [e]; exact q⟩
theorem w_eqB {a b : Bool} {H : Hp} {Q : VK} (q : Q (.bl (a == b)) H) : rEq (.bl a) (.bl b) H Q := ⟨rfl, by rw [dec_bl]; exact q⟩
local macro_rules | `(tactic| walk_at "w1") => `(tactic| first
  | ((with_reducible refine' w_ixTs ?hh ?ha ?_); (case hh => assumption); (case ha => exact rfl))
  | (with_reducible refine w_lc2 ?_)
  | (with_reducible refine w_eqB ?_))
theorem sc_decided : FnScope ["cond", "a", "b", "found", "low_a", "high_a", "low_b", "high_b", "x", "y", "outcome"] ["cond", "a", "b"] (defScope s_decided) := ⟨rfl, rfl, rfl, by decide +kernel, rfl, by decide +kernel, by decide +kernel⟩
def allSame (L : List Bool) : Option Bool := if L.all (fun b => b == L.headD false) = true then some (L.headD false) else none
def decF (op : Str) (g : Int → Int → Bool) (F G : Fa) : Option Bool := match F, G with
  | .row ws, .row bs => allSame (pairsG g ws bs)
  | F, G => if op = "bltu" ∨ op = "bgeu" then (if F.hi < G.lo then some (decide (op = "bltu")) else if G.hi ≤ F.lo then some (decide (op = "bgeu")) else none) else none
def vb : Option Bool → V
  | some b => .bl b
  | none => .non
def spDecided (K : PySem.W.Frag) : Sp := fun vs H Q _ => ∃ (op : Str) (g : Int → Int → Bool) (v u : V) (F G : Fa), vs = [.str op, v, u] ∧ (op, g) ∈ tab6 ∧ FaAt K H v F ∧ FaAt K H u G ∧ F.Good ∧ G.Good ∧ ∀ H', Same H H' → Q (vb (decF op g F G)) H'
def decB (op : Str) (F G : Fa) : Option Bool := if op = "bltu" ∨ op = "bgeu" then (if F.hi < G.lo then some (decide (op = "bltu")) else if G.hi ≤ F.lo then some (decide (op = "bgeu")) else none) else none
theorem decF_B {op : Str} {g : Int → Int → Bool} {F G : Fa} (h : ¬ (F.isRow = true ∧ G.isRow = true)) : decF op g F G = decB op F G := by
  unfold decF decB
  split
  · exact absurd ⟨rfl, rfl⟩ h
  · rfl
section
variable {P : Program} {w : World} {K : PySem.W.Frag} {mg : Str → Option Value} {base : Heap}
theorem ok_decided (b_all : mg "all" = none) (c_is_row_fact : Cd P w K mg base 1 "is_row_fact" (spIsRow K)) (c_bounds : Cd P w K mg base 1 "bounds" (spBounds K)) (c_holds : Cd P w K mg base 2 "holds" spHolds) (Z : St1 K mg "decided" s_decided ["cond", "a", "b"]) : Cd P w K mg base 3 "decided" (spDecided K) := by
  refine Z.cd sc_decided (fun vs H Q E h => by obtain ⟨op, g, v, u, F, G, rfl, _⟩ := h; rfl) (fun f cdv A outer s H vs Q E hr h => ?_)
  obtain ⟨op, g, v, u, F, G, rfl, hm, hF, hG, gF, gG, q⟩ := h
  refine ⟨_, (Evl.pss_cut (ps_if (PW.pt (pw_and (pt_val (pe_cd c_is_row_fact hr (by first | decide | omega) (by rfl) (pa_cons (pv 1) pa_nil))) (pw_and1 (pt_val (pe_cd c_is_row_fact hr (by first | decide | omega) (by rfl) (pa_cons (pv 2) pa_nil)))))) (pss_cons (ps_set (i := 3) sc_decided.nd rfl (.inr rfl) (pe_lc2 (own := [("x", 8), ("y", 9)]) (vs1 := [9]) rfl sc_decided.nd (pi_tup (pe_ix ix_tup (pv 1) pe_int (fun _ _ => rfl))) (blkOk_by (own := [("x", 8), ("y", 9)]) (N := ["cond", "a", "b", "found", "low_a", "high_a", "low_b", "high_b", "x", "y", "outcome"]) (sc := (defScope s_decided)) (by decide +kernel)) (by decide) (fun _ _ _ _ _ => (pg_name (i := 8) sc_decided.nd rfl (.inl rfl))) (fun _ _ _ _ _ => pts_nil) (fun _ _ _ _ _ => (pi_tupK (K' := K) (by rfl) (pe_ix (ix_tupK (K' := K) (by rfl)) (pv 2) pe_int (fun _ _ => rfl)))) (fun _ _ _ _ _ => (pg_name (i := 9) sc_decided.nd rfl (.inl rfl))) (fun _ _ _ _ _ => pts_nil) (fun _ _ _ _ _ => (pe_cd c_holds hr (by first | decide | omega) (by rfl) (pa_cons (pv 0) (pa_cons (pv 8) (pa_cons (pv 9) pa_nil)))))))
      (pss_one (ps_ret (pe_ifExp (pt_val (pe_callB (cr_all rfl) (by rfl) b_all (by decide +kernel) (pa_cons (pe_lc (own := [("outcome", 10)]) rfl sc_decided.nd (pi_list (pv 3)) (blkOk_by (own := [("outcome", 10)]) (N := ["cond", "a", "b", "found", "low_a", "high_a", "low_b", "high_b", "x", "y", "outcome"]) (sc := (defScope s_decided)) (by decide +kernel)) (fun _ _ _ _ _ => (pg_name (i := 10) sc_decided.nd rfl (.inl rfl))) (fun _ _ _ _ _ => pts_nil) (fun _ _ _ _ _ => (pe_cmpR op_eq (pv 10) (pe_ix (ix_listK (K' := K) (by rfl)) (pv 3) pe_int (fun _ _ => rfl)) (nomark _)))) pa_nil))) (pe_ix ix_list (pv 3) pe_int (fun _ _ => rfl)) pe_non)))) pss_nil)
      (Evl.pss_cut (ps_if (pt_cmpR op_notIn_seq (pv 0) (pe_tup (pa_cons pe_str (pa_cons pe_str pa_nil))) rfl) (pss_one (ps_ret pe_non)) pss_nil)
      (pss_cons (ps_asg (pe_cd c_bounds hr (by first | decide | omega) (by rfl) (pa_cons (pv 1) pa_nil)) (pg_tup rfl (pgs_cons (pg_name (i := 4) sc_decided.nd rfl (.inl rfl)) (pgs_cons (pg_name (i := 5) sc_decided.nd rfl (.inl rfl)) pgs_nil))))
      (pss_cons (ps_asg (pe_cd c_bounds hr (by first | decide | omega) (by rfl) (pa_cons (pv 2) pa_nil)) (pg_tup rfl (pgs_cons (pg_name (i := 6) sc_decided.nd rfl (.inl rfl)) (pgs_cons (pg_name (i := 7) sc_decided.nd rfl (.inl rfl)) pgs_nil))))
      (pss_cons (ps_if (pt_cmpR op_lt (pv 5) (pv 6) (nomark _)) (pss_one (ps_ret (pe_cmpR op_eq (pv 0) pe_str (nomark _)))) pss_nil)
      (pss_one (ps_ret (pe_ifExp (pt_cmpR op_ge (pv 4) (pv 7) (nomark _)) (pe_cmpR op_eq (pv 0) pe_str (nomark _)) pe_non)))))))), ?_⟩
  walk_at "ws"
  refine Evl.q_cut (M := fun σ' H' => H' = H ∧ ¬ (F.isRow = true ∧ G.isRow = true) ∧ σ' = [some (.str op), some v, some u] ++ List.replicate 8 none) ?_ ?_
  · walk_at "ws"
    refine ⟨v, F, rfl, hF, ?_⟩
    cases hFr : F.isRow with
    | false =>
      walk_at "ws"
      exact ⟨rfl, by simp, rfl⟩
    | true =>
      obtain ⟨ws, rfl⟩ := isRow_of hFr
      obtain ⟨a, b, rfl, h1, h2⟩ := id hF
      walk_at "ws"
      refine ⟨u, G, rfl, hG, ?_⟩
      cases hGr : G.isRow with
      | false =>
        walk_at "ws"
        exact ⟨rfl, by simp [hGr], rfl⟩
      | true =>
        obtain ⟨bs, rfl⟩ := isRow_of hGr
        obtain ⟨a', b', rfl, h1', h2'⟩ := id hG
        have lw := gF.l16 ws rfl
        have lb := gG.l16 bs rfl
        walk_at "ws"
        refine w_lc2T (ws.map V.int) (fun D i H' => H D = none ∧ Same H H' ∧ H' D = some (.lst ((pairsG g (ws.take i) bs).map V.bl))) h2 (fun D nD => ⟨nD, Same.new nD, upd_same⟩) (fun D i H' h => h.2.1.sqT h2) (fun D i x H1 hx h => ?_) (fun D H1 nD h => ?_)
        · obtain ⟨nD, s1, hD⟩ := h
          obtain ⟨z, ez, rfl⟩ := map_get hx
          have hi := (List.getElem?_eq_some_iff.mp ez).1
          have wz := gF.2.2.1 z (List.mem_of_getElem? ez)
          have mi : (pairsG g (ws.take i) bs).length ≤ 16 * 16 := by rw [pairsG_len, List.length_take]; exact Nat.mul_le_mul (by omega) lb
          walk_at "ws"
          refine ⟨rfl, ?_⟩
          have h1s := s1.sqT h1'
          have h3 := s1.sqT h2'
          walk_at "ws"
          refine w_in2T (bs.map V.int) (fun j H' => Same H H' ∧ H' D = some (.lst ((pairsG g (ws.take i) bs ++ (bs.take j).map (g z)).map V.bl))) h3 ⟨s1, by rw [hD]; simp⟩ (fun j H' h => h.1.sqT h2') (fun j y H2 hy h => ?_) (fun H2 h => ?_)
          · obtain ⟨s2, hD2⟩ := h
            obtain ⟨y', ey, rfl⟩ := map_get hy
            have hj := (List.getElem?_eq_some_iff.mp ey).1
            have wy := gG.2.2.1 y' (List.mem_of_getElem? ey)
            walk_at "ws"
            refine ⟨rfl, ?_⟩
            walk_at "ws"
            refine ⟨op, g, z, y', rfl, hm, wz, wy, ?_⟩
            refine ⟨_, hD2, by rw [List.length_map, List.length_append, List.length_map, List.length_take]; exact small1000 (by omega), fun a o ha => ?_, ?_⟩
            · rw [upd_ne (ne_of_none ha nD)]; exact s2 _ _ ha
            · rw [upd_same, take_more ey]; simp
          · obtain ⟨s2, hD2⟩ := h
            rw [List.length_map, List.take_length] at hD2
            exact ⟨nD, s2, by rw [hD2, take_more ez, pairsG_snoc]⟩
        · obtain ⟨_, s1, hD⟩ := h
          rw [List.length_map, List.take_length] at hD
          have mi : (pairsG g ws bs).length ≤ 16 * 16 := by rw [pairsG_len]; exact Nat.mul_le_mul lw lb
          walk_at "ws"
          have hd0 : pairsG g ws bs ≠ [] → atI ((pairsG g ws bs).map V.bl) 0 = some (.bl ((pairsG g ws bs).headD false)) := fun ne => by
            cases e : pairsG g ws bs with
            | nil => exact absurd e ne
            | cons x r => exact atI_nat (xs := (x :: r).map V.bl) (j := 0) rfl
          have hne : pairsG g ws bs ≠ [] := by
            intro z
            have := pairsG_len g ws bs
            rw [z] at this
            have l1 : 0 < ws.length := List.length_pos_iff.mpr gF.1
            have l2 : 0 < bs.length := List.length_pos_iff.mpr gG.1
            have := Nat.mul_pos l1 l2
            simp at *
            omega
          have hd0 := hd0 hne
          obtain ⟨L, eL⟩ : ∃ L, L = pairsG g ws bs := ⟨_, rfl⟩
          rw [← eL] at hD mi hd0 hne
          refine w_lcL (L.map V.bl) (fun E j H' => H1 E = none ∧ Same H1 H' ∧ H' E = some (.lst (((L.take j).map fun b => b == L.headD false).map V.bl))) (.of hD) (fun E nE => ⟨nE, Same.new nE, upd_same⟩) (fun E j H' _ h => .of (h.2.1 _ _ hD)) (fun E j y H2 hy h => ?_) (fun E H2 nE h => ?_)
          · obtain ⟨nE, s2, hE⟩ := h
            obtain ⟨b0, ey, rfl⟩ := map_getB hy
            have hj := (List.getElem?_eq_some_iff.mp ey).1
            have hD2 := s2 _ _ hD
            walk_at "ws"
            refine ⟨rfl, ?_⟩
            walk_at "ws"
            refine w_ixL hD2 hd0 ?_
            walk_at "ws"
            refine ⟨_, hE, by rw [List.length_map, List.length_map, List.length_take]; exact small1000 (by omega), nE, fun a o ha => ?_, ?_⟩
            · rw [upd_ne (ne_of_none ha nE)]; exact s2 _ _ ha
            · rw [upd_same, take_more ey]; simp
          · obtain ⟨_, s2, hE⟩ := h
            rw [List.length_map, List.take_length] at hE
            walk_at "ws"
            refine w_allB hE ?_
            have e1 : (L.map fun b => b == L.headD false).all id = L.all (fun b => b == L.headD false) := by rw [List.all_map]; rfl
            have eD : decF op g (.row ws) (.row bs) = allSame L := by rw [eL]; rfl
            rw [eD] at q
            unfold allSame at q
            rw [e1]
            cases ea : L.all (fun b => b == L.headD false) with
            | true =>
              rw [ea] at q
              walk_at "ws"
              refine w_ixL (s2 _ _ hD) hd0 ?_
              exact q _ (s1.trans s2)
            | false =>
              rw [ea] at q
              walk_at "ws"
              exact q _ (s1.trans s2)
  · rintro σ' H1 ⟨rfl, nr, rfl⟩
    have ed := decF_B (op := op) (g := g) nr
    rw [ed] at q
    dsimp only [List.replicate, List.cons_append, List.nil_append]
    have s0 : Same H1 H1 := fun _ _ e => e
    refine Evl.q_cut (M := fun σ' H' => Same H1 H' ∧ (op = "bltu" ∨ op = "bgeu") ∧ σ' = [some (.str op), some v, some u] ++ List.replicate 8 none) ?_ ?_
    · walk_at "ws"
      refine w_kTup (by show 2 ≤ sizeLine; decide) fun p H2 np s2 hp => ?_
      by_cases ho : op = "bltu" ∨ op = "bgeu"
      · refine w_in2S (.of hp) ?_
        rw [decide_eq_true ho]
        walk_at "ws"
        exact ⟨s2, ho, rfl⟩
      · refine w_in2S (.of hp) ?_
        rw [decide_eq_false ho]
        unfold decB at q
        rw [if_neg ho] at q
        walk_at "ws"
        exact q _ s2
    · rintro σ' H2 ⟨s2, ho, rfl⟩
      dsimp only [List.replicate, List.cons_append, List.nil_append]
      unfold decB at q
      rw [if_pos ho] at q
      walk_at "ws"
      refine w_bnds (hF.same s2) gF fun p H3 np s3 hp => ?_
      walk_at "ws"
      refine w_bnds (hG.same (s2.trans s3)) gG fun p2 H4 np2 s4 hp2 => ?_
      have st := s2.trans (s3.trans s4)
      walk_at "ws"
      refine w_dec (fun e => ?_) (fun e => ?_)
      · rw [if_pos e] at q
        walk_at "ws"
        exact q _ st
      · rw [if_neg e] at q
        walk_at "ws"
        refine w_dec (fun e2 => ?_) (fun e2 => ?_)
        · rw [if_pos e2] at q
          walk_at "ws"
          exact q _ st
        · rw [if_neg e2] at q
          walk_at "ws"
          exact q _ st
end
end K21

open PySem.W
namespace K21
local macro_rules | `(tactic| walk_at "w1") => `(tactic| first
  | ((with_reducible refine' w_ixTs ?hh ?ha ?_); (case hh => assumption); (case ha => exact rfl))
  | (with_reducible refine w_eqB ?_)
  | (with_reducible refine w_isNN ?_)
  | (with_reducible refine w_isNR ?_)
  | (with_reducible refine w_notNN ?_)
  | (with_reducible refine w_notNR ?_))
theorem sc_law_by_word : FnScope ["op", "lo", "hi", "c"] ["op", "lo", "hi", "c"] (defScope s_law_by_word) := ⟨rfl, rfl, rfl, by decide +kernel, rfl, by decide +kernel, by decide +kernel⟩
theorem sc_law_result : FnScope ["op", "a", "b", "rows", "found", "x", "low", "high", "lo", "hi", "words", "k", "y", "w"] ["op", "a", "b"] (defScope s_law_result) := ⟨rfl, rfl, rfl, by decide +kernel, rfl, by decide +kernel, by decide +kernel⟩
theorem sc_law_decided : FnScope ["op", "a", "b", "rows", "found", "x", "low", "high", "lo", "hi", "y"] ["op", "a", "b"] (defScope s_law_decided) := ⟨rfl, rfl, rfl, by decide +kernel, rfl, by decide +kernel, by decide +kernel⟩
def byW (op : Str) (lo hi c : Int) : Fa :=
  if op = "shr" then spanF (lo / 2 ^ (c % 32).toNat) (hi / 2 ^ (c % 32).toNat)
  else if op = "shl" ∧ hi * 2 ^ (c % 32).toNat < 4294967296 then spanF (lo * 2 ^ (c % 32).toNat) (hi * 2 ^ (c % 32).toNat)
  else if op = "divu" ∧ 0 < c then spanF (lo / c) (hi / c)
  else if op = "remu" ∧ 0 < c then if hi < c then spanF lo hi else spanF 0 (c - 1)
  else .all
def spByW (K : PySem.W.Frag) : Sp := fun vs H Q _ => ∃ (op : Str) (lo hi c : Int), vs = [.str op, .int lo, .int hi, .int c] ∧ op ∈ names13 ∧ W32 lo ∧ W32 hi ∧ W32 c ∧ ∀ x H', Same H H' → FaAt K H' x (byW op lo hi c) → Q x H'
theorem w_in2P {K : PySem.W.Frag} {op x y : Str} {p : Addr} {H : Hp} {Q : VK} (h : SqT K H p [.str x, .str y]) (q : Q (.bl (decide (op = x ∨ op = y))) H) : rIn K false (.str op) (.ref p) H Q :=
  ⟨p, _, rfl, .inr h, rfl, rfl, by
    have e : inV (.str op) [.str x, .str y] = decide (op = x ∨ op = y) := by
      rw [Bool.eq_iff_iff]
      simp [inV, eqV]
      exact ⟨fun h => h.imp Eq.symm Eq.symm, fun h => h.imp Eq.symm Eq.symm⟩
    rw [e]; exact q⟩
def rOf (op : Str) : Fa → Fa → Fa :=
  if op = "add" then rAdd else if op = "sub" then rSub else if op = "and" then rAnd else if op = "or" ∨ op = "xor" then rOr else if op = "slt" ∨ op = "sltu" then rLess
  else if op = "shl" then rShl else if op = "shr" then rShr else if op = "divu" then rDivu else if op = "remu" then rRemu else rAll
theorem tabR_of {op : Str} {g : Int → Int → Int} {r : Fa → Fa → Fa} (h : (op, g, r) ∈ tabR) : r = rOf op := by
  simp only [tabR, List.mem_cons, Prod.mk.injEq, List.not_mem_nil, or_false] at h
  rcases h with ⟨rfl, rfl, rfl⟩ | ⟨rfl, rfl, rfl⟩ | ⟨rfl, rfl, rfl⟩ | ⟨rfl, rfl, rfl⟩ | ⟨rfl, rfl, rfl⟩ | ⟨rfl, rfl, rfl⟩ | ⟨rfl, rfl, rfl⟩ | ⟨rfl, rfl, rfl⟩ | ⟨rfl, rfl, rfl⟩ | ⟨rfl, rfl, rfl⟩ | ⟨rfl, rfl, rfl⟩ | ⟨rfl, rfl, rfl⟩ | ⟨rfl, rfl, rfl⟩ <;> rfl
theorem tabR_add {g : Int → Int → Int} {r : Fa → Fa → Fa} (h : (("add" : Str), g, r) ∈ tabR) : r = rAdd := tabR_of h
theorem tabR_sub {g : Int → Int → Int} {r : Fa → Fa → Fa} (h : (("sub" : Str), g, r) ∈ tabR) : r = rSub := tabR_of h
theorem tabR_and {g : Int → Int → Int} {r : Fa → Fa → Fa} (h : (("and" : Str), g, r) ∈ tabR) : r = rAnd := tabR_of h
theorem tabR_or {op : Str} {g : Int → Int → Int} {r : Fa → Fa → Fa} (h : (op, g, r) ∈ tabR) (e : op = "or" ∨ op = "xor") : r = rOr := by
  rcases e with rfl | rfl <;> exact tabR_of h
theorem tabR_slt {op : Str} {g : Int → Int → Int} {r : Fa → Fa → Fa} (h : (op, g, r) ∈ tabR) (e : op = "slt" ∨ op = "sltu") : r = rLess := by
  rcases e with rfl | rfl <;> exact tabR_of h
theorem wordOf_eq {G : Fa} (g : G.Good) : (G.lo = G.hi → wordOf G = some G.lo) ∧ (G.lo ≠ G.hi → wordOf G = none) := by
  cases G with
  | all => exact ⟨fun h => absurd h (by decide), fun _ => rfl⟩
  | rng l h => exact ⟨fun e => absurd e (by have := g.2.1; show l ≠ h; omega), fun _ => rfl⟩
  | row ws =>
    obtain ⟨ne, asc, _, _⟩ := g
    match ws with
    | [] => exact absurd rfl ne
    | [x] => exact ⟨fun _ => rfl, fun h => absurd rfl h⟩
    | x :: y :: r =>
      refine ⟨fun h => ?_, fun _ => rfl⟩
      have h1 : x < y := (List.pairwise_cons.mp asc).1 y (by simp)
      have h2 := (last_ge asc (show y ∈ x :: y :: r by simp)).2
      have : x = (x :: y :: r).getLastD 0 := h
      omega
theorem fin_eq {op : Str} {g : Int → Int → Int} {r : Fa → Fa → Fa} {F G : Fa} (hm : (op, g, r) ∈ tabR) (gF : F.Good) (gG : G.Good) (kA : op = "add" → r F G = .all) (kS : op = "sub" → r F G = .all) (nA : op ≠ "and") (nO : ¬ (op = "or" ∨ op = "xor")) (nL : ¬ (op = "slt" ∨ op = "sltu")) :
    (G.lo = G.hi → byW op F.lo F.hi G.lo = r F G) ∧ (G.lo ≠ G.hi → r F G = .all) := by
  have bG := gG.bnd
  have w1 := (wordOf_eq gG).1
  have w2 := (wordOf_eq gG).2
  simp only [tabR, List.mem_cons, Prod.mk.injEq, List.not_mem_nil, or_false] at hm
  rcases hm with ⟨rfl, rfl, rfl⟩ | ⟨rfl, rfl, rfl⟩ | ⟨rfl, rfl, rfl⟩ | ⟨rfl, rfl, rfl⟩ | ⟨rfl, rfl, rfl⟩ | ⟨rfl, rfl, rfl⟩ | ⟨rfl, rfl, rfl⟩ | ⟨rfl, rfl, rfl⟩ | ⟨rfl, rfl, rfl⟩ | ⟨rfl, rfl, rfl⟩ | ⟨rfl, rfl, rfl⟩ | ⟨rfl, rfl, rfl⟩ | ⟨rfl, rfl, rfl⟩
  · exact ⟨fun _ => by rw [kA rfl]; rfl, fun _ => kA rfl⟩
  · exact ⟨fun _ => by rw [kS rfl]; rfl, fun _ => kS rfl⟩
  · exact ⟨fun _ => rfl, fun _ => rfl⟩
  · exact absurd rfl nA
  · exact absurd (.inl rfl) nO
  · exact absurd (.inr rfl) nO
  · refine ⟨fun h => ?_, fun h => ?_⟩
    · unfold rShl byW
      rw [w1 h, if_neg (by decide)]
      dsimp only
      by_cases e : F.hi * 2 ^ (G.lo % 32).toNat ≤ 4294967295
      · rw [if_pos ⟨rfl, by omega⟩, if_pos e]
      · rw [if_neg (fun z => e (by omega)), if_neg (fun z => absurd z.1 (by decide)), if_neg (fun z => absurd z.1 (by decide)), if_neg e]
    · unfold rShl; rw [w2 h]
  · refine ⟨fun h => ?_, fun h => ?_⟩
    · unfold rShr byW
      rw [w1 h, if_pos rfl]
    · unfold rShr; rw [w2 h]
  · exact ⟨fun _ => rfl, fun _ => rfl⟩
  · exact absurd (.inl rfl) nL
  · exact absurd (.inr rfl) nL
  · refine ⟨fun h => ?_, fun h => ?_⟩
    · unfold rDivu byW
      rw [w1 h, if_neg (by decide), if_neg (fun z => absurd z.1 (by decide))]
      dsimp only
      by_cases e : G.lo = 0
      · rw [if_neg (fun z => by have := z.2; omega), if_neg (fun z => absurd z.1 (by decide)), if_pos e]
      · rw [if_pos ⟨rfl, by omega⟩, if_neg e]
    · unfold rDivu; rw [w2 h]
  · refine ⟨fun h => ?_, fun h => ?_⟩
    · unfold rRemu byW
      rw [w1 h, if_neg (by decide), if_neg (fun z => absurd z.1 (by decide)), if_neg (fun z => absurd z.1 (by decide))]
      dsimp only
      by_cases e : G.lo = 0
      · rw [if_neg (fun z => by have := z.2; omega), if_pos e]
      · rw [if_pos ⟨rfl, by omega⟩, if_neg e]
    · unfold rRemu; rw [w2 h]
theorem bitsK_mono {c : Int} {i n : Nat} (h : i ≤ n) : (bitsK c i).length ≤ (bitsK c n).length := by
  induction n with
  | zero => obtain rfl : i = 0 := by omega
            exact Nat.le_refl _
  | succ n ih =>
    by_cases e : i = n + 1
    · subst e; exact Nat.le_refl _
    · rw [bitsK_succ c n, List.length_append]
      have := ih (by omega)
      omega
theorem sums_asc (c : Int) (k : Nat) : (sums (bitsK c k)).Pairwise (· < ·) ∧ ∀ x ∈ sums (bitsK c k), 0 ≤ x ∧ x < 2 ^ k := by
  induction k with
  | zero =>
    have e : sums (bitsK c 0) = [0] := rfl
    rw [e]
    exact ⟨List.pairwise_singleton _ _, fun x h => by rw [List.mem_singleton.mp h]; exact ⟨by decide, by decide⟩⟩
  | succ k ih =>
    obtain ⟨a, b⟩ := ih
    have p : (2 : Int) ^ (k + 1) = 2 * 2 ^ k := by rw [Int.pow_succ]; omega
    rw [bitsK_succ]
    cases e : bitOn c k with
    | false =>
      rw [if_neg (by decide), List.append_nil]
      exact ⟨a, fun x h => by have := b x h; omega⟩
    | true =>
      rw [if_pos rfl, sums_snoc]
      constructor
      · rw [List.pairwise_append]
        refine ⟨a, ?_, fun x hx y hy => ?_⟩
        · rw [List.pairwise_map]
          exact a.imp fun h => by omega
        · obtain ⟨z, hz, rfl⟩ := List.mem_map.mp hy
          have := b x hx
          have := b z hz
          omega
      · intro x hx
        rcases List.mem_append.mp hx with hx | hx
        · have := b x hx; omega
        · obtain ⟨z, hz, rfl⟩ := List.mem_map.mp hx
          have := b z hz
          omega
theorem pairsG_ne {α : Type} {g : Int → Int → α} {ws bs : List Int} (gF : (Fa.row ws).Good) (gG : (Fa.row bs).Good) : pairsG g ws bs ≠ [] := by
  intro z
  have := pairsG_len g ws bs
  rw [z] at this
  have l1 : 0 < ws.length := List.length_pos_iff.mpr gF.1
  have l2 : 0 < bs.length := List.length_pos_iff.mpr gG.1
  have := Nat.mul_pos l1 l2
  simp at *
  omega
section
variable {P : Program} {w : World} {K : PySem.W.Frag} {mg : Str → Option Value} {base : Heap}
theorem ok_law_by_word (c_law_of : Cd P w K mg base 1 "_law_of" (spSpan K)) (Z : St1 K mg "_law_by_word" s_law_by_word ["op", "lo", "hi", "c"]) : Cd P w K mg base 2 "_law_by_word" (spByW K) := by
  refine Z.cd sc_law_by_word (fun vs H Q E h => by obtain ⟨op, lo, hi, c, rfl, _⟩ := h; rfl) (fun f cdv A outer s H vs Q E hr h => ?_)
  obtain ⟨op, lo, hi, c, rfl, hm, hlo, hhi, hc, q⟩ := h
  refine ⟨_, (pss_cons (ps_if (pt_cmpR op_eq (pv 0) pe_str (nomark _)) (pss_one (ps_ret (pe_cd c_law_of hr (by first | decide | omega) (by rfl) (pa_cons (pe_op op_shr (pv 1) (pe_op op_and (pv 3) pe_int)) (pa_cons (pe_op op_shr (pv 2) (pe_op op_and (pv 3) pe_int)) pa_nil))))) pss_nil)
      (pss_cons (ps_if (PW.pt (pw_and (pt_cmpR op_eq (pv 0) pe_str (nomark _)) (pw_and1 (pt_cmpR op_lt (pe_op op_shl (pv 2) (pe_op op_and (pv 3) pe_int)) pe_int (nomark _))))) (pss_one (ps_ret (pe_cd c_law_of hr (by first | decide | omega) (by rfl) (pa_cons (pe_op op_shl (pv 1) (pe_op op_and (pv 3) pe_int)) (pa_cons (pe_op op_shl (pv 2) (pe_op op_and (pv 3) pe_int)) pa_nil))))) pss_nil)
      (pss_cons (ps_if (PW.pt (pw_and (pt_cmpR op_eq (pv 0) pe_str (nomark _)) (pw_and1 (pt_cmpR op_gt (pv 3) pe_int (nomark _))))) (pss_one (ps_ret (pe_cd c_law_of hr (by first | decide | omega) (by rfl) (pa_cons (pe_op op_fdivW (pv 1) (pv 3)) (pa_cons (pe_op op_fdivW (pv 2) (pv 3)) pa_nil))))) pss_nil)
      (pss_cons (ps_if (PW.pt (pw_and (pt_cmpR op_eq (pv 0) pe_str (nomark _)) (pw_and1 (pt_cmpR op_gt (pv 3) pe_int (nomark _))))) (pss_one (ps_ret (pe_ifExp (pt_cmpR op_lt (pv 2) (pv 3) (nomark _)) (pe_cd c_law_of hr (by first | decide | omega) (by rfl) (pa_cons (pv 1) (pa_cons (pv 2) pa_nil))) (pe_cd c_law_of hr (by first | decide | omega) (by rfl) (pa_cons pe_int (pa_cons (pe_op op_sub (pv 3) pe_int) pa_nil)))))) pss_nil)
      (pss_one (ps_ret pe_non)))))), ?_⟩
  have l0 := hlo.1
  have l1 := hlo.2
  have h0 := hhi.1
  have h1 := hhi.2
  have c0 := hc.1
  have c1 := hc.2
  have m0 : 0 ≤ c % 32 := Int.emod_nonneg _ (by decide)
  have m1 : c % 32 < 32 := Int.emod_lt_of_pos _ (by decide)
  have fin : ∀ {F : Fa}, byW op lo hi c = F → ∀ x H', Same H H' → FaAt K H' x F → Q x H' := fun e x H' s hx => q x H' s (by rw [e]; exact hx)
  by_cases e1 : op = "shr"
  · subst e1
    walk_at "wd"
    rw [bitAnd_m5]
    walk_at "ws"
    rw [bitAnd_m5]
    walk_at "ws"
    exact ⟨_, _, rfl, fin (by unfold byW; rw [if_pos rfl])⟩
  by_cases e2 : op = "shl"
  · subst e2
    walk_at "wd"
    rw [bitAnd_m5]
    refine w_I ⟨by omega, by omega, by show hi.natAbs < 18446744073709551616; omega⟩ ?_
    walk_at "ws"
    refine w_dec (fun e => ?_) (fun e => ?_)
    · walk_at "ws"
      rw [bitAnd_m5]
      refine w_I ⟨by omega, by omega, by show lo.natAbs < 18446744073709551616; omega⟩ ?_
      walk_at "ws"
      rw [bitAnd_m5]
      refine w_I ⟨by omega, by omega, by show hi.natAbs < 18446744073709551616; omega⟩ ?_
      walk_at "ws"
      exact ⟨_, _, rfl, fin (by unfold byW; rw [if_neg (by decide), if_pos ⟨rfl, e⟩])⟩
    · walk_at "wd"
      exact fin (F := .all) (by unfold byW; rw [if_neg (by decide), if_neg (fun z => e z.2), if_neg (fun z => absurd z.1 (by decide)), if_neg (fun z => absurd z.1 (by decide))]) _ _ (fun _ _ e => e) rfl
  by_cases e3 : op = "divu"
  · subst e3
    walk_at "wd"
    refine w_dec (fun e => ?_) (fun e => ?_)
    · walk_at "ws"
      exact ⟨_, _, rfl, fin (by unfold byW; rw [if_neg (by decide), if_neg (fun z => absurd z.1 (by decide)), if_pos ⟨rfl, by omega⟩])⟩
    · walk_at "wd"
      exact fin (F := .all) (by unfold byW; rw [if_neg (by decide), if_neg (fun z => absurd z.1 (by decide)), if_neg (fun z => e z.2), if_neg (fun z => absurd z.1 (by decide))]) _ _ (fun _ _ e => e) rfl
  by_cases e4 : op = "remu"
  · subst e4
    walk_at "wd"
    refine w_dec (fun e => ?_) (fun e => ?_)
    · walk_at "ws"
      have eb : byW "remu" lo hi c = if hi < c then spanF lo hi else spanF 0 (c - 1) := by unfold byW; rw [if_neg (by decide), if_neg (fun z => absurd z.1 (by decide)), if_neg (fun z => absurd z.1 (by decide)), if_pos ⟨rfl, by omega⟩]
      refine w_dec (fun e2 => ?_) (fun e2 => ?_)
      · rw [if_pos e2] at eb
        walk_at "ws"
        exact ⟨_, _, rfl, fin eb⟩
      · rw [if_neg e2] at eb
        walk_at "ws"
        exact ⟨_, _, rfl, fin eb⟩
    · walk_at "wd"
      exact fin (F := .all) (by unfold byW; rw [if_neg (by decide), if_neg (fun z => absurd z.1 (by decide)), if_neg (fun z => absurd z.1 (by decide)), if_neg (fun z => e z.2)]) _ _ (fun _ _ e => e) rfl
  walk_at "ws"
  refine w_decF (fun z => e1 z) ?_
  walk_at "ws"
  refine w_decF (fun z => e2 z) ?_
  walk_at "wr"
  refine w_decF (fun z => e3 z) ?_
  walk_at "wr"
  refine w_decF (fun z => e4 z) ?_
  walk_at "wr"
  exact fin (F := .all) (by unfold byW; rw [if_neg e1, if_neg (fun z => e2 z.1), if_neg (fun z => e3 z.1), if_neg (fun z => e4 z.1)]) _ _ (fun _ _ e => e) rfl
theorem ok_law_result (b_len : mg "len" = none) (b_range : mg "range" = none) (b_min : mg "min" = none) (b_max : mg "max" = none) (c_law_compute : Cd P w K mg base 2 "_law_compute" spCompL) (c_law_row : Cd P w K mg base 2 "_law_row" (spRowL K)) (c_law_bounds : Cd P w K mg base 1 "_law_bounds" (spBoundsG K)) (c_law_of : Cd P w K mg base 1 "_law_of" (spSpan K)) (c_law_by_word : Cd P w K mg base 2 "_law_by_word" (spByW K)) (Z : St1 K mg "_law_result" s_law_result ["op", "a", "b"]) : Cd P w K mg base 3 "_law_result" (spResult K) := by
  refine Z.cd sc_law_result (fun vs H Q E h => by obtain ⟨op, g, r, v, u, F, G, rfl, _⟩ := h; rfl) (fun f cdv A outer s H vs Q E hr h => ?_)
  obtain ⟨op, g, r, v, u, F, G, rfl, hm, hF, hG, gF, gG, q⟩ := h
  refine ⟨_, (Evl.pss_cut (ps_set (i := 3) sc_law_result.nd rfl (.inl rfl) (pe_and (pe_cmpR op_notNQ (pv 1) pe_non (nomark _)) (pe_and (pe_cmpR op_notNQ (pv 2) pe_non (nomark _)) (pe_and (pe_cmpR op_eq (pe_ix ix_tup (pv 1) pe_int (fun _ _ => rfl)) pe_str (nomark _)) (pe_one (pe_cmpR op_eq (pe_ix ix_tup (pv 2) pe_int (fun _ _ => rfl)) pe_str (nomark _)))))))
      (Evl.pss_cut (ps_if (PW.pt (pw_and (pt_val (pv 3)) (pw_and1 (pt_cmpR op_le (pe_op op_mul (pe_callB call_lenQ (by rfl) b_len PySem.boot_len (pa_cons (pe_ix ix_tup (pv 1) pe_int (fun _ _ => rfl)) pa_nil)) (pe_callB call_lenQ (by rfl) b_len PySem.boot_len (pa_cons (pe_ix ix_tup (pv 2) pe_int (fun _ _ => rfl)) pa_nil))) pe_int (nomark _))))) (pss_cons (ps_set (i := 4) sc_law_result.nd rfl (.inl rfl) (pe_lst pa_nil))
      (pss_cons (ps_for PassesOwn.never rfl (pi_tup (pe_ix ix_tup (pv 1) pe_int (fun _ _ => rfl))) (pg_name (i := 5) sc_law_result.nd rfl (.inr rfl))
      (pss_one (ps_set (i := 4) sc_law_result.nd rfl (.inl rfl) (pe_op op_cat (pv 4) (pe_lc (own := [("y", 12)]) rfl sc_law_result.nd (pi_tup (pe_ix ix_tup (pv 2) pe_int (fun _ _ => rfl))) (blkOk_by (own := [("y", 12)]) (N := ["op", "a", "b", "rows", "found", "x", "low", "high", "lo", "hi", "words", "k", "y", "w"]) (sc := (defScope s_law_result)) (by decide +kernel)) (fun _ _ _ _ _ => (pg_name (i := 12) sc_law_result.nd rfl (.inl rfl))) (fun _ _ _ _ _ => pts_nil) (fun _ _ _ _ _ => (pe_cd c_law_compute hr (by first | decide | omega) (by rfl) (pa_cons (pv 0) (pa_cons (pv 5) (pa_cons (pv 12) pa_nil))))))))))
      (pss_one (ps_ret (pe_cd c_law_row hr (by first | decide | omega) (by rfl) (pa_cons (pv 4) pa_nil)))))) pss_nil)
      (pss_cons (ps_asg (pe_cd c_law_bounds hr (by first | decide | omega) (by rfl) (pa_cons (pv 1) pa_nil)) (pg_tup rfl (pgs_cons (pg_name (i := 6) sc_law_result.nd rfl (.inl rfl)) (pgs_cons (pg_name (i := 7) sc_law_result.nd rfl (.inl rfl)) pgs_nil))))
      (pss_cons (ps_asg (pe_cd c_law_bounds hr (by first | decide | omega) (by rfl) (pa_cons (pv 2) pa_nil)) (pg_tup rfl (pgs_cons (pg_name (i := 8) sc_law_result.nd rfl (.inr rfl)) (pgs_cons (pg_name (i := 9) sc_law_result.nd rfl (.inl rfl)) pgs_nil))))
      (Evl.pss_cut (ps_if (PW.pt (pw_and (pt_cmpR op_eq (pv 0) pe_str (nomark _)) (pw_and1 (pt_cmpR op_lt (pe_op op_add (pv 7) (pv 9)) pe_int (nomark _))))) (pss_one (ps_ret (pe_cd c_law_of hr (by first | decide | omega) (by rfl) (pa_cons (pe_op op_add (pv 6) (pv 8)) (pa_cons (pe_op op_add (pv 7) (pv 9)) pa_nil))))) pss_nil)
      (Evl.pss_cut (ps_if (PW.pt (pw_and (pt_cmpR op_eq (pv 0) pe_str (nomark _)) (pw_and1 (pt_cmpR op_ge (pv 6) (pv 9) (nomark _))))) (pss_one (ps_ret (pe_cd c_law_of hr (by first | decide | omega) (by rfl) (pa_cons (pe_op op_sub (pv 6) (pv 9)) (pa_cons (pe_op op_sub (pv 7) (pv 8)) pa_nil))))) pss_nil)
      (Evl.pss_cut (ps_if (PW.pt (pw_and (pt_cmpR op_eq (pv 0) pe_str (nomark _)) (pw_and (pt_cmpR op_eq (pv 8) (pv 9) (nomark _)) (pw_and1 (pt_cmpR op_le (pe_callB call_lenQ (by rfl) b_len PySem.boot_len (pa_cons (pe_lc (own := [("k", 11)]) rfl sc_law_result.nd (pi_range1 (by rfl) b_range (pa_cons pe_int pa_nil)) (blkOk_by (own := [("k", 11)]) (N := ["op", "a", "b", "rows", "found", "x", "low", "high", "lo", "hi", "words", "k", "y", "w"]) (sc := (defScope s_law_result)) (by decide +kernel)) (fun _ _ _ _ _ => (pg_name (i := 11) sc_law_result.nd rfl (by first | exact Or.inl rfl | exact Or.inr rfl))) (fun _ _ _ _ _ => (pts_one (pt_cmpR op_eq (pe_op op_and (pe_op op_shr (pv 8) (pv 11)) pe_int) pe_int (nomark _)))) (fun _ _ _ _ _ => (pv 11))) pa_nil)) pe_int (nomark _)))))) (pss_cons (ps_set (i := 10) sc_law_result.nd rfl (.inl rfl) (pe_lst (pa_cons pe_int pa_nil)))
      (pss_cons (ps_for PassesOwn.never rfl (pi_range1 (by rfl) b_range (pa_cons pe_int pa_nil)) (pg_name (i := 11) sc_law_result.nd rfl (.inr rfl))
      (pss_one (ps_if (pt_cmpR op_eq (pe_op op_and (pe_op op_shr (pv 8) (pv 11)) pe_int) pe_int (nomark _)) (pss_one (ps_set (i := 10) sc_law_result.nd rfl (.inl rfl) (pe_op op_cat (pv 10) (pe_lc (own := [("w", 13)]) rfl sc_law_result.nd (pi_list (pv 10)) (blkOk_by (own := [("w", 13)]) (N := ["op", "a", "b", "rows", "found", "x", "low", "high", "lo", "hi", "words", "k", "y", "w"]) (sc := (defScope s_law_result)) (by decide +kernel)) (fun _ _ _ _ _ => (pg_name (i := 13) sc_law_result.nd rfl (.inl rfl))) (fun _ _ _ _ _ => pts_nil) (fun _ _ _ _ _ => (pe_op op_add (pv 13) (pe_op op_shl pe_int (pv 11)))))))) pss_nil)))
      (pss_one (ps_ret (pe_cd c_law_row hr (by first | decide | omega) (by rfl) (pa_cons (pv 10) pa_nil)))))) pss_nil)
      (Evl.pss_cut (ps_if (pt_cmpR op_eq (pv 0) pe_str (nomark _)) (pss_one (ps_ret (pe_cd c_law_of hr (by first | decide | omega) (by rfl) (pa_cons pe_int (pa_cons (pe_callB (call_min2 rfl) (by rfl) b_min (by decide +kernel) (pa_cons (pv 7) (pa_cons (pv 9) pa_nil))) pa_nil))))) pss_nil)
      (Evl.pss_cut (ps_if (pt_cmpR op_in_seq (pv 0) (pe_tup (pa_cons pe_str (pa_cons pe_str pa_nil))) rfl) (pss_cons (ps_set (i := 11) sc_law_result.nd rfl (.inr rfl) pe_int)
      (pss_cons (ps_while PassesOwn.never (pt_cmpR op_lt (pe_op op_sub (pe_op op_shl pe_int (pv 11)) pe_int) (pe_callB (call_max2 rfl) (by rfl) b_max (by decide +kernel) (pa_cons (pv 7) (pa_cons (pv 9) pa_nil))) (nomark _)) (pss_one (ps_set (i := 11) sc_law_result.nd rfl (.inr rfl) (pe_op op_add (pv 11) pe_int))))
      (pss_one (ps_ret (pe_cd c_law_of hr (by first | decide | omega) (by rfl) (pa_cons pe_int (pa_cons (pe_op op_sub (pe_op op_shl pe_int (pv 11)) pe_int) pa_nil))))))) pss_nil)
      (Evl.pss_cut (ps_if (pt_cmpR op_in_seq (pv 0) (pe_tup (pa_cons pe_str (pa_cons pe_str pa_nil))) rfl) (pss_one (ps_ret (pe_tup (pa_cons pe_str (pa_cons (pe_tup (pa_cons pe_int (pa_cons pe_int pa_nil))) pa_nil))))) pss_nil)
      (pss_cons (ps_if (pt_cmpR op_eq (pv 8) (pv 9) (nomark _)) (pss_one (ps_ret (pe_cd c_law_by_word hr (by first | decide | omega) (by rfl) (pa_cons (pv 0) (pa_cons (pv 6) (pa_cons (pv 7) (pa_cons (pv 8) pa_nil))))))) pss_nil)
      (pss_one (ps_ret pe_non))))))))))))), ?_⟩
  walk_at "ws"
  refine Evl.q_cut (M := fun σ' H' => H' = H ∧ σ' = [some (.str op), some v, some u, some (.bl (F.isRow && G.isRow))] ++ List.replicate 10 none) ?_ ?_
  · cases F with
    | all =>
      obtain rfl : v = .non := hF
      walk_at "wd"
      exact ⟨rfl, rfl⟩
    | rng lo hi =>
      obtain ⟨a, rfl, h1⟩ := hF
      cases G with
      | all =>
        obtain rfl : u = .non := hG
        walk_at "wd"
        exact ⟨rfl, rfl⟩
      | rng lo' hi' =>
        obtain ⟨a', rfl, h1'⟩ := hG
        walk_at "wd"
        exact ⟨rfl, rfl⟩
      | row bs =>
        obtain ⟨a', b', rfl, h1', h2'⟩ := hG
        walk_at "wd"
        exact ⟨rfl, rfl⟩
    | row ws =>
      obtain ⟨a, b, rfl, h1, h2⟩ := hF
      cases G with
      | all =>
        obtain rfl : u = .non := hG
        walk_at "wd"
        exact ⟨rfl, rfl⟩
      | rng lo' hi' =>
        obtain ⟨a', rfl, h1'⟩ := hG
        walk_at "wd"
        exact ⟨rfl, rfl⟩
      | row bs =>
        obtain ⟨a', b', rfl, h1', h2'⟩ := hG
        walk_at "wd"
        exact ⟨rfl, rfl⟩
  rintro σ1 H1 ⟨rfl, rfl⟩
  dsimp only [List.replicate, List.cons_append, List.nil_append]
  refine Evl.q_cut (M := fun σ' H' => H' = H1 ∧ (∀ R, R = r F G → ResR g r F G R) ∧ σ' = [some (.str op), some v, some u, some (.bl (F.isRow && G.isRow))] ++ List.replicate 10 none) ?_ ?_
  · cases hFr : F.isRow with
    | false =>
      walk_at "ws"
      refine ⟨rfl, fun R e => ?_, rfl⟩
      unfold ResR
      cases F <;> first | exact e | cases hFr
    | true =>
      obtain ⟨ws, rfl⟩ := isRow_of hFr
      obtain ⟨a, b, rfl, h1, h2⟩ := id hF
      cases hGr : G.isRow with
      | false =>
        walk_at "ws"
        refine ⟨rfl, fun R e => ?_, rfl⟩
        unfold ResR
        cases G <;> first | exact e | cases hGr
      | true =>
        obtain ⟨bs, rfl⟩ := isRow_of hGr
        obtain ⟨a', b', rfl, h1', h2'⟩ := id hG
        have lw := gF.l16 ws rfl
        have lb := gG.l16 bs rfl
        rw [Bool.true_and]
        walk_at "ws"
        refine w_lenTs h2 ?_
        walk_at "ws"
        refine w_lenTs h2' ?_
        rw [List.length_map, List.length_map]
        walk_at "ws"
        refine w_dec (fun e => ?_) (fun e => ?_)
        · have e64 : ws.length * bs.length ≤ 64 := by exact_mod_cast e
          walk_at "ws"
          refine w_kLst (by show 0 ≤ sizeLine; decide) fun p0 H0 np0 s0 hp0 => ?_
          have h1s := s0.sqT h1
          have h2s := s0.sqT h2
          have h3s := s0.sqT h2'
          walk_at "ws"
          refine w_forT (ws.map V.int) (fun i σ' H' => Same H0 H' ∧ ∃ (pf : Addr) (x5 : Option V), H' pf = some (.lst ((pairsG g (ws.take i) bs).map V.int)) ∧ σ' = [some (.str op), some (.ref a), some (.ref a'), some (.bl true), some (.ref pf), x5] ++ List.replicate 8 none) h2s ⟨fun _ _ e => e, p0, none, by rw [hp0]; rfl, rfl⟩ (fun i σ' H' _ h => h.1.sqT h2s) (fun i x σ' H3 hx h => ?_) (fun σ' H3 h => ?_)
          · obtain ⟨s3, pf, x5, hpf, rfl⟩ := h
            obtain ⟨z, ez, rfl⟩ := map_get hx
            have hi := (List.getElem?_eq_some_iff.mp ez).1
            have wz := gF.2.2.1 z (List.mem_of_getElem? ez)
            have mi : (pairsG g (ws.take i) bs).length ≤ 16 * 16 := by rw [pairsG_len, List.length_take]; exact Nat.mul_le_mul (by omega) lb
            have h4 := s3.sqT (s0.sqT h1')
            have h5 := s3.sqT h3s
            dsimp only [List.replicate, List.cons_append, List.nil_append]
            walk_at "ws"
            refine w_lcT (bs.map V.int) (fun D j H' => H3 D = none ∧ Same H3 H' ∧ H' D = some (.lst (((bs.take j).map (g z)).map V.int))) h5 (fun D nD => ⟨nD, Same.new nD, upd_same⟩) (fun D j H' _ h => h.2.1.sqT h5) (fun D j y H4 hy h => ?_) (fun D H4 nD h => ?_)
            · obtain ⟨nD, s4, hD⟩ := h
              obtain ⟨y', ey, rfl⟩ := map_get hy
              have hj := (List.getElem?_eq_some_iff.mp ey).1
              have wy := gG.2.2.1 y' (List.mem_of_getElem? ey)
              walk_at "ws"
              refine ⟨rfl, ?_⟩
              walk_at "ws"
              refine ⟨op, g, z, y', rfl, tabR_13 hm, wz, wy, ?_⟩
              refine ⟨_, hD, by rw [List.length_map, List.length_map, List.length_take]; exact small1000 (by omega), nD, fun a o ha => ?_, ?_⟩
              · rw [upd_ne (ne_of_none ha nD)]; exact s4 _ _ ha
              · rw [upd_same, take_more ey]; simp
            · obtain ⟨_, s4, hD⟩ := h
              rw [List.length_map, List.take_length] at hD
              walk_at "ws"
              refine w_catL (s4 _ _ hpf) hD (by rw [List.length_map, List.length_map, List.length_map]; exact Nat.le_trans (show _ ≤ 1000 by omega) (by decide)) fun p2 H5 np2 s5 hp2 => ?_
              walk_at "ws"
              refine ⟨s3.trans (s4.trans s5), p2, _, ?_, rfl⟩
              rw [hp2, take_more ez, pairsG_snoc, List.map_append]
          · obtain ⟨s3, pf, x5, hpf, rfl⟩ := h
            rw [List.length_map, List.take_length] at hpf
            dsimp only [List.replicate, List.cons_append, List.nil_append]
            have hne : pairsG g ws bs ≠ [] := pairsG_ne gF gG
            walk_at "ws"
            refine ⟨pf, pairsG g ws bs, rfl, hpf, hne, by rw [pairsG_len]; omega, fun ms x H4 asc mem s4 hx => ?_⟩
            refine q x (factOf ms) H4 ?_ (s0.trans (s3.trans s4)) hx
            unfold ResR
            dsimp only
            rw [if_pos e64]
            exact ⟨ms, asc, mem, rfl⟩
        · walk_at "ws"
          refine ⟨rfl, fun R e' => ?_, rfl⟩
          have e64 : ¬ ws.length * bs.length ≤ 64 := fun z => e (by exact_mod_cast z)
          unfold ResR
          dsimp only
          rw [if_neg e64]
          exact e'
  rintro σ2 H2 ⟨rfl, hR, rfl⟩
  dsimp only [List.replicate, List.cons_append, List.nil_append]
  walk_at "ws"
  refine ⟨v, F, rfl, hF, gF, fun p H3 np s3 hp => ?_⟩
  walk_at "ws"
  refine ⟨u, G, rfl, hG.same s3, gG, fun p2 H4 np2 s4 hp2 => ?_⟩
  have st := s3.trans s4
  have bF := gF.bnd
  have bG := gG.bnd
  walk_at "ws"
  have fin : ∀ {R : Fa}, R = r F G → ∀ x H', Same H4 H' → FaAt K H' x R → Q x H' := fun e x H' s hx => q x _ H' (hR _ e) (st.trans s) hx
  refine Evl.q_cut (M := fun σ' H' => H' = H4 ∧ (op = "add" → r F G = .all) ∧ σ' = [some (.str op), some v, some u, some (.bl (F.isRow && G.isRow)), none, none, some (.int F.lo), some (.int F.hi), some (.int G.lo), some (.int G.hi), none, none, none, none]) ?_ ?_
  · by_cases eo : op = "add"
    · subst eo
      obtain rfl := tabR_add hm
      walk_at "wd"
      refine w_dec (fun e => ?_) (fun e => ?_)
      · walk_at "ws"
        exact ⟨_, _, rfl, fin (by unfold rAdd; rw [if_pos (by omega)])⟩
      · walk_at "ws"
        exact ⟨rfl, fun _ => by unfold rAdd; rw [if_neg (by omega)], rfl⟩
    · walk_at "ws"
      refine w_decF eo ?_
      walk_at "wr"
      exact ⟨rfl, fun z => absurd z eo, rfl⟩
  rintro σ5 H5 ⟨rfl, kAdd, rfl⟩
  refine Evl.q_cut (M := fun σ' H' => H' = H5 ∧ (op = "sub" → r F G = .all) ∧ σ' = [some (.str op), some v, some u, some (.bl (F.isRow && G.isRow)), none, none, some (.int F.lo), some (.int F.hi), some (.int G.lo), some (.int G.hi), none, none, none, none]) ?_ ?_
  · by_cases eo : op = "sub"
    · subst eo
      obtain rfl := tabR_sub hm
      walk_at "wd"
      refine w_dec (fun e => ?_) (fun e => ?_)
      · walk_at "ws"
        exact ⟨_, _, rfl, fin (by unfold rSub; rw [if_pos e])⟩
      · walk_at "ws"
        exact ⟨rfl, fun _ => by unfold rSub; rw [if_neg e], rfl⟩
    · walk_at "ws"
      refine w_decF eo ?_
      walk_at "wr"
      exact ⟨rfl, fun z => absurd z eo, rfl⟩
  rintro σ6 H6 ⟨rfl, kSub, rfl⟩
  refine Evl.q_cut (M := fun σ' H' => Same H6 H' ∧ (op = "and" → r F G = spanF 0 (min F.hi G.hi)) ∧ σ' = [some (.str op), some v, some u, some (.bl (F.isRow && G.isRow)), none, none, some (.int F.lo), some (.int F.hi), some (.int G.lo), some (.int G.hi), none, none, none, none]) ?_ ?_
  · by_cases eo : op = "and"
    · subst eo
      obtain rfl := tabR_and hm
      walk_at "wd"
      refine w_dec (fun e => ?_) (fun e => ?_)
      · have eG := wordOf_lo ((wordOf_eq gG).1 e)
        have hc : W32 G.lo := ⟨by omega, by omega⟩
        obtain ⟨c, ec⟩ : ∃ c, c = G.lo := ⟨_, rfl⟩
        rw [← ec] at hc
        have eA : (bitsK c 32).length ≤ 4 → rAnd F G = .row (sums (bitsK c 32)) := fun h => by
          unfold rAnd
          rw [(wordOf_eq gG).1 e, ← ec]
          dsimp only
          rw [if_pos h]
        have eB : ¬ (bitsK c 32).length ≤ 4 → rAnd F G = spanF 0 (min F.hi G.hi) := fun h => by
          unfold rAnd
          rw [(wordOf_eq gG).1 e, ← ec]
          dsimp only
          rw [if_neg h]
        have c0 := hc.1
        have c1 := hc.2
        rw [← ec]
        walk_at "ws"
        refine w_lcR 32 (fun D i H' => H6 D = none ∧ Same H6 H' ∧ H' D = some (.lst (((List.range i).filter (bitOn c)).map fun j : Nat => V.int (j : Int)))) rfl ⟨by decide, by decide⟩ (fun D nD => ⟨nD, Same.new nD, upd_same⟩) (fun D i H' hi h => ?_) (fun D H' nD h => ?_)
        · obtain ⟨nD, s1, hD⟩ := h
          have ln : ((List.range i).filter (bitOn c)).length ≤ i := Nat.le_trans (List.length_filter_le ..) (by simp)
          walk_at "ws"
          refine ⟨rfl, ?_⟩
          walk_at "ws"
          rw [bitAnd1, Int.toNat_natCast]
          refine w_dec (fun e1 => ?_) (fun e1 => ?_)
          · have eb : bitOn c i = true := by unfold bitOn; rw [decide_eq_true_eq]; exact e1
            walk_at "ws"
            refine ⟨_, hD, by rw [List.length_map]; exact small1000 (by omega), nD, fun a o ha => ?_, ?_⟩
            · rw [upd_ne (ne_of_none ha nD)]; exact s1 _ _ ha
            · rw [upd_same, List.range_succ, List.filter_append, List.map_append]; simp [eb]
          · have eb : bitOn c i = false := by unfold bitOn; rw [decide_eq_false_iff_not]; exact e1
            exact ⟨nD, s1, by rw [hD, List.range_succ, List.filter_append, List.map_append]; simp [eb]⟩
        · obtain ⟨_, s1, hD⟩ := h
          have el : (bitsK c 32).length = ((List.range 32).filter (bitOn c)).length := by unfold bitsK; rw [List.length_map]
          walk_at "ws"
          rw [List.length_map, ← el]
          refine w_dec (fun e4 => ?_) (fun e4 => ?_)
          · have l4 : (bitsK c 32).length ≤ 4 := by omega
            walk_at "ws"
            refine w_kLst (by show 1 ≤ sizeLine; decide) fun p0 H0 np0 s0 hp0 => ?_
            walk_at "ws"
            refine w_forR 32 (fun i σ' H' => Same H0 H' ∧ ∃ (pw : Addr) (x11 : Option V), H' pw = some (.lst ((sums (bitsK c i)).map V.int)) ∧ σ' = [some (.str "and"), some v, some u, some (.bl (F.isRow && G.isRow)), none, none, some (.int F.lo), some (.int F.hi), some (.int c), some (.int G.hi), some (.ref pw), x11, none, none]) rfl (by decide) ⟨fun _ _ e => e, p0, none, hp0, rfl⟩ (fun i σ' H1 hi h => ?_) (fun σ' H1 h => ?_)
            · obtain ⟨s2, pw, x11, hpw, rfl⟩ := h
              have l5 : (bitsK c i).length ≤ 4 := Nat.le_trans (bitsK_mono (by omega)) l4
              have ln : (sums (bitsK c i)).length ≤ 16 := by
                rw [sums_len]
                exact Nat.le_trans (Nat.pow_le_pow_right (by decide) l5) (by decide)
              walk_at "ws"
              rw [bitAnd1, Int.toNat_natCast]
              refine w_dec (fun e1 => ?_) (fun e1 => ?_)
              · have eb : bitOn c i = true := by unfold bitOn; rw [decide_eq_true_eq]; exact e1
                walk_at "ws"
                refine w_lcL ((sums (bitsK c i)).map V.int) (fun D j H' => H1 D = none ∧ Same H1 H' ∧ H' D = some (.lst ((((sums (bitsK c i)).take j).map (· + (2 : Int) ^ i)).map V.int))) (.of hpw) (fun D nD => ⟨nD, Same.new nD, upd_same⟩) (fun D j H' _ h => .of (h.2.1 _ _ hpw)) (fun D j y H2 hy h => ?_) (fun D H2 nD h => ?_)
                · obtain ⟨nD, s3, hD3⟩ := h
                  obtain ⟨z, ez, rfl⟩ := map_get hy
                  walk_at "ws"
                  refine ⟨rfl, ?_⟩
                  walk_at "ws"
                  refine ⟨_, hD3, by rw [List.length_map, List.length_map, List.length_take]; exact small1000 (by omega), nD, fun a o ha => ?_, ?_⟩
                  · rw [upd_ne (ne_of_none ha nD)]; exact s3 _ _ ha
                  · rw [upd_same, take_more ez, List.map_append, List.map_append]
                    simp
                · obtain ⟨_, s3, hD3⟩ := h
                  rw [List.length_map, List.take_length] at hD3
                  walk_at "ws"
                  refine w_catL (s3 _ _ hpw) hD3 (by rw [List.length_map, List.length_map, List.length_map]; exact Nat.le_trans (show _ ≤ 1000 by omega) (by decide)) fun p2 H3 np2 s4 hp2 => ?_
                  walk_at "ws"
                  refine ⟨s2.trans (s3.trans s4), p2, _, ?_, rfl⟩
                  rw [hp2, bitsK_succ, eb, if_pos rfl, sums_snoc, List.map_append]
              · have eb : bitOn c i = false := by unfold bitOn; rw [decide_eq_false_iff_not]; exact e1
                exact ⟨s2, pw, _, by rw [hpw, bitsK_succ, eb]; simp, rfl⟩
            · obtain ⟨s2, pw, x11, hpw, rfl⟩ := h
              have ln : (sums (bitsK c 32)).length ≤ 16 := by
                rw [sums_len]
                exact Nat.le_trans (Nat.pow_le_pow_right (by decide) l4) (by decide)
              have ne : sums (bitsK c 32) ≠ [] := by
                intro z
                have h0 : (sums (bitsK c 32)).length = 0 := by rw [z]; rfl
                rw [sums_len] at h0
                have := Nat.pow_pos (n := (bitsK c 32).length) (show 0 < 2 by decide)
                omega
              walk_at "ws"
              refine ⟨pw, sums (bitsK c 32), rfl, hpw, ne, by omega, fun ms x H2 asc mem s3 hx => ?_⟩
              obtain rfl := asc_eq asc (sums_asc c 32).1 mem
              have ef : factOf (sums (bitsK c 32)) = .row (sums (bitsK c 32)) := by unfold factOf; rw [if_pos ln]
              rw [ef] at hx
              exact fin (eA l4).symm _ _ (s1.trans (s0.trans (s2.trans s3))) hx
          · have l4 : ¬ (bitsK c 32).length ≤ 4 := by omega
            walk_at "ws"
            exact ⟨s1, fun _ => eB l4, rfl⟩
      · walk_at "ws"
        exact ⟨fun _ _ e => e, fun _ => by unfold rAnd; rw [(wordOf_eq gG).2 e], rfl⟩
    · walk_at "ws"
      refine w_decF eo ?_
      walk_at "wr"
      exact ⟨fun _ _ e => e, fun z => absurd z eo, rfl⟩
  rintro σ7 H7 ⟨s7, kAnd, rfl⟩
  have fin : ∀ {R : Fa}, R = r F G → ∀ x H', Same H7 H' → FaAt K H' x R → Q x H' := fun e x H' s hx => fin e x H' (s7.trans s) hx
  refine Evl.q_cut (M := fun σ' H' => H' = H7 ∧ op ≠ "and" ∧ σ' = [some (.str op), some v, some u, some (.bl (F.isRow && G.isRow)), none, none, some (.int F.lo), some (.int F.hi), some (.int G.lo), some (.int G.hi), none, none, none, none]) ?_ ?_
  · by_cases eo : op = "and"
    · have e := kAnd eo
      subst eo
      walk_at "wd"
      refine ⟨_, _, rfl, ?_⟩
      have mn : (if G.hi < F.hi then G.hi else F.hi) = min F.hi G.hi := by rw [Int.min_def]; split <;> split <;> omega
      rw [mn]
      walk_at "ws"
      exact ⟨_, _, rfl, fin e.symm⟩
    · walk_at "ws"
      refine w_decF eo ?_
      walk_at "wr"
      exact ⟨rfl, eo, rfl⟩
  rintro σ8 H8 ⟨rfl, nAnd, rfl⟩
  refine Evl.q_cut (M := fun σ' H' => Same H8 H' ∧ ¬ (op = "or" ∨ op = "xor") ∧ σ' = [some (.str op), some v, some u, some (.bl (F.isRow && G.isRow)), none, none, some (.int F.lo), some (.int F.hi), some (.int G.lo), some (.int G.hi), none, none, none, none]) ?_ ?_
  · walk_at "ws"
    refine w_kTup (by show 2 ≤ sizeLine; decide) fun p3 H9 np3 s9 hp3 => ?_
    refine w_in2P (.of hp3) ?_
    by_cases eo : op = "or" ∨ op = "xor"
    · rw [decide_eq_true eo]
      have er := tabR_or hm eo
      walk_at "ws"
      obtain ⟨mx, emx⟩ : ∃ mx, mx = max F.hi G.hi := ⟨_, rfl⟩
      have mx0 : 0 ≤ mx := by omega
      have mx1 : mx < 4294967296 := by omega
      have spec := intBits_spec mx0
      have le32 := intBits_le mx0 mx1
      refine ⟨fun m σ' H' => ∃ k : Nat, k ≤ Builtin.Int.intBits mx ∧ m = Builtin.Int.intBits mx - k ∧ H' = H9 ∧ σ' = [some (.str op), some v, some u, some (.bl (F.isRow && G.isRow)), none, none, some (.int F.lo), some (.int F.hi), some (.int G.lo), some (.int G.hi), none, some (.int (k : Int)), none, none], ⟨_, 0, Nat.zero_le _, rfl, rfl, rfl⟩, ?_⟩
      rintro m σ' H' ⟨k, hk, rfl, rfl, rfl⟩
      walk_at "ws"
      refine ⟨_, _, rfl, ?_⟩
      have e : (if G.hi > F.hi then G.hi else F.hi) = mx := by rw [emx, Int.max_def]; split <;> split <;> omega
      rw [e]
      walk_at "ws"
      rw [Int.toNat_natCast, Int.one_mul]
      refine w_dec (fun e1 => ?_) (fun e1 => ?_)
      · have lt : k < Builtin.Int.intBits mx := by
          rcases Nat.lt_or_ge k (Builtin.Int.intBits mx) with z | z
          · exact z
          · obtain rfl : k = Builtin.Int.intBits mx := by omega
            have := spec.1
            omega
        refine ⟨fun σ2 H2 => H2 = H' ∧ σ2 = [some (.str op), some v, some u, some (.bl (F.isRow && G.isRow)), none, none, some (.int F.lo), some (.int F.hi), some (.int G.lo), some (.int G.hi), none, some (.int ((k + 1 : Nat) : Int)), none, none], fun σ2 H2 h => ⟨_, by omega, k + 1, by omega, rfl, h.1, h.2⟩, ?_⟩
        walk_at "ws"
        refine ⟨rfl, ?_⟩
        rw [show (k : Int) + 1 = ((k + 1 : Nat) : Int) by omega]
        rfl
      · have ek : Builtin.Int.intBits mx = k := by
          have := spec.2 k (by omega)
          omega
        walk_at "ws"
        rw [Int.toNat_natCast]
        exact ⟨_, _, rfl, fun x H3 s3 hx => fin (by rw [er]; unfold rOr; rw [← emx, ek]) x H3 (s9.trans s3) hx⟩
    · rw [decide_eq_false eo]
      walk_at "ws"
      exact ⟨s9, eo, rfl⟩
  rintro σ9 H9 ⟨s9, nOr, rfl⟩
  have fin : ∀ {R : Fa}, R = r F G → ∀ x H', Same H9 H' → FaAt K H' x R → Q x H' := fun e x H' s hx => fin e x H' (s9.trans s) hx
  refine Evl.q_cut (M := fun σ' H' => Same H9 H' ∧ ¬ (op = "slt" ∨ op = "sltu") ∧ σ' = [some (.str op), some v, some u, some (.bl (F.isRow && G.isRow)), none, none, some (.int F.lo), some (.int F.hi), some (.int G.lo), some (.int G.hi), none, none, none, none]) ?_ ?_
  · walk_at "ws"
    refine w_kTup (by show 2 ≤ sizeLine; decide) fun p3 H10 np3 s10 hp3 => ?_
    refine w_in2P (.of hp3) ?_
    by_cases eo : op = "slt" ∨ op = "sltu"
    · rw [decide_eq_true eo]
      have er := tabR_slt hm eo
      walk_at "ws"
      refine w_kTup (by show 2 ≤ sizeLine; decide) fun p4 H11 np4 s11 hp4 => ?_
      walk_at "ws"
      refine w_kTup (by show 2 ≤ sizeLine; decide) fun p5 H12 np5 s12 hp5 => ?_
      exact fin (R := .row [0, 1]) (by rw [er]; rfl) _ _ (s10.trans (s11.trans s12)) ⟨p5, p4, rfl, .of hp5, .of (s12 _ _ hp4)⟩
    · rw [decide_eq_false eo]
      walk_at "ws"
      exact ⟨s10, eo, rfl⟩
  rintro σ10 H10 ⟨s10, nSlt, rfl⟩
  have fin : ∀ {R : Fa}, R = r F G → ∀ x H', Same H10 H' → FaAt K H' x R → Q x H' := fun e x H' s hx => fin e x H' (s10.trans s) hx
  obtain ⟨f1, f2⟩ := fin_eq hm gF gG kAdd kSub nAnd nOr nSlt
  walk_at "ws"
  refine w_dec (fun e => ?_) (fun e => ?_)
  · walk_at "ws"
    exact ⟨op, F.lo, F.hi, G.lo, rfl, List.mem_map.mpr ⟨_, tabR_13 hm, rfl⟩, ⟨by omega, by omega⟩, ⟨by omega, by omega⟩, ⟨by omega, by omega⟩, fun x H' s hx => fin (f1 e) x H' s hx⟩
  · walk_at "ws"
    exact fin (f2 e).symm _ _ (fun _ _ e => e) rfl
end
end K21

open PySem.W
namespace K21
local macro_rules | `(tactic| walk_at "w1") => `(tactic| first
  | ((with_reducible refine' w_ixTs ?hh ?ha ?_); (case hh => assumption); (case ha => exact rfl))
  | (with_reducible refine w_eqB ?_)
  | (with_reducible refine w_isNN ?_)
  | (with_reducible refine w_isNR ?_)
  | (with_reducible refine w_notNN ?_)
  | (with_reducible refine w_notNR ?_))
theorem inV_bl (b : Bool) (L : List Bool) : inV (.bl b) (L.map V.bl) = decide (b ∈ L) := by
  induction L with
  | nil => rfl
  | cons x r ih =>
    have e : inV (.bl b) ((x :: r).map V.bl) = ((x == b) || inV (.bl b) (r.map V.bl)) := rfl
    rw [e, ih, Bool.eq_iff_iff]
    cases x <;> cases b <;> simp
theorem flat_bls (L : List Bool) : (L.map V.bl).all flatV = true := by
  rw [List.all_eq_true]
  intro v hv
  obtain ⟨s, _, rfl⟩ := List.mem_map.mp hv
  rfl
theorem w_inB {K : PySem.W.Frag} {b : Bool} {p : Addr} {L : List Bool} {H : Hp} {Q : VK} (h : H p = some (.lst (L.map V.bl))) (q : Q (.bl (decide (b ∈ L))) H) : rIn K false (.bl b) (.ref p) H Q :=
  ⟨p, _, rfl, .inl (.of h), rfl, flat_bls L, by rw [inV_bl]; exact q⟩
theorem allSame_law {L : List Bool} (ne : L ≠ []) : allSame L = if true ∈ L ∧ false ∈ L then none else some (decide (true ∈ L)) := by
  have key : L.all (fun b => b == L.headD false) = true ↔ ¬ (true ∈ L ∧ false ∈ L) := by
    cases L with
    | nil => exact absurd rfl ne
    | cons x r =>
      rw [List.all_eq_true]
      constructor
      · rintro h ⟨h1, h2⟩
        have a := h _ h1
        have b := h _ h2
        cases x <;> simp at a b
      · intro h y hy
        show (y == x) = true
        cases x <;> cases y <;> first | rfl | (exfalso; exact h ⟨by simp_all, by simp_all⟩)
  unfold allSame
  by_cases h : true ∈ L ∧ false ∈ L
  · rw [if_neg (fun z => key.mp z h), if_pos h]
  · rw [if_pos (key.mpr h), if_neg h]
    congr 1
    cases L with
    | nil => exact absurd rfl ne
    | cons x r =>
      show x = _
      cases x with
      | true => simp
      | false =>
        refine (decide_eq_false_iff_not.mpr fun z => ?_).symm
        exact h ⟨z, by simp⟩
section
variable {P : Program} {w : World} {K : PySem.W.Frag} {mg : Str → Option Value} {base : Heap}
theorem ok_law_decided (c_law_holds : Cd P w K mg base 2 "_law_holds" spHolds) (c_law_bounds : Cd P w K mg base 1 "_law_bounds" (spBoundsG K)) (Z : St1 K mg "_law_decided" s_law_decided ["op", "a", "b"]) : Cd P w K mg base 3 "_law_decided" (spDecided K) := by
  refine Z.cd sc_law_decided (fun vs H Q E h => by obtain ⟨op, g, v, u, F, G, rfl, _⟩ := h; rfl) (fun f cdv A outer s H vs Q E hr h => ?_)
  obtain ⟨op, g, v, u, F, G, rfl, hm, hF, hG, gF, gG, q⟩ := h
  refine ⟨_, (Evl.pss_cut (ps_set (i := 3) sc_law_decided.nd rfl (.inl rfl) (pe_and (pe_cmpR op_notNQ (pv 1) pe_non (nomark _)) (pe_and (pe_cmpR op_notNQ (pv 2) pe_non (nomark _)) (pe_and (pe_cmpR op_eq (pe_ix ix_tup (pv 1) pe_int (fun _ _ => rfl)) pe_str (nomark _)) (pe_one (pe_cmpR op_eq (pe_ix ix_tup (pv 2) pe_int (fun _ _ => rfl)) pe_str (nomark _)))))))
      (Evl.pss_cut (ps_if (pt_val (pv 3)) (pss_cons (ps_set (i := 4) sc_law_decided.nd rfl (.inl rfl) (pe_lst pa_nil))
      (pss_cons (ps_for PassesOwn.never rfl (pi_tup (pe_ix ix_tup (pv 1) pe_int (fun _ _ => rfl))) (pg_name (i := 5) sc_law_decided.nd rfl (.inr rfl))
      (pss_one (ps_set (i := 4) sc_law_decided.nd rfl (.inl rfl) (pe_op op_cat (pv 4) (pe_lc (own := [("y", 10)]) rfl sc_law_decided.nd (pi_tup (pe_ix ix_tup (pv 2) pe_int (fun _ _ => rfl))) (blkOk_by (own := [("y", 10)]) (N := ["op", "a", "b", "rows", "found", "x", "low", "high", "lo", "hi", "y"]) (sc := (defScope s_law_decided)) (by decide +kernel)) (fun _ _ _ _ _ => (pg_name (i := 10) sc_law_decided.nd rfl (.inl rfl))) (fun _ _ _ _ _ => pts_nil) (fun _ _ _ _ _ => (pe_cd c_law_holds hr (by first | decide | omega) (by rfl) (pa_cons (pv 0) (pa_cons (pv 5) (pa_cons (pv 10) pa_nil))))))))))
      (pss_cons (ps_if (PW.pt (pw_and (pt_cmpR op_in_seq pe_bl (pv 4) rfl) (pw_and1 (pt_cmpR op_in_seq pe_bl (pv 4) rfl)))) (pss_one (ps_ret pe_non)) pss_nil)
      (pss_one (ps_ret (pe_cmpR op_in_seq pe_bl (pv 4) rfl)))))) pss_nil)
      (pss_cons (ps_asg (pe_cd c_law_bounds hr (by first | decide | omega) (by rfl) (pa_cons (pv 1) pa_nil)) (pg_tup rfl (pgs_cons (pg_name (i := 6) sc_law_decided.nd rfl (.inl rfl)) (pgs_cons (pg_name (i := 7) sc_law_decided.nd rfl (.inl rfl)) pgs_nil))))
      (pss_cons (ps_asg (pe_cd c_law_bounds hr (by first | decide | omega) (by rfl) (pa_cons (pv 2) pa_nil)) (pg_tup rfl (pgs_cons (pg_name (i := 8) sc_law_decided.nd rfl (.inl rfl)) (pgs_cons (pg_name (i := 9) sc_law_decided.nd rfl (.inl rfl)) pgs_nil))))
      (pss_cons (ps_if (PW.pt (pw_and (pt_cmpR op_in_seq (pv 0) (pe_tup (pa_cons pe_str (pa_cons pe_str pa_nil))) rfl) (pw_and1 (PW.pt (pw_or (pt_cmpR op_lt (pv 7) (pv 8) (nomark _)) (pw_or1 (pt_cmpR op_ge (pv 6) (pv 9) (nomark _)))))))) (pss_one (ps_ret (pe_cmpR op_eq (pe_cmpR op_lt (pv 7) (pv 8) (nomark _)) (pe_cmpR op_eq (pv 0) pe_str (nomark _)) (nomark _)))) pss_nil)
      (pss_one (ps_ret pe_non))))))), ?_⟩
  walk_at "ws"
  refine Evl.q_cut (M := fun σ' H' => H' = H ∧ σ' = [some (.str op), some v, some u, some (.bl (F.isRow && G.isRow))] ++ List.replicate 7 none) ?_ ?_
  · cases F with
    | all =>
      obtain rfl : v = .non := hF
      walk_at "wd"
      exact ⟨rfl, rfl⟩
    | rng lo hi =>
      obtain ⟨a, rfl, h1⟩ := hF
      cases G with
      | all =>
        obtain rfl : u = .non := hG
        walk_at "wd"
        exact ⟨rfl, rfl⟩
      | rng lo' hi' =>
        obtain ⟨a', rfl, h1'⟩ := hG
        walk_at "wd"
        exact ⟨rfl, rfl⟩
      | row bs =>
        obtain ⟨a', b', rfl, h1', h2'⟩ := hG
        walk_at "wd"
        exact ⟨rfl, rfl⟩
    | row ws =>
      obtain ⟨a, b, rfl, h1, h2⟩ := hF
      cases G with
      | all =>
        obtain rfl : u = .non := hG
        walk_at "wd"
        exact ⟨rfl, rfl⟩
      | rng lo' hi' =>
        obtain ⟨a', rfl, h1'⟩ := hG
        walk_at "wd"
        exact ⟨rfl, rfl⟩
      | row bs =>
        obtain ⟨a', b', rfl, h1', h2'⟩ := hG
        walk_at "wd"
        exact ⟨rfl, rfl⟩
  rintro σ1 H1 ⟨rfl, rfl⟩
  dsimp only [List.replicate, List.cons_append, List.nil_append]
  refine Evl.q_cut (M := fun σ' H' => H' = H1 ∧ ¬ (F.isRow = true ∧ G.isRow = true) ∧ σ' = [some (.str op), some v, some u, some (.bl (F.isRow && G.isRow))] ++ List.replicate 7 none) ?_ ?_
  · cases hFr : F.isRow with
    | false =>
      walk_at "ws"
      exact ⟨rfl, by simp, rfl⟩
    | true =>
      obtain ⟨ws, rfl⟩ := isRow_of hFr
      obtain ⟨a, b, rfl, h1, h2⟩ := id hF
      cases hGr : G.isRow with
      | false =>
        walk_at "ws"
        exact ⟨rfl, by simp, rfl⟩
      | true =>
        obtain ⟨bs, rfl⟩ := isRow_of hGr
        obtain ⟨a', b', rfl, h1', h2'⟩ := id hG
        have lw := gF.l16 ws rfl
        have lb := gG.l16 bs rfl
        rw [Bool.true_and]
        walk_at "ws"
        refine w_kLst (by show 0 ≤ sizeLine; decide) fun p0 H0 np0 s0 hp0 => ?_
        have h1s := s0.sqT h1
        have h2s := s0.sqT h2
        have h3s := s0.sqT h2'
        walk_at "ws"
        refine w_forT (ws.map V.int) (fun i σ' H' => Same H0 H' ∧ ∃ (pf : Addr) (x5 : Option V), H' pf = some (.lst ((pairsG g (ws.take i) bs).map V.bl)) ∧ σ' = [some (.str op), some (.ref a), some (.ref a'), some (.bl true), some (.ref pf), x5] ++ List.replicate 5 none) h2s ⟨fun _ _ e => e, p0, none, by rw [hp0]; rfl, rfl⟩ (fun i σ' H' _ h => h.1.sqT h2s) (fun i x σ' H3 hx h => ?_) (fun σ' H3 h => ?_)
        · obtain ⟨s3, pf, x5, hpf, rfl⟩ := h
          obtain ⟨z, ez, rfl⟩ := map_get hx
          have hi := (List.getElem?_eq_some_iff.mp ez).1
          have wz := gF.2.2.1 z (List.mem_of_getElem? ez)
          have mi : (pairsG g (ws.take i) bs).length ≤ 16 * 16 := by rw [pairsG_len, List.length_take]; exact Nat.mul_le_mul (by omega) lb
          have h4 := s3.sqT (s0.sqT h1')
          have h5 := s3.sqT h3s
          dsimp only [List.replicate, List.cons_append, List.nil_append]
          walk_at "ws"
          refine w_lcT (bs.map V.int) (fun D j H' => H3 D = none ∧ Same H3 H' ∧ H' D = some (.lst (((bs.take j).map (g z)).map V.bl))) h5 (fun D nD => ⟨nD, Same.new nD, upd_same⟩) (fun D j H' _ h => h.2.1.sqT h5) (fun D j y H4 hy h => ?_) (fun D H4 nD h => ?_)
          · obtain ⟨nD, s4, hD⟩ := h
            obtain ⟨y', ey, rfl⟩ := map_get hy
            have hj := (List.getElem?_eq_some_iff.mp ey).1
            have wy := gG.2.2.1 y' (List.mem_of_getElem? ey)
            walk_at "ws"
            refine ⟨rfl, ?_⟩
            walk_at "ws"
            refine ⟨op, g, z, y', rfl, hm, wz, wy, ?_⟩
            refine ⟨_, hD, by rw [List.length_map, List.length_map, List.length_take]; exact small1000 (by omega), nD, fun a o ha => ?_, ?_⟩
            · rw [upd_ne (ne_of_none ha nD)]; exact s4 _ _ ha
            · rw [upd_same, take_more ey]; simp
          · obtain ⟨_, s4, hD⟩ := h
            rw [List.length_map, List.take_length] at hD
            walk_at "ws"
            refine w_catL (s4 _ _ hpf) hD (by rw [List.length_map, List.length_map, List.length_map]; exact Nat.le_trans (show _ ≤ 1000 by omega) (by decide)) fun p2 H5 np2 s5 hp2 => ?_
            walk_at "ws"
            refine ⟨s3.trans (s4.trans s5), p2, _, ?_, rfl⟩
            rw [hp2, take_more ez, pairsG_snoc, List.map_append]
        · obtain ⟨s3, pf, x5, hpf, rfl⟩ := h
          rw [List.length_map, List.take_length] at hpf
          dsimp only [List.replicate, List.cons_append, List.nil_append]
          have hne : pairsG g ws bs ≠ [] := pairsG_ne gF gG
          have eD : decF op g (.row ws) (.row bs) = allSame (pairsG g ws bs) := rfl
          rw [eD, allSame_law hne] at q
          have sa := s0.trans s3
          walk_at "ws"
          refine w_inB hpf ?_
          walk_at "ws"
          refine w_dec (fun e1 => ?_) (fun e1 => ?_)
          · walk_at "ws"
            refine w_inB hpf ?_
            walk_at "ws"
            refine w_dec (fun e2 => ?_) (fun e2 => ?_)
            · rw [if_pos ⟨e1, e2⟩] at q
              walk_at "ws"
              exact q _ sa
            · rw [if_neg (fun z => e2 z.2)] at q
              walk_at "ws"
              exact w_inB hpf (q _ sa)
          · rw [if_neg (fun z => e1 z.1)] at q
            walk_at "wr"
            exact w_inB hpf (q _ sa)
  rintro σ2 H2 ⟨rfl, nr, rfl⟩
  have ed := decF_B (op := op) (g := g) nr
  rw [ed] at q
  dsimp only [List.replicate, List.cons_append, List.nil_append]
  walk_at "ws"
  refine ⟨v, F, rfl, hF, gF, fun p H3 np s3 hp => ?_⟩
  walk_at "ws"
  refine ⟨u, G, rfl, hG.same s3, gG, fun p2 H4 np2 s4 hp2 => ?_⟩
  have st := s3.trans s4
  have bF := gF.bnd
  have bG := gG.bnd
  walk_at "ws"
  unfold decB at q
  refine w_kTup (by show 2 ≤ sizeLine; decide) fun p3 H5 np3 s5 hp3 => ?_
  refine w_in2P (.of hp3) ?_
  have su := st.trans s5
  by_cases ho : op = "bltu" ∨ op = "bgeu"
  · rw [decide_eq_true ho]
    rw [if_pos ho] at q
    walk_at "ws"
    refine w_dec (fun e1 => ?_) (fun e1 => ?_)
    · rw [if_pos e1] at q
      walk_at "ws"
      have e : (decide (F.hi < G.lo) == decide (op = "bltu")) = decide (op = "bltu") := by rw [decide_eq_true e1]; cases decide (op = "bltu") <;> rfl
      rw [e]
      exact q _ su
    · rw [if_neg e1] at q
      walk_at "ws"
      refine w_dec (fun e2 => ?_) (fun e2 => ?_)
      · rw [if_pos e2] at q
        walk_at "ws"
        have e : (decide (F.hi < G.lo) == decide (op = "bltu")) = decide (op = "bgeu") := by
          rw [decide_eq_false e1]
          rcases ho with rfl | rfl <;> decide
        rw [e]
        exact q _ su
      · rw [if_neg e2] at q
        walk_at "wr"
        exact q _ su
  · rw [decide_eq_false ho]
    rw [if_neg ho] at q
    walk_at "ws"
    exact q _ su
end
end K21

open PySem.W
namespace K21
theorem bitNot_eq (x : Int) : Builtin.bitNot x = -x - 1 := rfl
theorem and_nat (a b : Nat) : Builtin.bitAnd (a : Int) (b : Int) = ((a &&& b : Nat) : Int) := by
  unfold Builtin.bitAnd
  rw [decide_eq_true (Int.natCast_nonneg a), decide_eq_true (Int.natCast_nonneg b)]
  rfl
theorem or_nat (a b : Nat) : Builtin.bitOr (a : Int) (b : Int) = ((a ||| b : Nat) : Int) := by
  unfold Builtin.bitOr
  unfold Builtin.bitAnd
  have e1 : decide ((0 : Int) ≤ Builtin.bitNot (a : Int)) = false := by rw [bitNot_eq]; exact decide_eq_false (by omega)
  have e2 : decide ((0 : Int) ≤ Builtin.bitNot (b : Int)) = false := by rw [bitNot_eq]; exact decide_eq_false (by omega)
  rw [e1, e2]
  simp only [bitNot_eq]
  have f1 : (-(-(a : Int) - 1) - 1).toNat = a := by omega
  have f2 : (-(-(b : Int) - 1) - 1).toNat = b := by omega
  rw [f1, f2]
  omega
theorem bitOn_nat (b j : Nat) : bitOn (b : Int) j = b.testBit j := by
  unfold bitOn
  rw [Nat.testBit_eq_decide_div_mod_eq]
  congr 1
  apply propext
  constructor
  · intro h; exact_mod_cast h
  · intro h; exact_mod_cast h
theorem mod2_succ (x k : Nat) : x % 2 ^ (k + 1) = x % 2 ^ k + (if x.testBit k = true then 2 ^ k else 0) := by
  rw [Nat.mod_pow_succ, Nat.testBit_eq_decide_div_mod_eq]
  rcases Nat.mod_two_eq_zero_or_one (x / 2 ^ k) with h | h <;> simp [h]
theorem and_mem (a b : Nat) : ∀ k : Nat, (((a &&& b) % 2 ^ k : Nat) : Int) ∈ sums (bitsK (b : Int) k)
  | 0 => by
    have e : sums (bitsK (b : Int) 0) = [0] := rfl
    rw [e]
    simp [Nat.mod_one]
  | k + 1 => by
    have ih := and_mem a b k
    rw [mod2_succ, bitsK_succ, bitOn_nat]
    cases e : b.testBit k with
    | false =>
      have : (a &&& b).testBit k = false := by rw [Nat.testBit_and, e, Bool.and_false]
      rw [this]
      simpa using ih
    | true =>
      rw [if_pos rfl, sums_snoc]
      cases e2 : (a &&& b).testBit k with
      | false => exact List.mem_append_left _ (by simpa using ih)
      | true =>
        refine List.mem_append_right _ (List.mem_map.mpr ⟨_, ih, ?_⟩)
        simp
theorem and_bnd {x y : Int} (hx : W32 x) (hy : W32 y) : 0 ≤ Builtin.bitAnd x y ∧ Builtin.bitAnd x y ≤ x ∧ Builtin.bitAnd x y ≤ y := by
  obtain ⟨a, rfl⟩ := Int.eq_ofNat_of_zero_le hx.1
  obtain ⟨b, rfl⟩ := Int.eq_ofNat_of_zero_le hy.1
  rw [and_nat]
  have h1 : a &&& b ≤ a := Nat.and_le_left
  have h2 : a &&& b ≤ b := Nat.and_le_right
  omega
theorem or_bnd {x y : Int} {n : Nat} (hx : W32 x) (hy : W32 y) (h1 : x < 2 ^ n) (h2 : y < 2 ^ n) : 0 ≤ Builtin.bitOr x y ∧ Builtin.bitOr x y < 2 ^ n ∧ 0 ≤ Builtin.bitXor x y ∧ Builtin.bitXor x y < 2 ^ n := by
  obtain ⟨a, rfl⟩ := Int.eq_ofNat_of_zero_le hx.1
  obtain ⟨b, rfl⟩ := Int.eq_ofNat_of_zero_le hy.1
  unfold Builtin.bitXor
  rw [and_nat, or_nat]
  have g1 : a < 2 ^ n := by exact_mod_cast h1
  have g2 : b < 2 ^ n := by exact_mod_cast h2
  have h3 : a ||| b < 2 ^ n := Nat.or_lt_two_pow g1 g2
  have h3' : ((a ||| b : Nat) : Int) < 2 ^ n := by exact_mod_cast h3
  have h4 : a &&& b ≤ a := Nat.and_le_left
  have h5 : a ≤ a ||| b := Nat.left_le_or
  omega
theorem shr_bnd {x : Int} {n : Nat} (hx : W32 x) : 0 ≤ x / 2 ^ n ∧ x / 2 ^ n ≤ x := by
  have p : (0 : Int) < 2 ^ n := Int.pow_pos (by decide)
  exact ⟨Int.ediv_nonneg hx.1 (by omega), Int.ediv_le_self _ hx.1⟩
theorem sgn_bnd {x : Int} (hx : W32 x) : -2147483648 ≤ sgn x ∧ sgn x < 2147483648 := by
  unfold W32 at hx
  unfold sgn
  split <;> omega
theorem m32 (x : Int) : W32 (x % 4294967296) := ⟨Int.emod_nonneg _ (by decide), Int.emod_lt_of_pos _ (by decide)⟩
theorem word_of {op : Str} {g : Int → Int → Int} (hm : (op, g) ∈ tab13) {x y : Int} (hx : W32 x) (hy : W32 y) : W32 (g x y) := by
  have x0 := hx.1
  have x1 := hx.2
  have y0 := hy.1
  have y1 := hy.2
  have ab := and_bnd hx hy
  have ob := or_bnd (n := 32) hx hy (by omega) (by omega)
  simp only [tab13, List.mem_cons, Prod.mk.injEq, List.not_mem_nil, or_false] at hm
  rcases hm with ⟨rfl, rfl⟩ | ⟨rfl, rfl⟩ | ⟨rfl, rfl⟩ | ⟨rfl, rfl⟩ | ⟨rfl, rfl⟩ | ⟨rfl, rfl⟩ | ⟨rfl, rfl⟩ | ⟨rfl, rfl⟩ | ⟨rfl, rfl⟩ | ⟨rfl, rfl⟩ | ⟨rfl, rfl⟩ | ⟨rfl, rfl⟩ | ⟨rfl, rfl⟩
  · exact m32 _
  · exact m32 _
  · exact m32 _
  · exact ⟨ab.1, by show Builtin.bitAnd x y < _; omega⟩
  · exact ⟨ob.1, by show Builtin.bitOr x y < _; omega⟩
  · exact ⟨ob.2.2.1, by show Builtin.bitXor x y < _; omega⟩
  · exact m32 _
  · have h := shr_bnd (n := (y % 32).toNat) hx
    exact ⟨h.1, by show x / 2 ^ (y % 32).toNat < _; omega⟩
  · exact m32 _
  · show W32 (if sgn x < sgn y then 1 else 0)
    split <;> exact ⟨by decide, by decide⟩
  · show W32 (if x < y then 1 else 0)
    split <;> exact ⟨by decide, by decide⟩
  · show W32 (if y = 0 then 4294967295 else x / y)
    split
    · exact ⟨by decide, by decide⟩
    · have h1 : 0 ≤ x / y := Int.ediv_nonneg x0 y0
      have h2 : x / y ≤ x := Int.ediv_le_self y x0
      exact ⟨h1, by omega⟩
  · show W32 (if y = 0 then x else x % y)
    split
    · exact hx
    · have h1 : 0 ≤ x % y := Int.emod_nonneg _ (by omega)
      have h2 : x % y < y := Int.emod_lt_of_pos _ (by omega)
      exact ⟨h1, by omega⟩
end K21

open PySem.W
namespace K21
theorem in_span {lo hi w : Int} (h0 : 0 ≤ lo) (h1 : hi < 4294967296) (h2 : lo ≤ w) (h3 : w ≤ hi) : (spanF lo hi).alw w = true := by
  rw [alw_span ⟨by omega, by omega⟩ h0 h1, decide_eq_true h2, decide_eq_true h3]; rfl
theorem ediv_mono {a b c : Int} (hc : 0 < c) (h : a ≤ b) : a / c ≤ b / c := Int.ediv_le_ediv hc h
theorem pow_le32 {n : Nat} (h : n ≤ 32) : (2 : Int) ^ n ≤ 4294967296 := (by decide : ∀ n : _root_.Fin 33, (2 : Int) ^ n.val ≤ 4294967296) ⟨n, by omega⟩
theorem r_sound {op : Str} {g : Int → Int → Int} {r : Fa → Fa → Fa} {F G : Fa} {x y : Int} (hm : (op, g, r) ∈ tabR) (gF : F.Good) (gG : G.Good) (hx : W32 x) (hy : W32 y) (ax : F.alw x = true) (ay : G.alw y = true) : (r F G).alw (g x y) = true := by
  have bF := gF.bnd
  have bG := gG.bnd
  have ix := alw_in gF hx ax
  have iy := alw_in gG hy ay
  have x0 := hx.1
  have x1 := hx.2
  have y0 := hy.1
  have y1 := hy.2
  have yc : ∀ c, wordOf G = some c → y = c := fun c h => by
    have e := wordOf_lo h
    subst e
    simpa [Fa.alw] using ay
  simp only [tabR, List.mem_cons, Prod.mk.injEq, List.not_mem_nil, or_false] at hm
  rcases hm with ⟨rfl, rfl, rfl⟩ | ⟨rfl, rfl, rfl⟩ | ⟨rfl, rfl, rfl⟩ | ⟨rfl, rfl, rfl⟩ | ⟨rfl, rfl, rfl⟩ | ⟨rfl, rfl, rfl⟩ | ⟨rfl, rfl, rfl⟩ | ⟨rfl, rfl, rfl⟩ | ⟨rfl, rfl, rfl⟩ | ⟨rfl, rfl, rfl⟩ | ⟨rfl, rfl, rfl⟩ | ⟨rfl, rfl, rfl⟩ | ⟨rfl, rfl, rfl⟩
  · unfold rAdd dAdd
    split
    · rw [Int.emod_eq_of_lt (by omega) (by omega)]
      exact in_span (by omega) (by omega) (by omega) (by omega)
    · rfl
  · unfold rSub dSub
    split
    · rw [Int.emod_eq_of_lt (by omega) (by omega)]
      exact in_span (by omega) (by omega) (by omega) (by omega)
    · rfl
  · rfl
  · have ab := and_bnd hx hy
    have sp : (spanF 0 (min F.hi G.hi)).alw (dAnd x y) = true := in_span (by omega) (by omega) ab.1 (by unfold dAnd; omega)
    unfold rAnd
    split
    · rename_i c h
      split
      · obtain rfl := yc c h
        obtain ⟨a, rfl⟩ := Int.eq_ofNat_of_zero_le x0
        obtain ⟨b, rfl⟩ := Int.eq_ofNat_of_zero_le y0
        have m := and_mem a b 32
        have lt : a &&& b < 2 ^ 32 := Nat.lt_of_le_of_lt Nat.and_le_left (by omega)
        rw [Nat.mod_eq_of_lt lt] at m
        show decide (dAnd _ _ ∈ _) = true
        unfold dAnd
        rw [and_nat]
        exact decide_eq_true m
      · exact sp
    · exact sp
  · have spec := intBits_spec (x := max F.hi G.hi) (by omega)
    have le := intBits_le (x := max F.hi G.hi) (by omega) (by omega)
    have ob := or_bnd (n := Builtin.Int.intBits (max F.hi G.hi)) hx hy (by omega) (by omega)
    have p32 : (2 : Int) ^ Builtin.Int.intBits (max F.hi G.hi) ≤ 4294967296 := pow_le32 le
    unfold rOr dOr
    exact in_span (by omega) (by omega) ob.1 (by omega)
  · have spec := intBits_spec (x := max F.hi G.hi) (by omega)
    have le := intBits_le (x := max F.hi G.hi) (by omega) (by omega)
    have ob := or_bnd (n := Builtin.Int.intBits (max F.hi G.hi)) hx hy (by omega) (by omega)
    have p32 : (2 : Int) ^ Builtin.Int.intBits (max F.hi G.hi) ≤ 4294967296 := pow_le32 le
    unfold rOr dXor
    exact in_span (by omega) (by omega) ob.2.2.1 (by omega)
  · unfold rShl dShl
    cases h : wordOf G with
    | none => rfl
    | some c =>
      obtain rfl := yc c h
      dsimp only
      split
      · have p : (0 : Int) < 2 ^ (y % 32).toNat := Int.pow_pos (by decide)
        have a1 : F.lo * 2 ^ (y % 32).toNat ≤ x * 2 ^ (y % 32).toNat := Int.mul_le_mul_of_nonneg_right ix.1 (by omega)
        have a2 : x * 2 ^ (y % 32).toNat ≤ F.hi * 2 ^ (y % 32).toNat := Int.mul_le_mul_of_nonneg_right ix.2 (by omega)
        have a0 : 0 ≤ F.lo * 2 ^ (y % 32).toNat := Int.mul_nonneg bF.1 (by omega)
        rw [Int.emod_eq_of_lt (a := x * 2 ^ (y % 32).toNat) (b := 4294967296) (by omega) (by omega)]
        exact in_span a0 (by omega) a1 a2
      · rfl
  · unfold rShr dShr
    cases h : wordOf G with
    | none => rfl
    | some c =>
      obtain rfl := yc c h
      dsimp only
      have p : (0 : Int) < 2 ^ (y % 32).toNat := Int.pow_pos (by decide)
      have h1 := shr_bnd (n := (y % 32).toNat) (x := F.hi) ⟨by omega, by omega⟩
      have h2 := shr_bnd (n := (y % 32).toNat) (x := F.lo) ⟨by omega, by omega⟩
      exact in_span h2.1 (by omega) (ediv_mono p ix.1) (ediv_mono p ix.2)
  · rfl
  · show decide (dSlt x y ∈ [0, 1]) = true
    unfold dSlt
    split <;> decide
  · show decide (dSltu x y ∈ [0, 1]) = true
    unfold dSltu
    split <;> decide
  · unfold rDivu dDivu
    cases h : wordOf G with
    | none => rfl
    | some c =>
      obtain rfl := yc c h
      dsimp only
      split
      · rfl
      · rename_i n
        have p : (0 : Int) < y := by omega
        have h1 : F.hi / y ≤ F.hi := Int.ediv_le_self y (by omega)
        exact in_span (Int.ediv_nonneg bF.1 (by omega)) (by omega) (ediv_mono p ix.1) (ediv_mono p ix.2)
  · unfold rRemu dRemu
    cases h : wordOf G with
    | none => rfl
    | some c =>
      obtain rfl := yc c h
      dsimp only
      split
      · rfl
      · rename_i n
        have h1 : 0 ≤ x % y := Int.emod_nonneg _ (by omega)
        have h2 : x % y < y := Int.emod_lt_of_pos _ (by omega)
        split
        · rw [Int.emod_eq_of_lt (by omega) (by omega)]
          exact in_span (by omega) (by omega) ix.1 ix.2
        · exact in_span (by omega) (by omega) h1 (by omega)
theorem res_sound {op : Str} {g : Int → Int → Int} {r : Fa → Fa → Fa} {F G R : Fa} {x y : Int} (hm : (op, g, r) ∈ tabR) (gF : F.Good) (gG : G.Good) (hx : W32 x) (hy : W32 y) (ax : F.alw x = true) (ay : G.alw y = true) (h : ResR g r F G R) : R.alw (g x y) = true := by
  have base := r_sound hm gF gG hx hy ax ay
  unfold ResR at h
  split at h
  · rename_i ws bs
    split at h
    · obtain ⟨ms, asc, mem, rfl⟩ := h
      refine alw_factOf asc (fun k hk => ?_) ((mem _).mpr ?_)
      · obtain ⟨a, ha, hk⟩ := List.mem_flatMap.mp ((mem k).mp hk)
        obtain ⟨b, hb, rfl⟩ := List.mem_map.mp hk
        exact word_of (tabR_13 hm) (gF.2.2.1 a ha) (gG.2.2.1 b hb)
      · exact List.mem_flatMap.mpr ⟨x, by simpa [Fa.alw] using ax, List.mem_map.mpr ⟨y, by simpa [Fa.alw] using ay, rfl⟩⟩
    · rw [h]; exact base
  · rw [h]; exact base
theorem res_uniq {g : Int → Int → Int} {r : Fa → Fa → Fa} {F G R R' : Fa} (h : ResR g r F G R) (h' : ResR g r F G R') : R = R' := by
  cases F with
  | row ws =>
    cases G with
    | row bs =>
      unfold ResR at h h'
      dsimp only at h h'
      by_cases c : ws.length * bs.length ≤ 64
      · rw [if_pos c] at h h'
        obtain ⟨ms, a1, m1, rfl⟩ := h
        obtain ⟨ms', a2, m2, rfl⟩ := h'
        rw [asc_eq a1 a2 fun k => (m1 k).trans (m2 k).symm]
      · rw [if_neg c] at h h'
        rw [h, h']
    | all => exact Eq.trans h (Eq.symm h')
    | rng l u => exact Eq.trans h (Eq.symm h')
  | all => exact Eq.trans h (Eq.symm h')
  | rng l u => exact Eq.trans h (Eq.symm h')
theorem dec_sound {op : Str} {g : Int → Int → Bool} {F G : Fa} {x y : Int} {b : Bool} (hm : (op, g) ∈ tab6) (gF : F.Good) (gG : G.Good) (hx : W32 x) (hy : W32 y) (ax : F.alw x = true) (ay : G.alw y = true) (h : decF op g F G = some b) : g x y = b := by
  have ix := alw_in gF hx ax
  have iy := alw_in gG hy ay
  unfold decF at h
  split at h
  · rename_i ws bs
    unfold allSame at h
    split at h
    · rename_i al
      rw [List.all_eq_true] at al
      have m : g x y ∈ pairsG g ws bs := List.mem_flatMap.mpr ⟨x, by simpa [Fa.alw] using ax, List.mem_map.mpr ⟨y, by simpa [Fa.alw] using ay, rfl⟩⟩
      have := al _ m
      cases h
      simpa using this
    · cases h
  · split at h
    · rename_i ho
      split at h
      · rename_i lt
        cases h
        simp only [tab6, List.mem_cons, Prod.mk.injEq, List.not_mem_nil, or_false] at hm
        rcases hm with ⟨rfl, rfl⟩ | ⟨rfl, rfl⟩ | ⟨rfl, rfl⟩ | ⟨rfl, rfl⟩ | ⟨rfl, rfl⟩ | ⟨rfl, rfl⟩
        · exact absurd ho (by decide)
        · exact absurd ho (by decide)
        · exact absurd ho (by decide)
        · exact absurd ho (by decide)
        · show decide (x < y) = _
          rw [decide_eq_true (by omega)]; rfl
        · show decide (y ≤ x) = _
          rw [decide_eq_false (by omega)]; rfl
      · split at h
        · rename_i nlt le
          cases h
          simp only [tab6, List.mem_cons, Prod.mk.injEq, List.not_mem_nil, or_false] at hm
          rcases hm with ⟨rfl, rfl⟩ | ⟨rfl, rfl⟩ | ⟨rfl, rfl⟩ | ⟨rfl, rfl⟩ | ⟨rfl, rfl⟩ | ⟨rfl, rfl⟩
          · exact absurd ho (by decide)
          · exact absurd ho (by decide)
          · exact absurd ho (by decide)
          · exact absurd ho (by decide)
          · show decide (x < y) = _
            rw [decide_eq_false (by omega)]; rfl
          · show decide (y ≤ x) = _
            rw [decide_eq_true (by omega)]; rfl
        · cases h
    · cases h
end K21

open PySem.W
namespace K21
theorem w_notNB {b : Bool} {H : Hp} {Q : VK} (q : Q (.bl true) H) : rNotNQ (.bl b) .non H Q := ⟨rfl, q⟩
local macro_rules | `(tactic| walk_at "w1") => `(tactic| first
  | (with_reducible refine w_isiB ?_)
  | (with_reducible refine w_notNB ?_)
  | (with_reducible refine w_notNN ?_)
  | ((with_reducible refine' w_ixTs ?hh ?ha ?_); (case hh => assumption); (case ha => exact rfl)))
theorem sc_law : FnScope ["script", "draw", "a", "b", "ops", "op", "found", "branch", "answer", "due", "x", "y"] ["script"] (defScope s_law) := ⟨rfl, rfl, rfl, by decide +kernel, rfl, by decide +kernel, by decide +kernel⟩
def obD : Option Bool → PyData
  | some b => .bool b
  | none => .none
theorem dpOb {K : PySem.W.Frag} {H : Hp} (o : Option Bool) : Dp K H (vb o) (obD o) := by
  cases o with
  | none => exact .non
  | some b => exact .bl b
theorem ob_shaped (o : Option Bool) : SeqAt.shaped (obD o) = true := by
  cases o with
  | none => rfl
  | some b => rfl
theorem ops_at {k : Int} (h0 : 0 ≤ k) (h1 : k < 13) : ∃ op g r, (op, g, r) ∈ tabR ∧ atI (tabR.map fun p => V.str p.1) k = some (.str op) := by
  have hl : k.toNat < tabR.length := by show k.toNat < 13; omega
  refine ⟨tabR[k.toNat].1, tabR[k.toNat].2.1, tabR[k.toNat].2.2, List.getElem_mem hl, atI_of (by omega) ?_⟩
  rw [List.getElem?_map, List.getElem?_eq_getElem hl]; rfl
theorem br_at {k : Int} (h0 : 0 ≤ k) (h1 : k < 6) : ∃ op g, (op, g) ∈ tab6 ∧ atI (tab6.map fun p => V.str p.1) k = some (.str op) := by
  have hl : k.toNat < tab6.length := by show k.toNat < 6; omega
  refine ⟨tab6[k.toNat].1, tab6[k.toNat].2, List.getElem_mem hl, atI_of (by omega) ?_⟩
  rw [List.getElem?_map, List.getElem?_eq_getElem hl]; rfl
def spLaw (K : PySem.W.Frag) : Sp := fun vs H Q _ => ∃ (a : Addr) (ns : List Int), vs = [.ref a] ∧ SqL K H a (ns.map V.int) ∧ ns.length ≤ 63 ∧ ∀ H', Q (.bl true) H'
section
variable {P : Program} {w : World} {K : PySem.W.Frag} {mg : Str → Option Value} {base : Heap}
theorem ok_law (b_isinstance : mg "isinstance" = none) (b_bool : mg "bool" = none)
    (c_law_draw : Cd P w K mg base 1 "_law_draw" (spDraw K)) (c_law_take : Cd P w K mg base 1 "_law_take" spTake) (c_law_fact : Cd P w K mg base 3 "_law_fact" (spFact K)) (c_law_samples : Cd P w K mg base 2 "_law_samples" (spSamp K)) (c_law_allows : Cd P w K mg base 1 "_law_allows" (spAllows K))
    (c_result : Cd P w K mg base 4 "result" (spResult K)) (c_law_result : Cd P w K mg base 3 "_law_result" (spResult K)) (c_decided : Cd P w K mg base 3 "decided" (spDecided K)) (c_law_decided : Cd P w K mg base 3 "_law_decided" (spDecided K)) (c_law_compute : Cd P w K mg base 2 "_law_compute" spCompL) (c_law_holds : Cd P w K mg base 2 "_law_holds" spHolds)
    {f : Addr} {fd : FuncData} (F : Fun K "law" "law" s_law f fd) : RunG P w K mg base f fd "script" (spLaw K) := by
  refine runG_of (k := 5) F sc_law ⟨rfl, by decide, by decide⟩ (fun cdv s H vs Q hr h => ?_)
  obtain ⟨a, ns, rfl, hS, hlen, q⟩ := h
  refine ⟨_, (pss_cons (ps_set (i := 1) sc_law.nd rfl (.inl rfl) (pe_cd c_law_draw hr (by first | decide | omega) (by rfl) (pa_cons (pv 0) pa_nil)))
      (pss_cons (ps_set (i := 2) sc_law.nd rfl (.inl rfl) (pe_cd c_law_fact hr (by first | decide | omega) (by rfl) (pa_cons (pv 1) pa_nil)))
      (pss_cons (ps_set (i := 3) sc_law.nd rfl (.inl rfl) (pe_cd c_law_fact hr (by first | decide | omega) (by rfl) (pa_cons (pv 1) pa_nil)))
      (pss_cons (ps_set (i := 4) sc_law.nd rfl (.inl rfl) (pe_lst (pa_cons pe_str (pa_cons pe_str (pa_cons pe_str (pa_cons pe_str (pa_cons pe_str (pa_cons pe_str (pa_cons pe_str (pa_cons pe_str (pa_cons pe_str (pa_cons pe_str (pa_cons pe_str (pa_cons pe_str (pa_cons pe_str pa_nil)))))))))))))))
      (pss_cons (ps_set (i := 5) sc_law.nd rfl (.inl rfl) (pe_ix ix_list (pv 4) (pe_cd c_law_take hr (by first | decide | omega) (by rfl) (pa_cons (pv 1) (pa_cons pe_int pa_nil))) (fun _ _ => rfl)))
      (pss_cons (ps_set (i := 6) sc_law.nd rfl (.inl rfl) (pe_cd c_result hr (by first | decide | omega) (by rfl) (pa_cons (pv 5) (pa_cons (pv 2) (pa_cons (pv 3) pa_nil)))))
      (pss_cons (ps_if (pt_cmpR (op_neD hr.units) (pv 6) (pe_cd c_law_result hr (by first | decide | omega) (by rfl) (pa_cons (pv 5) (pa_cons (pv 2) (pa_cons (pv 3) pa_nil)))) (nomark _)) (pss_one (ps_ret pe_bl)) pss_nil)
      (pss_cons (ps_set (i := 7) sc_law.nd rfl (.inl rfl) (pe_ix ix_list (pe_lst (pa_cons pe_str (pa_cons pe_str (pa_cons pe_str (pa_cons pe_str (pa_cons pe_str (pa_cons pe_str pa_nil))))))) (pe_cd c_law_take hr (by first | decide | omega) (by rfl) (pa_cons (pv 1) (pa_cons pe_int pa_nil))) (fun _ _ => rfl)))
      (pss_cons (ps_set (i := 8) sc_law.nd rfl (.inl rfl) (pe_cd c_decided hr (by first | decide | omega) (by rfl) (pa_cons (pv 7) (pa_cons (pv 2) (pa_cons (pv 3) pa_nil)))))
      (pss_cons (ps_set (i := 9) sc_law.nd rfl (.inl rfl) (pe_cd c_law_decided hr (by first | decide | omega) (by rfl) (pa_cons (pv 7) (pa_cons (pv 2) (pa_cons (pv 3) pa_nil)))))
      (Evl.pss_cut (ps_if (PW.pt (pw_or (pt_cmpR (op_neD hr.units) (pv 8) (pv 9) (nomark _)) (pw_or1 (PW.pt (pw_and (pt_cmpR op_notNQ (pv 8) pe_non (nomark _)) (pw_and1 (pt_not (pt_val (pe_callB call_isi (by rfl) b_isinstance (by decide +kernel) (pa_cons (pv 8) (pa_cons (pe_bltn (v := .ty "bool") (by rfl) b_bool (by decide +kernel) rfl) pa_nil))))))))))) (pss_one (ps_ret pe_bl)) pss_nil)
      (pss_cons (ps_for PassesOwn.never rfl (pi_list (pe_cd c_law_samples hr (by first | decide | omega) (by rfl) (pa_cons (pv 1) (pa_cons (pv 2) pa_nil)))) (pg_name (i := 10) sc_law.nd rfl (.inl rfl))
      (pss_one (ps_for PassesOwn.never rfl (pi_list (pe_cd c_law_samples hr (by first | decide | omega) (by rfl) (pa_cons (pv 1) (pa_cons (pv 3) pa_nil)))) (pg_name (i := 11) sc_law.nd rfl (.inl rfl))
      (pss_cons (ps_if (pt_not (pt_val (pe_cd c_law_allows hr (by first | decide | omega) (by rfl) (pa_cons (pv 6) (pa_cons (pe_cd c_law_compute hr (by first | decide | omega) (by rfl) (pa_cons (pv 5) (pa_cons (pv 10) (pa_cons (pv 11) pa_nil)))) pa_nil))))) (pss_one (ps_ret pe_bl)) pss_nil)
      (pss_one (ps_if (PW.pt (pw_and (pt_cmpR op_notNQ (pv 8) pe_non (nomark _)) (pw_and1 (pt_cmpR (op_neD hr.units) (pe_cd c_law_holds hr (by first | decide | omega) (by rfl) (pa_cons (pv 7) (pa_cons (pv 10) (pa_cons (pv 11) pa_nil)))) (pv 8) (nomark _))))) (pss_one (ps_ret pe_bl)) pss_nil))))))
      (pss_one (ps_ret pe_bl)))))))))))))), ?_⟩
  have hdl : ∀ {d cc : Addr} {H}, DrawC H d cc → ∃ xs, H d = some (.lst xs) := fun h => by obtain ⟨cs, i, cur, seed, hd, _⟩ := h; exact ⟨_, hd⟩
  walk_at "ws"
  refine ⟨a, ns, rfl, hS, hlen, fun d cc H1 _ _ _ hd1 => ?_⟩
  walk_at "ws"
  refine w_fact hd1 fun va A H2 gA hA hd2 b2 => ?_
  walk_at "ws"
  refine w_fact hd2 fun ub B H3 gB hB hd3 b3 => ?_
  obtain ⟨x2, hx2⟩ := hdl hd2
  have hA3 := hA.but b3 hx2
  walk_at "ws"
  refine w_kLst (by show 13 ≤ sizeLine; decide) fun l4 H4 nl4 s4 hl4 => ?_
  have hd4 := hd3.same s4
  obtain ⟨x3, hx3⟩ := hdl hd3
  have n4d : l4 ≠ d := (ne_of_none hx3 nl4).symm
  walk_at "ws"
  refine w_take hd4 (by decide) (by decide) fun k H5 k0 k1 hd5 b5 => ?_
  obtain ⟨x4, hx4⟩ := hdl hd4
  obtain ⟨op, g, r, hm, hat⟩ := ops_at k0 k1
  have hA5 := (hA3.same s4).but b5 hx4
  have hB5 := (hB.same s4).but b5 hx4
  refine w_ixL (b5 _ _ n4d hl4) hat ?_
  walk_at "ws"
  refine ⟨op, g, r, va, ub, A, B, rfl, hm, hA5, hB5, gA, gB, fun vf R H6 hR s6 hf => ?_⟩
  walk_at "ws"
  refine ⟨op, g, r, va, ub, A, B, rfl, hm, hA5.same s6, hB5.same s6, gA, gB, fun vf' R' H7 hR' s7 hf' => ?_⟩
  obtain rfl := res_uniq hR hR'
  refine w_neD (hf.same s7).dp hf'.dp (fa_shaped _) ?_
  have hd7 := (hd5.same s6).same s7
  have hA7 := (hA5.same s6).same s7
  have hB7 := (hB5.same s6).same s7
  have hf7 := hf.same s7
  walk_at "ws"
  refine w_kLst (by show 6 ≤ sizeLine; decide) fun l8 H8 nl8 s8 hl8 => ?_
  have hd8 := hd7.same s8
  obtain ⟨x7, hx7⟩ := hdl hd7
  have n8d : l8 ≠ d := (ne_of_none hx7 nl8).symm
  walk_at "ws"
  refine w_take hd8 (by decide) (by decide) fun k' H9 k0' k1' hd9 b9 => ?_
  obtain ⟨x8, hx8⟩ := hdl hd8
  obtain ⟨bop, bg, hmb, hatb⟩ := br_at k0' k1'
  have hA9 := (hA7.same s8).but b9 hx8
  have hB9 := (hB7.same s8).but b9 hx8
  have hf9 := (hf7.same s8).but b9 hx8
  refine w_ixL (b9 _ _ n8d hl8) hatb ?_
  walk_at "ws"
  refine ⟨bop, bg, va, ub, A, B, rfl, hmb, hA9, hB9, gA, gB, fun H10 s10 => ?_⟩
  walk_at "ws"
  refine ⟨bop, bg, va, ub, A, B, rfl, hmb, hA9.same s10, hB9.same s10, gA, gB, fun H11 s11 => ?_⟩
  have s9 := s10.trans s11
  have hA11 := hA9.same s9
  have hB11 := hB9.same s9
  have hf11 := hf9.same s9
  have hd11 := hd9.same s9
  obtain ⟨ans, eans⟩ : ∃ ans, ans = decF bop bg A B := ⟨_, rfl⟩
  rw [← eans]
  walk_at "ws"
  refine Evl.q_cut (M := fun σ' H' => H' = H11 ∧ σ' = [some (.ref a), some (.ref d), some va, some ub, some (.ref l4), some (.str op), some vf, some (.str bop), some (vb ans), some (vb ans), none, none]) ?_ ?_
  · walk_at "ws"
    refine w_neD (dpOb ans) (dpOb ans) (ob_shaped _) ?_
    walk_at "ws"
    cases ans with
    | none =>
      dsimp only [vb]
      walk_at "wd"
      exact ⟨rfl, rfl⟩
    | some b =>
      dsimp only [vb]
      walk_at "wd"
      walk_at "wr"
      exact ⟨rfl, rfl⟩
  rintro σ12 H12 ⟨rfl, rfl⟩
  walk_at "ws"
  refine ⟨d, cc, va, A, rfl, hd11, hA11, gA, fun l5 n5 H5' w5 z5 hl5 nl5 hd5' b5' => ?_⟩
  obtain ⟨x11, hx11⟩ := hdl hd11
  have n5d : l5 ≠ d := (ne_of_none hx11 nl5).symm
  have hA13 := hA11.but b5' hx11
  have hB13 := hB11.but b5' hx11
  have hf13 := hf11.but b5' hx11
  walk_at "ws"
  refine w_forL (n5.map V.int) (fun i σ' H' => H' l5 = some (.lst (n5.map V.int)) ∧ DrawC H' d cc ∧ FaAt K H' va A ∧ FaAt K H' ub B ∧ FaAt K H' vf R ∧ ∃ x10 x11 : Option V, σ' = [some (.ref a), some (.ref d), some va, some ub, some (.ref l4), some (.str op), some vf, some (.str bop), some (vb ans), some (vb ans), x10, x11]) (.of hl5) ⟨hl5, hd5', hA13, hB13, hf13, _, _, rfl⟩ (fun i σ' H' _ h => .of h.1) (fun i x σ' H14 hx h => ?_) (fun σ' H14 h => ?_)
  · obtain ⟨hl14, hd14, hA14, hB14, hf14, x10, x11, rfl⟩ := h
    obtain ⟨z, ez, rfl⟩ := map_get hx
    have wz := w5 z (List.mem_of_getElem? ez)
    walk_at "ws"
    refine ⟨d, cc, ub, B, rfl, hd14, hB14, gB, fun l6 n6 H15 w6 z6 hl6 nl6 hd15 b15 => ?_⟩
    obtain ⟨x14, hx14⟩ := hdl hd14
    have hl15 := b15 _ _ n5d hl14
    have hA15 := hA14.but b15 hx14
    have hB15 := hB14.but b15 hx14
    have hf15 := hf14.but b15 hx14
    walk_at "ws"
    refine w_forL (n6.map V.int) (fun j σ' H' => Same H15 H' ∧ ∃ x11 : Option V, σ' = [some (.ref a), some (.ref d), some va, some ub, some (.ref l4), some (.str op), some vf, some (.str bop), some (vb ans), some (vb ans), some (.int z), x11]) (.of hl6) ⟨fun _ _ e => e, _, rfl⟩ (fun j σ' H' _ h => .of (h.1 _ _ hl6)) (fun j y σ' H16 hy h => ?_) (fun σ' H16 h => ?_)
    · obtain ⟨s16, x11, rfl⟩ := h
      obtain ⟨z', ey, rfl⟩ := map_get hy
      have wy := w6 z' (List.mem_of_getElem? ey)
      have snd := res_sound hm gA gB wz.1 wy.1 wz.2 wy.2 hR
      walk_at "ws"
      refine ⟨op, g, z, z', rfl, tabR_13 hm, wz.1, wy.1, ?_⟩
      walk_at "ws"
      refine ⟨vf, R, _, rfl, hf15.same s16, ?_⟩
      rw [snd]
      walk_at "wr"
      cases ea : ans with
      | none =>
        dsimp only [vb]
        walk_at "wd"
        exact ⟨s16, _, rfl⟩
      | some b =>
        have ds := dec_sound hmb gA gB wz.1 wy.1 wz.2 wy.2 (eans.symm.trans ea)
        dsimp only [vb]
        walk_at "wd"
        refine ⟨bop, bg, z, z', rfl, hmb, wz.1, wy.1, ?_⟩
        rw [ds]
        walk_at "ws"
        refine w_neD (d := .bool b) (.bl b) (.bl b) rfl ?_
        walk_at "wr"
        exact ⟨s16, _, rfl⟩
    · obtain ⟨s16, x11, rfl⟩ := h
      exact ⟨s16 _ _ hl15, hd15.same s16, hA15.same s16, hB15.same s16, hf15.same s16, _, _, rfl⟩
  · obtain ⟨hl14, hd14, hA14, hB14, hf14, x10, x11, rfl⟩ := h
    walk_at "ws"
    exact q _
end
end K21

namespace K21
theorem all_mk {l : PySem.W.OpenLaw} {w : World} {K : PySem.W.Frag} {h : Heap} {mg : Str → Option Value} {fa : Addr} (X : K.In h) (G : h.Ns mainGlobals mg) (hfa : mg "law" = some (.ref fa))
    {f_plain_op : Addr} {od_plain_op an_plain_op : Option Addr} {sl_plain_op : Array (Option Value)} {oc_plain_op kV_plain_op dc_plain_op pm_plain_op cd_plain_op ct_plain_op : Value}
    {f_signed : Addr} {od_signed an_signed : Option Addr} {sl_signed : Array (Option Value)} {oc_signed kV_signed dc_signed pm_signed cd_signed ct_signed : Value}
    {f_add : Addr} {od_add an_add : Option Addr} {sl_add : Array (Option Value)} {oc_add kV_add dc_add pm_add cd_add ct_add : Value}
    {f_sub : Addr} {od_sub an_sub : Option Addr} {sl_sub : Array (Option Value)} {oc_sub kV_sub dc_sub pm_sub cd_sub ct_sub : Value}
    {f_mul : Addr} {od_mul an_mul : Option Addr} {sl_mul : Array (Option Value)} {oc_mul kV_mul dc_mul pm_mul cd_mul ct_mul : Value}
    {f_and : Addr} {od_and an_and : Option Addr} {sl_and : Array (Option Value)} {oc_and kV_and dc_and pm_and cd_and ct_and : Value}
    {f_or : Addr} {od_or an_or : Option Addr} {sl_or : Array (Option Value)} {oc_or kV_or dc_or pm_or cd_or ct_or : Value}
    {f_xor : Addr} {od_xor an_xor : Option Addr} {sl_xor : Array (Option Value)} {oc_xor kV_xor dc_xor pm_xor cd_xor ct_xor : Value}
    {f_shl : Addr} {od_shl an_shl : Option Addr} {sl_shl : Array (Option Value)} {oc_shl kV_shl dc_shl pm_shl cd_shl ct_shl : Value}
    {f_shr : Addr} {od_shr an_shr : Option Addr} {sl_shr : Array (Option Value)} {oc_shr kV_shr dc_shr pm_shr cd_shr ct_shr : Value}
    {f_sar : Addr} {od_sar an_sar : Option Addr} {sl_sar : Array (Option Value)} {oc_sar kV_sar dc_sar pm_sar cd_sar ct_sar : Value}
    {f_slt : Addr} {od_slt an_slt : Option Addr} {sl_slt : Array (Option Value)} {oc_slt kV_slt dc_slt pm_slt cd_slt ct_slt : Value}
    {f_sltu : Addr} {od_sltu an_sltu : Option Addr} {sl_sltu : Array (Option Value)} {oc_sltu kV_sltu dc_sltu pm_sltu cd_sltu ct_sltu : Value}
    {f_divu : Addr} {od_divu an_divu : Option Addr} {sl_divu : Array (Option Value)} {oc_divu kV_divu dc_divu pm_divu cd_divu ct_divu : Value}
    {f_remu : Addr} {od_remu an_remu : Option Addr} {sl_remu : Array (Option Value)} {oc_remu kV_remu dc_remu pm_remu cd_remu ct_remu : Value}
    {f_compute : Addr} {od_compute an_compute : Option Addr} {sl_compute : Array (Option Value)} {oc_compute kV_compute dc_compute pm_compute cd_compute ct_compute : Value}
    {f_holds : Addr} {od_holds an_holds : Option Addr} {sl_holds : Array (Option Value)} {oc_holds kV_holds dc_holds pm_holds cd_holds ct_holds : Value}
    {f_is_row_fact : Addr} {od_is_row_fact an_is_row_fact : Option Addr} {sl_is_row_fact : Array (Option Value)} {oc_is_row_fact kV_is_row_fact dc_is_row_fact pm_is_row_fact cd_is_row_fact ct_is_row_fact : Value}
    {f_only_word : Addr} {od_only_word an_only_word : Option Addr} {sl_only_word : Array (Option Value)} {oc_only_word kV_only_word dc_only_word pm_only_word cd_only_word ct_only_word : Value}
    {f_bounds : Addr} {od_bounds an_bounds : Option Addr} {sl_bounds : Array (Option Value)} {oc_bounds kV_bounds dc_bounds pm_bounds cd_bounds ct_bounds : Value}
    {f_span : Addr} {od_span an_span : Option Addr} {sl_span : Array (Option Value)} {oc_span kV_span dc_span pm_span cd_span ct_span : Value}
    {f_fact_of_words : Addr} {od_fact_of_words an_fact_of_words : Option Addr} {sl_fact_of_words : Array (Option Value)} {oc_fact_of_words kV_fact_of_words dc_fact_of_words pm_fact_of_words cd_fact_of_words ct_fact_of_words : Value}
    {f_result : Addr} {od_result an_result : Option Addr} {sl_result : Array (Option Value)} {oc_result kV_result dc_result pm_result cd_result ct_result : Value}
    {f_add_1 : Addr} {od_add_1 an_add_1 : Option Addr} {sl_add_1 : Array (Option Value)} {oc_add_1 kV_add_1 dc_add_1 pm_add_1 cd_add_1 ct_add_1 : Value}
    {f_sub_1 : Addr} {od_sub_1 an_sub_1 : Option Addr} {sl_sub_1 : Array (Option Value)} {oc_sub_1 kV_sub_1 dc_sub_1 pm_sub_1 cd_sub_1 ct_sub_1 : Value}
    {f_and_1 : Addr} {od_and_1 an_and_1 : Option Addr} {sl_and_1 : Array (Option Value)} {oc_and_1 kV_and_1 dc_and_1 pm_and_1 cd_and_1 ct_and_1 : Value}
    {f_sums : Addr} {od_sums an_sums : Option Addr} {sl_sums : Array (Option Value)} {oc_sums kV_sums dc_sums pm_sums cd_sums ct_sums : Value}
    {f_or_1 : Addr} {od_or_1 an_or_1 : Option Addr} {sl_or_1 : Array (Option Value)} {oc_or_1 kV_or_1 dc_or_1 pm_or_1 cd_or_1 ct_or_1 : Value}
    {f_shr_1 : Addr} {od_shr_1 an_shr_1 : Option Addr} {sl_shr_1 : Array (Option Value)} {oc_shr_1 kV_shr_1 dc_shr_1 pm_shr_1 cd_shr_1 ct_shr_1 : Value}
    {f_shl_1 : Addr} {od_shl_1 an_shl_1 : Option Addr} {sl_shl_1 : Array (Option Value)} {oc_shl_1 kV_shl_1 dc_shl_1 pm_shl_1 cd_shl_1 ct_shl_1 : Value}
    {f_divu_1 : Addr} {od_divu_1 an_divu_1 : Option Addr} {sl_divu_1 : Array (Option Value)} {oc_divu_1 kV_divu_1 dc_divu_1 pm_divu_1 cd_divu_1 ct_divu_1 : Value}
    {f_remu_1 : Addr} {od_remu_1 an_remu_1 : Option Addr} {sl_remu_1 : Array (Option Value)} {oc_remu_1 kV_remu_1 dc_remu_1 pm_remu_1 cd_remu_1 ct_remu_1 : Value}
    {f_less : Addr} {od_less an_less : Option Addr} {sl_less : Array (Option Value)} {oc_less kV_less dc_less pm_less cd_less ct_less : Value}
    {f_decided : Addr} {od_decided an_decided : Option Addr} {sl_decided : Array (Option Value)} {oc_decided kV_decided dc_decided pm_decided cd_decided ct_decided : Value}
    {f_law_draw : Addr} {od_law_draw an_law_draw : Option Addr} {sl_law_draw : Array (Option Value)} {oc_law_draw kV_law_draw dc_law_draw pm_law_draw cd_law_draw ct_law_draw : Value}
    {f_law_take : Addr} {od_law_take an_law_take : Option Addr} {sl_law_take : Array (Option Value)} {oc_law_take kV_law_take dc_law_take pm_law_take cd_law_take ct_law_take : Value}
    {f_law_signed : Addr} {od_law_signed an_law_signed : Option Addr} {sl_law_signed : Array (Option Value)} {oc_law_signed kV_law_signed dc_law_signed pm_law_signed cd_law_signed ct_law_signed : Value}
    {f_law_compute : Addr} {od_law_compute an_law_compute : Option Addr} {sl_law_compute : Array (Option Value)} {oc_law_compute kV_law_compute dc_law_compute pm_law_compute cd_law_compute ct_law_compute : Value}
    {f_law_holds : Addr} {od_law_holds an_law_holds : Option Addr} {sl_law_holds : Array (Option Value)} {oc_law_holds kV_law_holds dc_law_holds pm_law_holds cd_law_holds ct_law_holds : Value}
    {f_law_word : Addr} {od_law_word an_law_word : Option Addr} {sl_law_word : Array (Option Value)} {oc_law_word kV_law_word dc_law_word pm_law_word cd_law_word ct_law_word : Value}
    {f_law_fact : Addr} {od_law_fact an_law_fact : Option Addr} {sl_law_fact : Array (Option Value)} {oc_law_fact kV_law_fact dc_law_fact pm_law_fact cd_law_fact ct_law_fact : Value}
    {f_law_bounds : Addr} {od_law_bounds an_law_bounds : Option Addr} {sl_law_bounds : Array (Option Value)} {oc_law_bounds kV_law_bounds dc_law_bounds pm_law_bounds cd_law_bounds ct_law_bounds : Value}
    {f_law_allows : Addr} {od_law_allows an_law_allows : Option Addr} {sl_law_allows : Array (Option Value)} {oc_law_allows kV_law_allows dc_law_allows pm_law_allows cd_law_allows ct_law_allows : Value}
    {f_law_of : Addr} {od_law_of an_law_of : Option Addr} {sl_law_of : Array (Option Value)} {oc_law_of kV_law_of dc_law_of pm_law_of cd_law_of ct_law_of : Value}
    {f_law_row : Addr} {od_law_row an_law_row : Option Addr} {sl_law_row : Array (Option Value)} {oc_law_row kV_law_row dc_law_row pm_law_row cd_law_row ct_law_row : Value}
    {f_law_samples : Addr} {od_law_samples an_law_samples : Option Addr} {sl_law_samples : Array (Option Value)} {oc_law_samples kV_law_samples dc_law_samples pm_law_samples cd_law_samples ct_law_samples : Value}
    {f_law_by_word : Addr} {od_law_by_word an_law_by_word : Option Addr} {sl_law_by_word : Array (Option Value)} {oc_law_by_word kV_law_by_word dc_law_by_word pm_law_by_word cd_law_by_word ct_law_by_word : Value}
    {f_law_result : Addr} {od_law_result an_law_result : Option Addr} {sl_law_result : Array (Option Value)} {oc_law_result kV_law_result dc_law_result pm_law_result cd_law_result ct_law_result : Value}
    {f_law_decided : Addr} {od_law_decided an_law_decided : Option Addr} {sl_law_decided : Array (Option Value)} {oc_law_decided kV_law_decided dc_law_decided pm_law_decided cd_law_decided ct_law_decided : Value}
    {f_law : Addr} {od_law an_law : Option Addr} {sl_law : Array (Option Value)} {oc_law kV_law dc_law pm_law cd_law ct_law : Value}
    {tk_WORDS_IN_ALL : Tok}
    {tk_MASK : Tok}
    {tk_HALF : Tok}
    {tk_MOST_WORDS : Tok}
    {tk_MOST_PAIRS : Tok}
    {tk_MOST_ONE_BITS : Tok}
    (a_plain_op : PySem.W.nsIn K mainGlobals "plain_op" = some (some (.ref f_plain_op))) (l_plain_op : K.lookup f_plain_op = some ⟨oc_plain_op, od_plain_op, .func (PySem.W.fnOf "plain_op" "plain_op" (defArgs s_plain_op) (defBody s_plain_op) (defScope s_plain_op) .none kV_plain_op dc_plain_op pm_plain_op an_plain_op cd_plain_op ct_plain_op), sl_plain_op⟩) (cc_plain_op : PySem.W.codeIn K cd_plain_op "plain_op" = true) (kk_plain_op : PySem.W.keepIn K (.ref f_plain_op) = true)
    (a_signed : PySem.W.nsIn K mainGlobals "_signed" = some (some (.ref f_signed))) (l_signed : K.lookup f_signed = some ⟨oc_signed, od_signed, .func (PySem.W.fnOf "_signed" "_signed" (defArgs s_signed) (defBody s_signed) (defScope s_signed) .none kV_signed dc_signed pm_signed an_signed cd_signed ct_signed), sl_signed⟩) (cc_signed : PySem.W.codeIn K cd_signed "_signed" = true) (kk_signed : PySem.W.keepIn K (.ref f_signed) = true)
    (a_add : PySem.W.nsIn K mainGlobals "_add" = some (some (.ref f_add))) (l_add : K.lookup f_add = some ⟨oc_add, od_add, .func (PySem.W.fnOf "_add" "_add" (defArgs s_add) (defBody s_add) (defScope s_add) .none kV_add dc_add pm_add an_add cd_add ct_add), sl_add⟩) (cc_add : PySem.W.codeIn K cd_add "_add" = true) (kk_add : PySem.W.keepIn K (.ref f_add) = true)
    (a_sub : PySem.W.nsIn K mainGlobals "_sub" = some (some (.ref f_sub))) (l_sub : K.lookup f_sub = some ⟨oc_sub, od_sub, .func (PySem.W.fnOf "_sub" "_sub" (defArgs s_sub) (defBody s_sub) (defScope s_sub) .none kV_sub dc_sub pm_sub an_sub cd_sub ct_sub), sl_sub⟩) (cc_sub : PySem.W.codeIn K cd_sub "_sub" = true) (kk_sub : PySem.W.keepIn K (.ref f_sub) = true)
    (a_mul : PySem.W.nsIn K mainGlobals "_mul" = some (some (.ref f_mul))) (l_mul : K.lookup f_mul = some ⟨oc_mul, od_mul, .func (PySem.W.fnOf "_mul" "_mul" (defArgs s_mul) (defBody s_mul) (defScope s_mul) .none kV_mul dc_mul pm_mul an_mul cd_mul ct_mul), sl_mul⟩) (cc_mul : PySem.W.codeIn K cd_mul "_mul" = true) (kk_mul : PySem.W.keepIn K (.ref f_mul) = true)
    (a_and : PySem.W.nsIn K mainGlobals "_and" = some (some (.ref f_and))) (l_and : K.lookup f_and = some ⟨oc_and, od_and, .func (PySem.W.fnOf "_and" "_and" (defArgs s_and) (defBody s_and) (defScope s_and) .none kV_and dc_and pm_and an_and cd_and ct_and), sl_and⟩) (cc_and : PySem.W.codeIn K cd_and "_and" = true) (kk_and : PySem.W.keepIn K (.ref f_and) = true)
    (a_or : PySem.W.nsIn K mainGlobals "_or" = some (some (.ref f_or))) (l_or : K.lookup f_or = some ⟨oc_or, od_or, .func (PySem.W.fnOf "_or" "_or" (defArgs s_or) (defBody s_or) (defScope s_or) .none kV_or dc_or pm_or an_or cd_or ct_or), sl_or⟩) (cc_or : PySem.W.codeIn K cd_or "_or" = true) (kk_or : PySem.W.keepIn K (.ref f_or) = true)
    (a_xor : PySem.W.nsIn K mainGlobals "_xor" = some (some (.ref f_xor))) (l_xor : K.lookup f_xor = some ⟨oc_xor, od_xor, .func (PySem.W.fnOf "_xor" "_xor" (defArgs s_xor) (defBody s_xor) (defScope s_xor) .none kV_xor dc_xor pm_xor an_xor cd_xor ct_xor), sl_xor⟩) (cc_xor : PySem.W.codeIn K cd_xor "_xor" = true) (kk_xor : PySem.W.keepIn K (.ref f_xor) = true)
    (a_shl : PySem.W.nsIn K mainGlobals "_shl" = some (some (.ref f_shl))) (l_shl : K.lookup f_shl = some ⟨oc_shl, od_shl, .func (PySem.W.fnOf "_shl" "_shl" (defArgs s_shl) (defBody s_shl) (defScope s_shl) .none kV_shl dc_shl pm_shl an_shl cd_shl ct_shl), sl_shl⟩) (cc_shl : PySem.W.codeIn K cd_shl "_shl" = true) (kk_shl : PySem.W.keepIn K (.ref f_shl) = true)
    (a_shr : PySem.W.nsIn K mainGlobals "_shr" = some (some (.ref f_shr))) (l_shr : K.lookup f_shr = some ⟨oc_shr, od_shr, .func (PySem.W.fnOf "_shr" "_shr" (defArgs s_shr) (defBody s_shr) (defScope s_shr) .none kV_shr dc_shr pm_shr an_shr cd_shr ct_shr), sl_shr⟩) (cc_shr : PySem.W.codeIn K cd_shr "_shr" = true) (kk_shr : PySem.W.keepIn K (.ref f_shr) = true)
    (a_sar : PySem.W.nsIn K mainGlobals "_sar" = some (some (.ref f_sar))) (l_sar : K.lookup f_sar = some ⟨oc_sar, od_sar, .func (PySem.W.fnOf "_sar" "_sar" (defArgs s_sar) (defBody s_sar) (defScope s_sar) .none kV_sar dc_sar pm_sar an_sar cd_sar ct_sar), sl_sar⟩) (cc_sar : PySem.W.codeIn K cd_sar "_sar" = true) (kk_sar : PySem.W.keepIn K (.ref f_sar) = true)
    (a_slt : PySem.W.nsIn K mainGlobals "_slt" = some (some (.ref f_slt))) (l_slt : K.lookup f_slt = some ⟨oc_slt, od_slt, .func (PySem.W.fnOf "_slt" "_slt" (defArgs s_slt) (defBody s_slt) (defScope s_slt) .none kV_slt dc_slt pm_slt an_slt cd_slt ct_slt), sl_slt⟩) (cc_slt : PySem.W.codeIn K cd_slt "_slt" = true) (kk_slt : PySem.W.keepIn K (.ref f_slt) = true)
    (a_sltu : PySem.W.nsIn K mainGlobals "_sltu" = some (some (.ref f_sltu))) (l_sltu : K.lookup f_sltu = some ⟨oc_sltu, od_sltu, .func (PySem.W.fnOf "_sltu" "_sltu" (defArgs s_sltu) (defBody s_sltu) (defScope s_sltu) .none kV_sltu dc_sltu pm_sltu an_sltu cd_sltu ct_sltu), sl_sltu⟩) (cc_sltu : PySem.W.codeIn K cd_sltu "_sltu" = true) (kk_sltu : PySem.W.keepIn K (.ref f_sltu) = true)
    (a_divu : PySem.W.nsIn K mainGlobals "_divu" = some (some (.ref f_divu))) (l_divu : K.lookup f_divu = some ⟨oc_divu, od_divu, .func (PySem.W.fnOf "_divu" "_divu" (defArgs s_divu) (defBody s_divu) (defScope s_divu) .none kV_divu dc_divu pm_divu an_divu cd_divu ct_divu), sl_divu⟩) (cc_divu : PySem.W.codeIn K cd_divu "_divu" = true) (kk_divu : PySem.W.keepIn K (.ref f_divu) = true)
    (a_remu : PySem.W.nsIn K mainGlobals "_remu" = some (some (.ref f_remu))) (l_remu : K.lookup f_remu = some ⟨oc_remu, od_remu, .func (PySem.W.fnOf "_remu" "_remu" (defArgs s_remu) (defBody s_remu) (defScope s_remu) .none kV_remu dc_remu pm_remu an_remu cd_remu ct_remu), sl_remu⟩) (cc_remu : PySem.W.codeIn K cd_remu "_remu" = true) (kk_remu : PySem.W.keepIn K (.ref f_remu) = true)
    (a_compute : PySem.W.nsIn K mainGlobals "compute" = some (some (.ref f_compute))) (l_compute : K.lookup f_compute = some ⟨oc_compute, od_compute, .func (PySem.W.fnOf "compute" "compute" (defArgs s_compute) (defBody s_compute) (defScope s_compute) .none kV_compute dc_compute pm_compute an_compute cd_compute ct_compute), sl_compute⟩) (cc_compute : PySem.W.codeIn K cd_compute "compute" = true) (kk_compute : PySem.W.keepIn K (.ref f_compute) = true)
    (a_holds : PySem.W.nsIn K mainGlobals "holds" = some (some (.ref f_holds))) (l_holds : K.lookup f_holds = some ⟨oc_holds, od_holds, .func (PySem.W.fnOf "holds" "holds" (defArgs s_holds) (defBody s_holds) (defScope s_holds) .none kV_holds dc_holds pm_holds an_holds cd_holds ct_holds), sl_holds⟩) (cc_holds : PySem.W.codeIn K cd_holds "holds" = true) (kk_holds : PySem.W.keepIn K (.ref f_holds) = true)
    (a_is_row_fact : PySem.W.nsIn K mainGlobals "is_row_fact" = some (some (.ref f_is_row_fact))) (l_is_row_fact : K.lookup f_is_row_fact = some ⟨oc_is_row_fact, od_is_row_fact, .func (PySem.W.fnOf "is_row_fact" "is_row_fact" (defArgs s_is_row_fact) (defBody s_is_row_fact) (defScope s_is_row_fact) .none kV_is_row_fact dc_is_row_fact pm_is_row_fact an_is_row_fact cd_is_row_fact ct_is_row_fact), sl_is_row_fact⟩) (cc_is_row_fact : PySem.W.codeIn K cd_is_row_fact "is_row_fact" = true) (kk_is_row_fact : PySem.W.keepIn K (.ref f_is_row_fact) = true)
    (a_only_word : PySem.W.nsIn K mainGlobals "only_word" = some (some (.ref f_only_word))) (l_only_word : K.lookup f_only_word = some ⟨oc_only_word, od_only_word, .func (PySem.W.fnOf "only_word" "only_word" (defArgs s_only_word) (defBody s_only_word) (defScope s_only_word) .none kV_only_word dc_only_word pm_only_word an_only_word cd_only_word ct_only_word), sl_only_word⟩) (cc_only_word : PySem.W.codeIn K cd_only_word "only_word" = true) (kk_only_word : PySem.W.keepIn K (.ref f_only_word) = true)
    (a_bounds : PySem.W.nsIn K mainGlobals "bounds" = some (some (.ref f_bounds))) (l_bounds : K.lookup f_bounds = some ⟨oc_bounds, od_bounds, .func (PySem.W.fnOf "bounds" "bounds" (defArgs s_bounds) (defBody s_bounds) (defScope s_bounds) .none kV_bounds dc_bounds pm_bounds an_bounds cd_bounds ct_bounds), sl_bounds⟩) (cc_bounds : PySem.W.codeIn K cd_bounds "bounds" = true) (kk_bounds : PySem.W.keepIn K (.ref f_bounds) = true)
    (a_span : PySem.W.nsIn K mainGlobals "span" = some (some (.ref f_span))) (l_span : K.lookup f_span = some ⟨oc_span, od_span, .func (PySem.W.fnOf "span" "span" (defArgs s_span) (defBody s_span) (defScope s_span) .none kV_span dc_span pm_span an_span cd_span ct_span), sl_span⟩) (cc_span : PySem.W.codeIn K cd_span "span" = true) (kk_span : PySem.W.keepIn K (.ref f_span) = true)
    (a_fact_of_words : PySem.W.nsIn K mainGlobals "_fact_of_words" = some (some (.ref f_fact_of_words))) (l_fact_of_words : K.lookup f_fact_of_words = some ⟨oc_fact_of_words, od_fact_of_words, .func (PySem.W.fnOf "_fact_of_words" "_fact_of_words" (defArgs s_fact_of_words) (defBody s_fact_of_words) (defScope s_fact_of_words) .none kV_fact_of_words dc_fact_of_words pm_fact_of_words an_fact_of_words cd_fact_of_words ct_fact_of_words), sl_fact_of_words⟩) (cc_fact_of_words : PySem.W.codeIn K cd_fact_of_words "_fact_of_words" = true) (kk_fact_of_words : PySem.W.keepIn K (.ref f_fact_of_words) = true)
    (a_result : PySem.W.nsIn K mainGlobals "result" = some (some (.ref f_result))) (l_result : K.lookup f_result = some ⟨oc_result, od_result, .func (PySem.W.fnOf "result" "result" (defArgs s_result) (defBody s_result) (defScope s_result) .none kV_result dc_result pm_result an_result cd_result ct_result), sl_result⟩) (cc_result : PySem.W.codeIn K cd_result "result" = true) (kk_result : PySem.W.keepIn K (.ref f_result) = true)
    (a_add_1 : PySem.W.nsIn K mainGlobals "add_machine" = some (some (.ref f_add_1))) (l_add_1 : K.lookup f_add_1 = some ⟨oc_add_1, od_add_1, .func (PySem.W.fnOf "_add" "_add" (defArgs s_add_1) (defBody s_add_1) (defScope s_add_1) .none kV_add_1 dc_add_1 pm_add_1 an_add_1 cd_add_1 ct_add_1), sl_add_1⟩) (cc_add_1 : PySem.W.codeIn K cd_add_1 "_add" = true) (kk_add_1 : PySem.W.keepIn K (.ref f_add_1) = true)
    (a_sub_1 : PySem.W.nsIn K mainGlobals "sub_machine" = some (some (.ref f_sub_1))) (l_sub_1 : K.lookup f_sub_1 = some ⟨oc_sub_1, od_sub_1, .func (PySem.W.fnOf "_sub" "_sub" (defArgs s_sub_1) (defBody s_sub_1) (defScope s_sub_1) .none kV_sub_1 dc_sub_1 pm_sub_1 an_sub_1 cd_sub_1 ct_sub_1), sl_sub_1⟩) (cc_sub_1 : PySem.W.codeIn K cd_sub_1 "_sub" = true) (kk_sub_1 : PySem.W.keepIn K (.ref f_sub_1) = true)
    (a_and_1 : PySem.W.nsIn K mainGlobals "and_machine" = some (some (.ref f_and_1))) (l_and_1 : K.lookup f_and_1 = some ⟨oc_and_1, od_and_1, .func (PySem.W.fnOf "_and" "_and" (defArgs s_and_1) (defBody s_and_1) (defScope s_and_1) .none kV_and_1 dc_and_1 pm_and_1 an_and_1 cd_and_1 ct_and_1), sl_and_1⟩) (cc_and_1 : PySem.W.codeIn K cd_and_1 "_and" = true) (kk_and_1 : PySem.W.keepIn K (.ref f_and_1) = true)
    (a_sums : PySem.W.nsIn K mainGlobals "_sums" = some (some (.ref f_sums))) (l_sums : K.lookup f_sums = some ⟨oc_sums, od_sums, .func (PySem.W.fnOf "_sums" "_sums" (defArgs s_sums) (defBody s_sums) (defScope s_sums) .none kV_sums dc_sums pm_sums an_sums cd_sums ct_sums), sl_sums⟩) (cc_sums : PySem.W.codeIn K cd_sums "_sums" = true) (kk_sums : PySem.W.keepIn K (.ref f_sums) = true)
    (a_or_1 : PySem.W.nsIn K mainGlobals "or_machine" = some (some (.ref f_or_1))) (l_or_1 : K.lookup f_or_1 = some ⟨oc_or_1, od_or_1, .func (PySem.W.fnOf "_or" "_or" (defArgs s_or_1) (defBody s_or_1) (defScope s_or_1) .none kV_or_1 dc_or_1 pm_or_1 an_or_1 cd_or_1 ct_or_1), sl_or_1⟩) (cc_or_1 : PySem.W.codeIn K cd_or_1 "_or" = true) (kk_or_1 : PySem.W.keepIn K (.ref f_or_1) = true)
    (a_shr_1 : PySem.W.nsIn K mainGlobals "shr_machine" = some (some (.ref f_shr_1))) (l_shr_1 : K.lookup f_shr_1 = some ⟨oc_shr_1, od_shr_1, .func (PySem.W.fnOf "_shr" "_shr" (defArgs s_shr_1) (defBody s_shr_1) (defScope s_shr_1) .none kV_shr_1 dc_shr_1 pm_shr_1 an_shr_1 cd_shr_1 ct_shr_1), sl_shr_1⟩) (cc_shr_1 : PySem.W.codeIn K cd_shr_1 "_shr" = true) (kk_shr_1 : PySem.W.keepIn K (.ref f_shr_1) = true)
    (a_shl_1 : PySem.W.nsIn K mainGlobals "shl_machine" = some (some (.ref f_shl_1))) (l_shl_1 : K.lookup f_shl_1 = some ⟨oc_shl_1, od_shl_1, .func (PySem.W.fnOf "_shl" "_shl" (defArgs s_shl_1) (defBody s_shl_1) (defScope s_shl_1) .none kV_shl_1 dc_shl_1 pm_shl_1 an_shl_1 cd_shl_1 ct_shl_1), sl_shl_1⟩) (cc_shl_1 : PySem.W.codeIn K cd_shl_1 "_shl" = true) (kk_shl_1 : PySem.W.keepIn K (.ref f_shl_1) = true)
    (a_divu_1 : PySem.W.nsIn K mainGlobals "divu_machine" = some (some (.ref f_divu_1))) (l_divu_1 : K.lookup f_divu_1 = some ⟨oc_divu_1, od_divu_1, .func (PySem.W.fnOf "_divu" "_divu" (defArgs s_divu_1) (defBody s_divu_1) (defScope s_divu_1) .none kV_divu_1 dc_divu_1 pm_divu_1 an_divu_1 cd_divu_1 ct_divu_1), sl_divu_1⟩) (cc_divu_1 : PySem.W.codeIn K cd_divu_1 "_divu" = true) (kk_divu_1 : PySem.W.keepIn K (.ref f_divu_1) = true)
    (a_remu_1 : PySem.W.nsIn K mainGlobals "remu_machine" = some (some (.ref f_remu_1))) (l_remu_1 : K.lookup f_remu_1 = some ⟨oc_remu_1, od_remu_1, .func (PySem.W.fnOf "_remu" "_remu" (defArgs s_remu_1) (defBody s_remu_1) (defScope s_remu_1) .none kV_remu_1 dc_remu_1 pm_remu_1 an_remu_1 cd_remu_1 ct_remu_1), sl_remu_1⟩) (cc_remu_1 : PySem.W.codeIn K cd_remu_1 "_remu" = true) (kk_remu_1 : PySem.W.keepIn K (.ref f_remu_1) = true)
    (a_less : PySem.W.nsIn K mainGlobals "_less" = some (some (.ref f_less))) (l_less : K.lookup f_less = some ⟨oc_less, od_less, .func (PySem.W.fnOf "_less" "_less" (defArgs s_less) (defBody s_less) (defScope s_less) .none kV_less dc_less pm_less an_less cd_less ct_less), sl_less⟩) (cc_less : PySem.W.codeIn K cd_less "_less" = true) (kk_less : PySem.W.keepIn K (.ref f_less) = true)
    (a_decided : PySem.W.nsIn K mainGlobals "decided" = some (some (.ref f_decided))) (l_decided : K.lookup f_decided = some ⟨oc_decided, od_decided, .func (PySem.W.fnOf "decided" "decided" (defArgs s_decided) (defBody s_decided) (defScope s_decided) .none kV_decided dc_decided pm_decided an_decided cd_decided ct_decided), sl_decided⟩) (cc_decided : PySem.W.codeIn K cd_decided "decided" = true) (kk_decided : PySem.W.keepIn K (.ref f_decided) = true)
    (a_law_draw : PySem.W.nsIn K mainGlobals "_law_draw" = some (some (.ref f_law_draw))) (l_law_draw : K.lookup f_law_draw = some ⟨oc_law_draw, od_law_draw, .func (PySem.W.fnOf "_law_draw" "_law_draw" (defArgs s_law_draw) (defBody s_law_draw) (defScope s_law_draw) .none kV_law_draw dc_law_draw pm_law_draw an_law_draw cd_law_draw ct_law_draw), sl_law_draw⟩) (cc_law_draw : PySem.W.codeIn K cd_law_draw "_law_draw" = true) (kk_law_draw : PySem.W.keepIn K (.ref f_law_draw) = true)
    (a_law_take : PySem.W.nsIn K mainGlobals "_law_take" = some (some (.ref f_law_take))) (l_law_take : K.lookup f_law_take = some ⟨oc_law_take, od_law_take, .func (PySem.W.fnOf "_law_take" "_law_take" (defArgs s_law_take) (defBody s_law_take) (defScope s_law_take) .none kV_law_take dc_law_take pm_law_take an_law_take cd_law_take ct_law_take), sl_law_take⟩) (cc_law_take : PySem.W.codeIn K cd_law_take "_law_take" = true) (kk_law_take : PySem.W.keepIn K (.ref f_law_take) = true)
    (a_law_signed : PySem.W.nsIn K mainGlobals "_law_signed" = some (some (.ref f_law_signed))) (l_law_signed : K.lookup f_law_signed = some ⟨oc_law_signed, od_law_signed, .func (PySem.W.fnOf "_law_signed" "_law_signed" (defArgs s_law_signed) (defBody s_law_signed) (defScope s_law_signed) .none kV_law_signed dc_law_signed pm_law_signed an_law_signed cd_law_signed ct_law_signed), sl_law_signed⟩) (cc_law_signed : PySem.W.codeIn K cd_law_signed "_law_signed" = true) (kk_law_signed : PySem.W.keepIn K (.ref f_law_signed) = true)
    (a_law_compute : PySem.W.nsIn K mainGlobals "_law_compute" = some (some (.ref f_law_compute))) (l_law_compute : K.lookup f_law_compute = some ⟨oc_law_compute, od_law_compute, .func (PySem.W.fnOf "_law_compute" "_law_compute" (defArgs s_law_compute) (defBody s_law_compute) (defScope s_law_compute) .none kV_law_compute dc_law_compute pm_law_compute an_law_compute cd_law_compute ct_law_compute), sl_law_compute⟩) (cc_law_compute : PySem.W.codeIn K cd_law_compute "_law_compute" = true) (kk_law_compute : PySem.W.keepIn K (.ref f_law_compute) = true)
    (a_law_holds : PySem.W.nsIn K mainGlobals "_law_holds" = some (some (.ref f_law_holds))) (l_law_holds : K.lookup f_law_holds = some ⟨oc_law_holds, od_law_holds, .func (PySem.W.fnOf "_law_holds" "_law_holds" (defArgs s_law_holds) (defBody s_law_holds) (defScope s_law_holds) .none kV_law_holds dc_law_holds pm_law_holds an_law_holds cd_law_holds ct_law_holds), sl_law_holds⟩) (cc_law_holds : PySem.W.codeIn K cd_law_holds "_law_holds" = true) (kk_law_holds : PySem.W.keepIn K (.ref f_law_holds) = true)
    (a_law_word : PySem.W.nsIn K mainGlobals "_law_word" = some (some (.ref f_law_word))) (l_law_word : K.lookup f_law_word = some ⟨oc_law_word, od_law_word, .func (PySem.W.fnOf "_law_word" "_law_word" (defArgs s_law_word) (defBody s_law_word) (defScope s_law_word) .none kV_law_word dc_law_word pm_law_word an_law_word cd_law_word ct_law_word), sl_law_word⟩) (cc_law_word : PySem.W.codeIn K cd_law_word "_law_word" = true) (kk_law_word : PySem.W.keepIn K (.ref f_law_word) = true)
    (a_law_fact : PySem.W.nsIn K mainGlobals "_law_fact" = some (some (.ref f_law_fact))) (l_law_fact : K.lookup f_law_fact = some ⟨oc_law_fact, od_law_fact, .func (PySem.W.fnOf "_law_fact" "_law_fact" (defArgs s_law_fact) (defBody s_law_fact) (defScope s_law_fact) .none kV_law_fact dc_law_fact pm_law_fact an_law_fact cd_law_fact ct_law_fact), sl_law_fact⟩) (cc_law_fact : PySem.W.codeIn K cd_law_fact "_law_fact" = true) (kk_law_fact : PySem.W.keepIn K (.ref f_law_fact) = true)
    (a_law_bounds : PySem.W.nsIn K mainGlobals "_law_bounds" = some (some (.ref f_law_bounds))) (l_law_bounds : K.lookup f_law_bounds = some ⟨oc_law_bounds, od_law_bounds, .func (PySem.W.fnOf "_law_bounds" "_law_bounds" (defArgs s_law_bounds) (defBody s_law_bounds) (defScope s_law_bounds) .none kV_law_bounds dc_law_bounds pm_law_bounds an_law_bounds cd_law_bounds ct_law_bounds), sl_law_bounds⟩) (cc_law_bounds : PySem.W.codeIn K cd_law_bounds "_law_bounds" = true) (kk_law_bounds : PySem.W.keepIn K (.ref f_law_bounds) = true)
    (a_law_allows : PySem.W.nsIn K mainGlobals "_law_allows" = some (some (.ref f_law_allows))) (l_law_allows : K.lookup f_law_allows = some ⟨oc_law_allows, od_law_allows, .func (PySem.W.fnOf "_law_allows" "_law_allows" (defArgs s_law_allows) (defBody s_law_allows) (defScope s_law_allows) .none kV_law_allows dc_law_allows pm_law_allows an_law_allows cd_law_allows ct_law_allows), sl_law_allows⟩) (cc_law_allows : PySem.W.codeIn K cd_law_allows "_law_allows" = true) (kk_law_allows : PySem.W.keepIn K (.ref f_law_allows) = true)
    (a_law_of : PySem.W.nsIn K mainGlobals "_law_of" = some (some (.ref f_law_of))) (l_law_of : K.lookup f_law_of = some ⟨oc_law_of, od_law_of, .func (PySem.W.fnOf "_law_of" "_law_of" (defArgs s_law_of) (defBody s_law_of) (defScope s_law_of) .none kV_law_of dc_law_of pm_law_of an_law_of cd_law_of ct_law_of), sl_law_of⟩) (cc_law_of : PySem.W.codeIn K cd_law_of "_law_of" = true) (kk_law_of : PySem.W.keepIn K (.ref f_law_of) = true)
    (a_law_row : PySem.W.nsIn K mainGlobals "_law_row" = some (some (.ref f_law_row))) (l_law_row : K.lookup f_law_row = some ⟨oc_law_row, od_law_row, .func (PySem.W.fnOf "_law_row" "_law_row" (defArgs s_law_row) (defBody s_law_row) (defScope s_law_row) .none kV_law_row dc_law_row pm_law_row an_law_row cd_law_row ct_law_row), sl_law_row⟩) (cc_law_row : PySem.W.codeIn K cd_law_row "_law_row" = true) (kk_law_row : PySem.W.keepIn K (.ref f_law_row) = true)
    (a_law_samples : PySem.W.nsIn K mainGlobals "_law_samples" = some (some (.ref f_law_samples))) (l_law_samples : K.lookup f_law_samples = some ⟨oc_law_samples, od_law_samples, .func (PySem.W.fnOf "_law_samples" "_law_samples" (defArgs s_law_samples) (defBody s_law_samples) (defScope s_law_samples) .none kV_law_samples dc_law_samples pm_law_samples an_law_samples cd_law_samples ct_law_samples), sl_law_samples⟩) (cc_law_samples : PySem.W.codeIn K cd_law_samples "_law_samples" = true) (kk_law_samples : PySem.W.keepIn K (.ref f_law_samples) = true)
    (a_law_by_word : PySem.W.nsIn K mainGlobals "_law_by_word" = some (some (.ref f_law_by_word))) (l_law_by_word : K.lookup f_law_by_word = some ⟨oc_law_by_word, od_law_by_word, .func (PySem.W.fnOf "_law_by_word" "_law_by_word" (defArgs s_law_by_word) (defBody s_law_by_word) (defScope s_law_by_word) .none kV_law_by_word dc_law_by_word pm_law_by_word an_law_by_word cd_law_by_word ct_law_by_word), sl_law_by_word⟩) (cc_law_by_word : PySem.W.codeIn K cd_law_by_word "_law_by_word" = true) (kk_law_by_word : PySem.W.keepIn K (.ref f_law_by_word) = true)
    (a_law_result : PySem.W.nsIn K mainGlobals "_law_result" = some (some (.ref f_law_result))) (l_law_result : K.lookup f_law_result = some ⟨oc_law_result, od_law_result, .func (PySem.W.fnOf "_law_result" "_law_result" (defArgs s_law_result) (defBody s_law_result) (defScope s_law_result) .none kV_law_result dc_law_result pm_law_result an_law_result cd_law_result ct_law_result), sl_law_result⟩) (cc_law_result : PySem.W.codeIn K cd_law_result "_law_result" = true) (kk_law_result : PySem.W.keepIn K (.ref f_law_result) = true)
    (a_law_decided : PySem.W.nsIn K mainGlobals "_law_decided" = some (some (.ref f_law_decided))) (l_law_decided : K.lookup f_law_decided = some ⟨oc_law_decided, od_law_decided, .func (PySem.W.fnOf "_law_decided" "_law_decided" (defArgs s_law_decided) (defBody s_law_decided) (defScope s_law_decided) .none kV_law_decided dc_law_decided pm_law_decided an_law_decided cd_law_decided ct_law_decided), sl_law_decided⟩) (cc_law_decided : PySem.W.codeIn K cd_law_decided "_law_decided" = true) (kk_law_decided : PySem.W.keepIn K (.ref f_law_decided) = true)
    (a_law : PySem.W.nsIn K mainGlobals "law" = some (some (.ref f_law))) (l_law : K.lookup f_law = some ⟨oc_law, od_law, .func (PySem.W.fnOf "law" "law" (defArgs s_law) (defBody s_law) (defScope s_law) .none kV_law dc_law pm_law an_law cd_law ct_law), sl_law⟩) (cc_law : PySem.W.codeIn K cd_law "law" = true) (kk_law : PySem.W.keepIn K (.ref f_law) = true)
    (a_WORDS_IN_ALL : PySem.W.nsIn K mainGlobals "WORDS_IN_ALL" = some (some (.int 4294967296 tk_WORDS_IN_ALL)))
    (a_MASK : PySem.W.nsIn K mainGlobals "MASK" = some (some (.int 4294967295 tk_MASK)))
    (a_HALF : PySem.W.nsIn K mainGlobals "HALF" = some (some (.int 2147483648 tk_HALF)))
    (a_MOST_WORDS : PySem.W.nsIn K mainGlobals "MOST_WORDS" = some (some (.int 16 tk_MOST_WORDS)))
    (a_MOST_PAIRS : PySem.W.nsIn K mainGlobals "MOST_PAIRS" = some (some (.int 64 tk_MOST_PAIRS)))
    (a_MOST_ONE_BITS : PySem.W.nsIn K mainGlobals "MOST_ONE_BITS" = some (some (.int 4 tk_MOST_ONE_BITS)))
    (z_abs : PySem.W.nsIn K mainGlobals "abs" = some none)
    (z_all : PySem.W.nsIn K mainGlobals "all" = some none)
    (z_bool : PySem.W.nsIn K mainGlobals "bool" = some none)
    (z_int : PySem.W.nsIn K mainGlobals "int" = some none)
    (z_isinstance : PySem.W.nsIn K mainGlobals "isinstance" = some none)
    (z_len : PySem.W.nsIn K mainGlobals "len" = some none)
    (z_list : PySem.W.nsIn K mainGlobals "list" = some none)
    (z_max : PySem.W.nsIn K mainGlobals "max" = some none)
    (z_min : PySem.W.nsIn K mainGlobals "min" = some none)
    (z_range : PySem.W.nsIn K mainGlobals "range" = some none)
    (z_set : PySem.W.nsIn K mainGlobals "set" = some none)
    (z_sorted : PySem.W.nsIn K mainGlobals "sorted" = some none)
    (z_tuple : PySem.W.nsIn K mainGlobals "tuple" = some none)
    {R RU I : Addr} {esR esU esI : Array DictEntry} {nR nU nI : Nat} (aR : PySem.W.nsIn K mainGlobals "RESULTS" = some (some (.ref R))) (lR : K.lookup R = some ⟨.type "dict", none, .dict esR nR, #[]⟩) (kR : PySem.W.KeysLit w.params esR.toList) (sR : (R == sysModules) = false) (r_add : PySem.W.nsIn K R "add" = some (some (.ref f_add_1))) (r_sub : PySem.W.nsIn K R "sub" = some (some (.ref f_sub_1))) (r_mul : PySem.W.nsIn K R "mul" = some (some (.ref f_mul))) (r_and : PySem.W.nsIn K R "and" = some (some (.ref f_and_1))) (r_or : PySem.W.nsIn K R "or" = some (some (.ref f_or_1))) (r_xor : PySem.W.nsIn K R "xor" = some (some (.ref f_xor))) (r_shl : PySem.W.nsIn K R "shl" = some (some (.ref f_shl_1))) (r_shr : PySem.W.nsIn K R "shr" = some (some (.ref f_shr_1))) (r_sar : PySem.W.nsIn K R "sar" = some (some (.ref f_sar))) (r_slt : PySem.W.nsIn K R "slt" = some (some (.ref f_slt))) (r_sltu : PySem.W.nsIn K R "sltu" = some (some (.ref f_sltu))) (r_divu : PySem.W.nsIn K R "divu" = some (some (.ref f_divu_1))) (r_remu : PySem.W.nsIn K R "remu" = some (some (.ref f_remu_1))) (r_addi : PySem.W.nsIn K R "addi" = some (some (.ref f_add_1))) (r_andi : PySem.W.nsIn K R "andi" = some (some (.ref f_and_1))) (r_ori : PySem.W.nsIn K R "ori" = some (some (.ref f_or_1))) (r_xori : PySem.W.nsIn K R "xori" = some (some (.ref f_xor))) (r_shli : PySem.W.nsIn K R "shli" = some (some (.ref f_shl_1))) (r_shri : PySem.W.nsIn K R "shri" = some (some (.ref f_shr_1))) (r_sari : PySem.W.nsIn K R "sari" = some (some (.ref f_sar))) (r_slti : PySem.W.nsIn K R "slti" = some (some (.ref f_slt))) (aRU : PySem.W.nsIn K mainGlobals "RULES" = some (some (.ref RU))) (lRU : K.lookup RU = some ⟨.type "dict", none, .dict esU nU, #[]⟩) (kRU : PySem.W.KeysLit w.params esU.toList) (sRU : (RU == sysModules) = false) (u_add : PySem.W.nsIn K RU "add" = some (some (.ref f_add))) (u_sub : PySem.W.nsIn K RU "sub" = some (some (.ref f_sub))) (u_mul : PySem.W.nsIn K RU "mul" = some none) (u_and : PySem.W.nsIn K RU "and" = some (some (.ref f_and))) (u_or : PySem.W.nsIn K RU "or" = some (some (.ref f_or))) (u_xor : PySem.W.nsIn K RU "xor" = some (some (.ref f_or))) (u_shl : PySem.W.nsIn K RU "shl" = some (some (.ref f_shl))) (u_shr : PySem.W.nsIn K RU "shr" = some (some (.ref f_shr))) (u_sar : PySem.W.nsIn K RU "sar" = some none) (u_slt : PySem.W.nsIn K RU "slt" = some (some (.ref f_less))) (u_sltu : PySem.W.nsIn K RU "sltu" = some (some (.ref f_less))) (u_divu : PySem.W.nsIn K RU "divu" = some (some (.ref f_divu))) (u_remu : PySem.W.nsIn K RU "remu" = some (some (.ref f_remu))) (aI : PySem.W.nsIn K mainGlobals "OPS_OF_IMMEDIATES" = some (some (.ref I))) (lI : K.lookup I = some ⟨.type "dict", none, .dict esI nI, #[]⟩) (kI : PySem.W.KeysLit w.params esI.toList) (sI : (I == sysModules) = false) (i_add : PySem.W.nsIn K I "add" = some none) (i_sub : PySem.W.nsIn K I "sub" = some none) (i_mul : PySem.W.nsIn K I "mul" = some none) (i_and : PySem.W.nsIn K I "and" = some none) (i_or : PySem.W.nsIn K I "or" = some none) (i_xor : PySem.W.nsIn K I "xor" = some none) (i_shl : PySem.W.nsIn K I "shl" = some none) (i_shr : PySem.W.nsIn K I "shr" = some none) (i_sar : PySem.W.nsIn K I "sar" = some none) (i_slt : PySem.W.nsIn K I "slt" = some none) (i_sltu : PySem.W.nsIn K I "sltu" = some none) (i_divu : PySem.W.nsIn K I "divu" = some none) (i_remu : PySem.W.nsIn K I "remu" = some none) : 
    ∃ fd : FuncData, (∀ (s : Shared) (v : Value), BindsTo s fd ⟨[v], []⟩ [("script", v)]) ∧ ∀ base : Heap, K.In base → base.Ns mainGlobals mg → RunG l.prog w K mg base fa fd "script" (spLaw K) := by
  have e := hfa.symm.trans (PySem.W.mg_of X G a_law)
  cases e
  have Z_plain_op : St1 K mg "plain_op" s_plain_op ["op"] := mkSt1 X G a_plain_op l_plain_op cc_plain_op kk_plain_op (fun _ _ _ _ _ _ us hl => match us, hl with | [_], _ => rfl)
  have Z_signed : St1 K mg "_signed" s_signed ["word"] := mkSt1 X G a_signed l_signed cc_signed kk_signed (fun _ _ _ _ _ _ us hl => match us, hl with | [_], _ => rfl)
  have Zf_add : StF K "_add" s_add ["a", "b"] f_add := mkStF l_add cc_add kk_add (fun _ _ _ _ _ _ us hl => match us, hl with | [_, _], _ => rfl)
  have Z_add : St1 K mg "_add" s_add ["a", "b"] := mkSt1 X G a_add l_add cc_add kk_add (fun _ _ _ _ _ _ us hl => match us, hl with | [_, _], _ => rfl)
  have Zf_sub : StF K "_sub" s_sub ["a", "b"] f_sub := mkStF l_sub cc_sub kk_sub (fun _ _ _ _ _ _ us hl => match us, hl with | [_, _], _ => rfl)
  have Z_sub : St1 K mg "_sub" s_sub ["a", "b"] := mkSt1 X G a_sub l_sub cc_sub kk_sub (fun _ _ _ _ _ _ us hl => match us, hl with | [_, _], _ => rfl)
  have Zf_mul : StF K "_mul" s_mul ["x", "y"] f_mul := mkStF l_mul cc_mul kk_mul (fun _ _ _ _ _ _ us hl => match us, hl with | [_, _], _ => rfl)
  have Z_mul : St1 K mg "_mul" s_mul ["x", "y"] := mkSt1 X G a_mul l_mul cc_mul kk_mul (fun _ _ _ _ _ _ us hl => match us, hl with | [_, _], _ => rfl)
  have Zf_and : StF K "_and" s_and ["a", "b"] f_and := mkStF l_and cc_and kk_and (fun _ _ _ _ _ _ us hl => match us, hl with | [_, _], _ => rfl)
  have Z_and : St1 K mg "_and" s_and ["a", "b"] := mkSt1 X G a_and l_and cc_and kk_and (fun _ _ _ _ _ _ us hl => match us, hl with | [_, _], _ => rfl)
  have Zf_or : StF K "_or" s_or ["a", "b"] f_or := mkStF l_or cc_or kk_or (fun _ _ _ _ _ _ us hl => match us, hl with | [_, _], _ => rfl)
  have Z_or : St1 K mg "_or" s_or ["a", "b"] := mkSt1 X G a_or l_or cc_or kk_or (fun _ _ _ _ _ _ us hl => match us, hl with | [_, _], _ => rfl)
  have Zf_xor : StF K "_xor" s_xor ["x", "y"] f_xor := mkStF l_xor cc_xor kk_xor (fun _ _ _ _ _ _ us hl => match us, hl with | [_, _], _ => rfl)
  have Z_xor : St1 K mg "_xor" s_xor ["x", "y"] := mkSt1 X G a_xor l_xor cc_xor kk_xor (fun _ _ _ _ _ _ us hl => match us, hl with | [_, _], _ => rfl)
  have Zf_shl : StF K "_shl" s_shl ["a", "b"] f_shl := mkStF l_shl cc_shl kk_shl (fun _ _ _ _ _ _ us hl => match us, hl with | [_, _], _ => rfl)
  have Z_shl : St1 K mg "_shl" s_shl ["a", "b"] := mkSt1 X G a_shl l_shl cc_shl kk_shl (fun _ _ _ _ _ _ us hl => match us, hl with | [_, _], _ => rfl)
  have Zf_shr : StF K "_shr" s_shr ["a", "b"] f_shr := mkStF l_shr cc_shr kk_shr (fun _ _ _ _ _ _ us hl => match us, hl with | [_, _], _ => rfl)
  have Z_shr : St1 K mg "_shr" s_shr ["a", "b"] := mkSt1 X G a_shr l_shr cc_shr kk_shr (fun _ _ _ _ _ _ us hl => match us, hl with | [_, _], _ => rfl)
  have Zf_sar : StF K "_sar" s_sar ["x", "y"] f_sar := mkStF l_sar cc_sar kk_sar (fun _ _ _ _ _ _ us hl => match us, hl with | [_, _], _ => rfl)
  have Z_sar : St1 K mg "_sar" s_sar ["x", "y"] := mkSt1 X G a_sar l_sar cc_sar kk_sar (fun _ _ _ _ _ _ us hl => match us, hl with | [_, _], _ => rfl)
  have Zf_slt : StF K "_slt" s_slt ["x", "y"] f_slt := mkStF l_slt cc_slt kk_slt (fun _ _ _ _ _ _ us hl => match us, hl with | [_, _], _ => rfl)
  have Z_slt : St1 K mg "_slt" s_slt ["x", "y"] := mkSt1 X G a_slt l_slt cc_slt kk_slt (fun _ _ _ _ _ _ us hl => match us, hl with | [_, _], _ => rfl)
  have Zf_sltu : StF K "_sltu" s_sltu ["x", "y"] f_sltu := mkStF l_sltu cc_sltu kk_sltu (fun _ _ _ _ _ _ us hl => match us, hl with | [_, _], _ => rfl)
  have Z_sltu : St1 K mg "_sltu" s_sltu ["x", "y"] := mkSt1 X G a_sltu l_sltu cc_sltu kk_sltu (fun _ _ _ _ _ _ us hl => match us, hl with | [_, _], _ => rfl)
  have Zf_divu : StF K "_divu" s_divu ["a", "b"] f_divu := mkStF l_divu cc_divu kk_divu (fun _ _ _ _ _ _ us hl => match us, hl with | [_, _], _ => rfl)
  have Z_divu : St1 K mg "_divu" s_divu ["a", "b"] := mkSt1 X G a_divu l_divu cc_divu kk_divu (fun _ _ _ _ _ _ us hl => match us, hl with | [_, _], _ => rfl)
  have Zf_remu : StF K "_remu" s_remu ["a", "b"] f_remu := mkStF l_remu cc_remu kk_remu (fun _ _ _ _ _ _ us hl => match us, hl with | [_, _], _ => rfl)
  have Z_remu : St1 K mg "_remu" s_remu ["a", "b"] := mkSt1 X G a_remu l_remu cc_remu kk_remu (fun _ _ _ _ _ _ us hl => match us, hl with | [_, _], _ => rfl)
  have Z_compute : St1 K mg "compute" s_compute ["op", "x", "y"] := mkSt1 X G a_compute l_compute cc_compute kk_compute (fun _ _ _ _ _ _ us hl => match us, hl with | [_, _, _], _ => rfl)
  have Z_holds : St1 K mg "holds" s_holds ["op", "x", "y"] := mkSt1 X G a_holds l_holds cc_holds kk_holds (fun _ _ _ _ _ _ us hl => match us, hl with | [_, _, _], _ => rfl)
  have Z_is_row_fact : St1 K mg "is_row_fact" s_is_row_fact ["fact"] := mkSt1 X G a_is_row_fact l_is_row_fact cc_is_row_fact kk_is_row_fact (fun _ _ _ _ _ _ us hl => match us, hl with | [_], _ => rfl)
  have Z_only_word : St1 K mg "only_word" s_only_word ["fact"] := mkSt1 X G a_only_word l_only_word cc_only_word kk_only_word (fun _ _ _ _ _ _ us hl => match us, hl with | [_], _ => rfl)
  have Z_bounds : St1 K mg "bounds" s_bounds ["fact"] := mkSt1 X G a_bounds l_bounds cc_bounds kk_bounds (fun _ _ _ _ _ _ us hl => match us, hl with | [_], _ => rfl)
  have Z_span : St1 K mg "span" s_span ["low", "high"] := mkSt1 X G a_span l_span cc_span kk_span (fun _ _ _ _ _ _ us hl => match us, hl with | [_, _], _ => rfl)
  have Z_fact_of_words : St1 K mg "_fact_of_words" s_fact_of_words ["words"] := mkSt1 X G a_fact_of_words l_fact_of_words cc_fact_of_words kk_fact_of_words (fun _ _ _ _ _ _ us hl => match us, hl with | [_], _ => rfl)
  have Z_result : St1 K mg "result" s_result ["op", "a", "b"] := mkSt1 X G a_result l_result cc_result kk_result (fun _ _ _ _ _ _ us hl => match us, hl with | [_, _, _], _ => rfl)
  have Zf_add_1 : StF K "_add" s_add_1 ["x", "y"] f_add_1 := mkStF l_add_1 cc_add_1 kk_add_1 (fun _ _ _ _ _ _ us hl => match us, hl with | [_, _], _ => rfl)
  have Zf_sub_1 : StF K "_sub" s_sub_1 ["x", "y"] f_sub_1 := mkStF l_sub_1 cc_sub_1 kk_sub_1 (fun _ _ _ _ _ _ us hl => match us, hl with | [_, _], _ => rfl)
  have Zf_and_1 : StF K "_and" s_and_1 ["x", "y"] f_and_1 := mkStF l_and_1 cc_and_1 kk_and_1 (fun _ _ _ _ _ _ us hl => match us, hl with | [_, _], _ => rfl)
  have Z_sums : St1 K mg "_sums" s_sums ["bits"] := mkSt1 X G a_sums l_sums cc_sums kk_sums (fun _ _ _ _ _ _ us hl => match us, hl with | [_], _ => rfl)
  have Zf_or_1 : StF K "_or" s_or_1 ["x", "y"] f_or_1 := mkStF l_or_1 cc_or_1 kk_or_1 (fun _ _ _ _ _ _ us hl => match us, hl with | [_, _], _ => rfl)
  have Zf_shr_1 : StF K "_shr" s_shr_1 ["x", "y"] f_shr_1 := mkStF l_shr_1 cc_shr_1 kk_shr_1 (fun _ _ _ _ _ _ us hl => match us, hl with | [_, _], _ => rfl)
  have Zf_shl_1 : StF K "_shl" s_shl_1 ["x", "y"] f_shl_1 := mkStF l_shl_1 cc_shl_1 kk_shl_1 (fun _ _ _ _ _ _ us hl => match us, hl with | [_, _], _ => rfl)
  have Zf_divu_1 : StF K "_divu" s_divu_1 ["x", "y"] f_divu_1 := mkStF l_divu_1 cc_divu_1 kk_divu_1 (fun _ _ _ _ _ _ us hl => match us, hl with | [_, _], _ => rfl)
  have Zf_remu_1 : StF K "_remu" s_remu_1 ["x", "y"] f_remu_1 := mkStF l_remu_1 cc_remu_1 kk_remu_1 (fun _ _ _ _ _ _ us hl => match us, hl with | [_, _], _ => rfl)
  have Zf_less : StF K "_less" s_less ["a", "b"] f_less := mkStF l_less cc_less kk_less (fun _ _ _ _ _ _ us hl => match us, hl with | [_, _], _ => rfl)
  have Z_less : St1 K mg "_less" s_less ["a", "b"] := mkSt1 X G a_less l_less cc_less kk_less (fun _ _ _ _ _ _ us hl => match us, hl with | [_, _], _ => rfl)
  have Z_decided : St1 K mg "decided" s_decided ["cond", "a", "b"] := mkSt1 X G a_decided l_decided cc_decided kk_decided (fun _ _ _ _ _ _ us hl => match us, hl with | [_, _, _], _ => rfl)
  have Z_law_draw : St1 K mg "_law_draw" s_law_draw ["script"] := mkSt1 X G a_law_draw l_law_draw cc_law_draw kk_law_draw (fun _ _ _ _ _ _ us hl => match us, hl with | [_], _ => rfl)
  have Z_law_take : St1 K mg "_law_take" s_law_take ["draw", "many"] := mkSt1 X G a_law_take l_law_take cc_law_take kk_law_take (fun _ _ _ _ _ _ us hl => match us, hl with | [_, _], _ => rfl)
  have Z_law_signed : St1 K mg "_law_signed" s_law_signed ["x"] := mkSt1 X G a_law_signed l_law_signed cc_law_signed kk_law_signed (fun _ _ _ _ _ _ us hl => match us, hl with | [_], _ => rfl)
  have Z_law_compute : St1 K mg "_law_compute" s_law_compute ["op", "x", "y"] := mkSt1 X G a_law_compute l_law_compute cc_law_compute kk_law_compute (fun _ _ _ _ _ _ us hl => match us, hl with | [_, _, _], _ => rfl)
  have Z_law_holds : St1 K mg "_law_holds" s_law_holds ["op", "x", "y"] := mkSt1 X G a_law_holds l_law_holds cc_law_holds kk_law_holds (fun _ _ _ _ _ _ us hl => match us, hl with | [_, _, _], _ => rfl)
  have Z_law_word : St1 K mg "_law_word" s_law_word ["draw"] := mkSt1 X G a_law_word l_law_word cc_law_word kk_law_word (fun _ _ _ _ _ _ us hl => match us, hl with | [_], _ => rfl)
  have Z_law_fact : St1 K mg "_law_fact" s_law_fact ["draw"] := mkSt1 X G a_law_fact l_law_fact cc_law_fact kk_law_fact (fun _ _ _ _ _ _ us hl => match us, hl with | [_], _ => rfl)
  have Z_law_bounds : St1 K mg "_law_bounds" s_law_bounds ["fact"] := mkSt1 X G a_law_bounds l_law_bounds cc_law_bounds kk_law_bounds (fun _ _ _ _ _ _ us hl => match us, hl with | [_], _ => rfl)
  have Z_law_allows : St1 K mg "_law_allows" s_law_allows ["fact", "w"] := mkSt1 X G a_law_allows l_law_allows cc_law_allows kk_law_allows (fun _ _ _ _ _ _ us hl => match us, hl with | [_, _], _ => rfl)
  have Z_law_of : St1 K mg "_law_of" s_law_of ["lo", "hi"] := mkSt1 X G a_law_of l_law_of cc_law_of kk_law_of (fun _ _ _ _ _ _ us hl => match us, hl with | [_, _], _ => rfl)
  have Z_law_row : St1 K mg "_law_row" s_law_row ["words"] := mkSt1 X G a_law_row l_law_row cc_law_row kk_law_row (fun _ _ _ _ _ _ us hl => match us, hl with | [_], _ => rfl)
  have Z_law_samples : St1 K mg "_law_samples" s_law_samples ["draw", "fact"] := mkSt1 X G a_law_samples l_law_samples cc_law_samples kk_law_samples (fun _ _ _ _ _ _ us hl => match us, hl with | [_, _], _ => rfl)
  have Z_law_by_word : St1 K mg "_law_by_word" s_law_by_word ["op", "lo", "hi", "c"] := mkSt1 X G a_law_by_word l_law_by_word cc_law_by_word kk_law_by_word (fun _ _ _ _ _ _ us hl => match us, hl with | [_, _, _, _], _ => rfl)
  have Z_law_result : St1 K mg "_law_result" s_law_result ["op", "a", "b"] := mkSt1 X G a_law_result l_law_result cc_law_result kk_law_result (fun _ _ _ _ _ _ us hl => match us, hl with | [_, _, _], _ => rfl)
  have Z_law_decided : St1 K mg "_law_decided" s_law_decided ["op", "a", "b"] := mkSt1 X G a_law_decided l_law_decided cc_law_decided kk_law_decided (fun _ _ _ _ _ _ us hl => match us, hl with | [_, _, _], _ => rfl)
  have Z_law : St1 K mg "law" s_law ["script"] := mkSt1 X G a_law l_law cc_law kk_law (fun _ _ _ _ _ _ us hl => match us, hl with | [_], _ => rfl)
  have g_WORDS_IN_ALL : GV mg "WORDS_IN_ALL" (.int 4294967296) := ⟨_, PySem.W.mg_of X G a_WORDS_IN_ALL, ⟨_, rfl⟩⟩
  have g_MASK : GV mg "MASK" (.int 4294967295) := ⟨_, PySem.W.mg_of X G a_MASK, ⟨_, rfl⟩⟩
  have g_HALF : GV mg "HALF" (.int 2147483648) := ⟨_, PySem.W.mg_of X G a_HALF, ⟨_, rfl⟩⟩
  have g_MOST_WORDS : GV mg "MOST_WORDS" (.int 16) := ⟨_, PySem.W.mg_of X G a_MOST_WORDS, ⟨_, rfl⟩⟩
  have g_MOST_PAIRS : GV mg "MOST_PAIRS" (.int 64) := ⟨_, PySem.W.mg_of X G a_MOST_PAIRS, ⟨_, rfl⟩⟩
  have g_MOST_ONE_BITS : GV mg "MOST_ONE_BITS" (.int 4) := ⟨_, PySem.W.mg_of X G a_MOST_ONE_BITS, ⟨_, rfl⟩⟩
  have b_abs : mg "abs" = none := PySem.W.mg_none_of X G z_abs
  have b_all : mg "all" = none := PySem.W.mg_none_of X G z_all
  have b_bool : mg "bool" = none := PySem.W.mg_none_of X G z_bool
  have b_int : mg "int" = none := PySem.W.mg_none_of X G z_int
  have b_isinstance : mg "isinstance" = none := PySem.W.mg_none_of X G z_isinstance
  have b_len : mg "len" = none := PySem.W.mg_none_of X G z_len
  have b_list : mg "list" = none := PySem.W.mg_none_of X G z_list
  have b_max : mg "max" = none := PySem.W.mg_none_of X G z_max
  have b_min : mg "min" = none := PySem.W.mg_none_of X G z_min
  have b_range : mg "range" = none := PySem.W.mg_none_of X G z_range
  have b_set : mg "set" = none := PySem.W.mg_none_of X G z_set
  have b_sorted : mg "sorted" = none := PySem.W.mg_none_of X G z_sorted
  have b_tuple : mg "tuple" = none := PySem.W.mg_none_of X G z_tuple
  have F_law := fun_mk (st := s_law) l_law cc_law kk_law
  refine ⟨PySem.W.fnOf "law" "law" (defArgs s_law) (defBody s_law) (defScope s_law) .none kV_law dc_law pm_law an_law cd_law ct_law, fun s v => .of_eq rfl, fun base _ _ => ?_⟩
  have T : Mtx K mg := ⟨g_MASK, g_HALF, g_WORDS_IN_ALL⟩
  have c_signed : Cd l.prog w K mg base 1 "_signed" spSgn := ok_signed T Z_signed
  have HdR : ∀ {f : Addr} {g : Int → Int → Int} {k : Str}, Held l.prog w K mg base 2 f (spOp g) → PySem.W.nsIn K R k = some (some (.ref f)) → ∃ f, KDct K w R k (.ref f) ∧ Held l.prog w K mg base 2 f (spOp g) := fun c r => ⟨_, ⟨esR, nR, _, lR, kR, r, rfl⟩, c⟩
  have rows : ∀ p ∈ tab13 ++ tab8, ∃ f, KDct K w R p.1 (.ref f) ∧ Held l.prog w K mg base 2 f (spOp p.2) := by
    intro p hp
    simp only [tab13, tab8, List.cons_append, List.nil_append, List.mem_cons, List.not_mem_nil, or_false] at hp
    rcases hp with rfl | rfl | rfl | rfl | rfl | rfl | rfl | rfl | rfl | rfl | rfl | rfl | rfl | rfl | rfl | rfl | rfl | rfl | rfl | rfl | rfl
    · exact HdR (om_add T Zf_add_1) r_add
    · exact HdR (om_sub T Zf_sub_1) r_sub
    · exact HdR (om_mul T Zf_mul) r_mul
    · exact HdR (om_and  Zf_and_1) r_and
    · exact HdR (om_or  Zf_or_1) r_or
    · exact HdR (om_xor  Zf_xor) r_xor
    · exact HdR (om_shl T Zf_shl_1) r_shl
    · exact HdR (om_shr  Zf_shr_1) r_shr
    · exact HdR (om_sar T c_signed Zf_sar) r_sar
    · exact HdR (om_slt c_signed Zf_slt) r_slt
    · exact HdR (om_sltu  Zf_sltu) r_sltu
    · exact HdR (om_divu T Zf_divu_1) r_divu
    · exact HdR (om_remu  Zf_remu_1) r_remu
    · exact HdR (om_add T Zf_add_1) r_addi
    · exact HdR (om_and  Zf_and_1) r_andi
    · exact HdR (om_or  Zf_or_1) r_ori
    · exact HdR (om_xor  Zf_xor) r_xori
    · exact HdR (om_shl T Zf_shl_1) r_shli
    · exact HdR (om_shr  Zf_shr_1) r_shri
    · exact HdR (om_sar T c_signed Zf_sar) r_sari
    · exact HdR (om_slt c_signed Zf_slt) r_slti
  have gR : GV mg "RESULTS" (.ref R) := ⟨_, PySem.W.mg_of X G aR, rfl⟩
  have gRU : GV mg "RULES" (.ref RU) := ⟨_, PySem.W.mg_of X G aRU, rfl⟩
  have gI : GV mg "OPS_OF_IMMEDIATES" (.ref I) := ⟨_, PySem.W.mg_of X G aI, rfl⟩
  have none13 : ∀ op ∈ names13, KGet K w I op none := by
    intro op hp
    simp only [names13, tab13, List.map_cons, List.map_nil, List.mem_cons, List.not_mem_nil, or_false] at hp
    rcases hp with rfl | rfl | rfl | rfl | rfl | rfl | rfl | rfl | rfl | rfl | rfl | rfl | rfl
    · exact ⟨esI, nI, lI, kI, sI, .inl ⟨rfl, i_add⟩⟩
    · exact ⟨esI, nI, lI, kI, sI, .inl ⟨rfl, i_sub⟩⟩
    · exact ⟨esI, nI, lI, kI, sI, .inl ⟨rfl, i_mul⟩⟩
    · exact ⟨esI, nI, lI, kI, sI, .inl ⟨rfl, i_and⟩⟩
    · exact ⟨esI, nI, lI, kI, sI, .inl ⟨rfl, i_or⟩⟩
    · exact ⟨esI, nI, lI, kI, sI, .inl ⟨rfl, i_xor⟩⟩
    · exact ⟨esI, nI, lI, kI, sI, .inl ⟨rfl, i_shl⟩⟩
    · exact ⟨esI, nI, lI, kI, sI, .inl ⟨rfl, i_shr⟩⟩
    · exact ⟨esI, nI, lI, kI, sI, .inl ⟨rfl, i_sar⟩⟩
    · exact ⟨esI, nI, lI, kI, sI, .inl ⟨rfl, i_slt⟩⟩
    · exact ⟨esI, nI, lI, kI, sI, .inl ⟨rfl, i_sltu⟩⟩
    · exact ⟨esI, nI, lI, kI, sI, .inl ⟨rfl, i_divu⟩⟩
    · exact ⟨esI, nI, lI, kI, sI, .inl ⟨rfl, i_remu⟩⟩
  have c_is_row_fact : Cd l.prog w K mg base 1 "is_row_fact" (spIsRow K) := ok_is_row_fact Z_is_row_fact
  have c_bounds : Cd l.prog w K mg base 1 "bounds" (spBounds K) := ok_bounds g_MASK Z_bounds
  have c_span : Cd l.prog w K mg base 1 "span" (spSpan K) := ok_span g_MASK Z_span
  have c_only_word : Cd l.prog w K mg base 2 "only_word" (spOnly K) := ok_only_word b_len c_is_row_fact Z_only_word
  have c_sums : Cd l.prog w K mg base 1 "_sums" spSums := ok_sums Z_sums
  have rules : ∀ p ∈ tabR, (p.2.2 = rAll ∧ KGet K w RU p.1 none) ∨ ∃ f, KGet K w RU p.1 (some (.ref f)) ∧ Held l.prog w K mg base 3 f (spRule K p.2.2) := by
    intro p hp
    simp only [tabR, List.mem_cons, List.not_mem_nil, or_false] at hp
    rcases hp with rfl | rfl | rfl | rfl | rfl | rfl | rfl | rfl | rfl | rfl | rfl | rfl | rfl
    · exact .inr ⟨_, ⟨esU, nU, lRU, kRU, sRU, .inr ⟨_, _, rfl, u_add, rfl⟩⟩, or_add g_MASK c_bounds c_span Zf_add⟩
    · exact .inr ⟨_, ⟨esU, nU, lRU, kRU, sRU, .inr ⟨_, _, rfl, u_sub, rfl⟩⟩, or_sub c_bounds c_span Zf_sub⟩
    · exact .inl ⟨rfl, ⟨esU, nU, lRU, kRU, sRU, .inl ⟨rfl, u_mul⟩⟩⟩
    · exact .inr ⟨_, ⟨esU, nU, lRU, kRU, sRU, .inr ⟨_, _, rfl, u_and, rfl⟩⟩, or_and b_range b_len b_tuple b_min g_MOST_ONE_BITS c_bounds c_span c_only_word c_sums Zf_and⟩
    · exact .inr ⟨_, ⟨esU, nU, lRU, kRU, sRU, .inr ⟨_, _, rfl, u_or, rfl⟩⟩, or_or b_max c_bounds c_span Zf_or⟩
    · exact .inr ⟨_, ⟨esU, nU, lRU, kRU, sRU, .inr ⟨_, _, rfl, u_xor, rfl⟩⟩, or_or b_max c_bounds c_span Zf_or⟩
    · exact .inr ⟨_, ⟨esU, nU, lRU, kRU, sRU, .inr ⟨_, _, rfl, u_shl, rfl⟩⟩, or_shl g_MASK c_bounds c_span c_only_word Zf_shl⟩
    · exact .inr ⟨_, ⟨esU, nU, lRU, kRU, sRU, .inr ⟨_, _, rfl, u_shr, rfl⟩⟩, or_shr c_bounds c_span c_only_word Zf_shr⟩
    · exact .inl ⟨rfl, ⟨esU, nU, lRU, kRU, sRU, .inl ⟨rfl, u_sar⟩⟩⟩
    · exact .inr ⟨_, ⟨esU, nU, lRU, kRU, sRU, .inr ⟨_, _, rfl, u_slt, rfl⟩⟩, or_less Zf_less⟩
    · exact .inr ⟨_, ⟨esU, nU, lRU, kRU, sRU, .inr ⟨_, _, rfl, u_sltu, rfl⟩⟩, or_less Zf_less⟩
    · exact .inr ⟨_, ⟨esU, nU, lRU, kRU, sRU, .inr ⟨_, _, rfl, u_divu, rfl⟩⟩, or_divu c_bounds c_span c_only_word Zf_divu⟩
    · exact .inr ⟨_, ⟨esU, nU, lRU, kRU, sRU, .inr ⟨_, _, rfl, u_remu, rfl⟩⟩, or_remu c_bounds c_span c_only_word Zf_remu⟩
  have c_law_draw : Cd l.prog w K mg base 1 "_law_draw" (spDraw K) := ok_draw b_int b_abs b_len Z_law_draw
  have c_law_take : Cd l.prog w K mg base 1 "_law_take" spTake := ok_take b_int b_abs b_len Z_law_take
  have c_law_word : Cd l.prog w K mg base 2 "_law_word" spWord := ok_law_word c_law_take Z_law_word
  have c_law_fact : Cd l.prog w K mg base 3 "_law_fact" (spFact K) := ok_law_fact b_set b_range b_sorted b_tuple c_law_take c_law_word Z_law_fact
  have c_law_bounds : Cd l.prog w K mg base 1 "_law_bounds" (spBoundsG K) := ok_law_bounds b_min b_max Z_law_bounds
  have c_law_samples : Cd l.prog w K mg base 2 "_law_samples" (spSamp K) := ok_law_samples b_list c_law_take c_law_bounds Z_law_samples
  have c_law_allows : Cd l.prog w K mg base 1 "_law_allows" (spAllows K) := ok_law_allows Z_law_allows
  have c_is_row_fact : Cd l.prog w K mg base 1 "is_row_fact" (spIsRow K) := ok_is_row_fact Z_is_row_fact
  have c_compute : Cd l.prog w K mg base 3 "compute" spComp := ok_compute gR rows Z_compute
  have c_span : Cd l.prog w K mg base 1 "span" (spSpan K) := ok_span g_MASK Z_span
  have c_fact_of_words : Cd l.prog w K mg base 2 "_fact_of_words" (spFactOf K) := ok_fact_of_words b_len b_tuple g_MOST_WORDS c_span Z_fact_of_words
  have c_plain_op : Cd l.prog w K mg base 1 "plain_op" spPlain := ok_plain_op gI none13 Z_plain_op
  have c_result : Cd l.prog w K mg base 4 "result" (spResult K) := ok_result b_len b_sorted gRU g_MOST_PAIRS rules c_is_row_fact c_compute c_fact_of_words c_plain_op Z_result
  have c_law_signed : Cd l.prog w K mg base 1 "_law_signed" spSgn := ok_law_signed Z_law_signed
  have c_law_compute : Cd l.prog w K mg base 2 "_law_compute" spCompL := ok_law_compute b_int c_law_signed Z_law_compute
  have c_law_of : Cd l.prog w K mg base 1 "_law_of" (spSpan K) := ok_law_of Z_law_of
  have c_law_row : Cd l.prog w K mg base 2 "_law_row" (spRowL K) := ok_law_row b_set b_len b_sorted b_tuple c_law_of Z_law_row
  have c_law_by_word : Cd l.prog w K mg base 2 "_law_by_word" (spByW K) := ok_law_by_word c_law_of Z_law_by_word
  have c_law_result : Cd l.prog w K mg base 3 "_law_result" (spResult K) := ok_law_result b_len b_range b_min b_max c_law_compute c_law_row c_law_bounds c_law_of c_law_by_word Z_law_result
  have c_bounds : Cd l.prog w K mg base 1 "bounds" (spBounds K) := ok_bounds g_MASK Z_bounds
  have c_signed : Cd l.prog w K mg base 1 "_signed" spSgn := ok_signed T Z_signed
  have c_holds : Cd l.prog w K mg base 2 "holds" spHolds := ok_holds c_signed Z_holds
  have c_decided : Cd l.prog w K mg base 3 "decided" (spDecided K) := ok_decided b_all c_is_row_fact c_bounds c_holds Z_decided
  have c_law_holds : Cd l.prog w K mg base 2 "_law_holds" spHolds := ok_law_holds c_law_signed Z_law_holds
  have c_law_decided : Cd l.prog w K mg base 3 "_law_decided" (spDecided K) := ok_law_decided c_law_holds c_law_bounds Z_law_decided
  exact ok_law b_isinstance b_bool c_law_draw c_law_take c_law_fact c_law_samples c_law_allows c_result c_law_result c_decided c_law_decided c_law_compute c_law_holds F_law
end K21
open PySem PySem.W PyProof.Rows
set_option maxRecDepth 100000 in
set_option maxHeartbeats 0 in
theorem PySem.Challenge.cw_restitch_k21_results_and_decided_branche_holds : PySem.Challenge.rw_restitch_k21_results_and_decided_branche.Holds := by
  w_on; o_law; k_head; (case hw => w_witness2)
  k_fill
  refine Co.walk_ofG (l := PySem.Challenge.rw_restitch_k21_results_and_decided_branche) (n := 63) (x := "script") (sp := fun w => K21.spLaw _) rfl (by decide) rfl (fun w h Y => PySem.W.kIn_of Y) ?F (fun _ _ a ns hl _ hS => ⟨a, ns, rfl, hS, hl, fun _ => rfl⟩)
  case F =>
    intro w mg fa h KX G hmg
    refine' K21.all_mk KX G hmg ?a_plain_op ?l_plain_op ?cc_plain_op ?kk_plain_op ?a_signed ?l_signed ?cc_signed ?kk_signed ?a_add ?l_add ?cc_add ?kk_add ?a_sub ?l_sub ?cc_sub ?kk_sub ?a_mul ?l_mul ?cc_mul ?kk_mul ?a_and ?l_and ?cc_and ?kk_and ?a_or ?l_or ?cc_or ?kk_or ?a_xor ?l_xor ?cc_xor ?kk_xor ?a_shl ?l_shl ?cc_shl ?kk_shl ?a_shr ?l_shr ?cc_shr ?kk_shr ?a_sar ?l_sar ?cc_sar ?kk_sar ?a_slt ?l_slt ?cc_slt ?kk_slt ?a_sltu ?l_sltu ?cc_sltu ?kk_sltu ?a_divu ?l_divu ?cc_divu ?kk_divu ?a_remu ?l_remu ?cc_remu ?kk_remu ?a_compute ?l_compute ?cc_compute ?kk_compute ?a_holds ?l_holds ?cc_holds ?kk_holds ?a_is_row_fact ?l_is_row_fact ?cc_is_row_fact ?kk_is_row_fact ?a_only_word ?l_only_word ?cc_only_word ?kk_only_word ?a_bounds ?l_bounds ?cc_bounds ?kk_bounds ?a_span ?l_span ?cc_span ?kk_span ?a_fact_of_words ?l_fact_of_words ?cc_fact_of_words ?kk_fact_of_words ?a_result ?l_result ?cc_result ?kk_result ?a_add_1 ?l_add_1 ?cc_add_1 ?kk_add_1 ?a_sub_1 ?l_sub_1 ?cc_sub_1 ?kk_sub_1 ?a_and_1 ?l_and_1 ?cc_and_1 ?kk_and_1 ?a_sums ?l_sums ?cc_sums ?kk_sums ?a_or_1 ?l_or_1 ?cc_or_1 ?kk_or_1 ?a_shr_1 ?l_shr_1 ?cc_shr_1 ?kk_shr_1 ?a_shl_1 ?l_shl_1 ?cc_shl_1 ?kk_shl_1 ?a_divu_1 ?l_divu_1 ?cc_divu_1 ?kk_divu_1 ?a_remu_1 ?l_remu_1 ?cc_remu_1 ?kk_remu_1 ?a_less ?l_less ?cc_less ?kk_less ?a_decided ?l_decided ?cc_decided ?kk_decided ?a_law_draw ?l_law_draw ?cc_law_draw ?kk_law_draw ?a_law_take ?l_law_take ?cc_law_take ?kk_law_take ?a_law_signed ?l_law_signed ?cc_law_signed ?kk_law_signed ?a_law_compute ?l_law_compute ?cc_law_compute ?kk_law_compute ?a_law_holds ?l_law_holds ?cc_law_holds ?kk_law_holds ?a_law_word ?l_law_word ?cc_law_word ?kk_law_word ?a_law_fact ?l_law_fact ?cc_law_fact ?kk_law_fact ?a_law_bounds ?l_law_bounds ?cc_law_bounds ?kk_law_bounds ?a_law_allows ?l_law_allows ?cc_law_allows ?kk_law_allows ?a_law_of ?l_law_of ?cc_law_of ?kk_law_of ?a_law_row ?l_law_row ?cc_law_row ?kk_law_row ?a_law_samples ?l_law_samples ?cc_law_samples ?kk_law_samples ?a_law_by_word ?l_law_by_word ?cc_law_by_word ?kk_law_by_word ?a_law_result ?l_law_result ?cc_law_result ?kk_law_result ?a_law_decided ?l_law_decided ?cc_law_decided ?kk_law_decided ?a_law ?l_law ?cc_law ?kk_law ?a_WORDS_IN_ALL ?a_MASK ?a_HALF ?a_MOST_WORDS ?a_MOST_PAIRS ?a_MOST_ONE_BITS ?z_abs ?z_all ?z_bool ?z_int ?z_isinstance ?z_len ?z_list ?z_max ?z_min ?z_range ?z_set ?z_sorted ?z_tuple ?aR ?lR ?kR ?sR ?r_add ?r_sub ?r_mul ?r_and ?r_or ?r_xor ?r_shl ?r_shr ?r_sar ?r_slt ?r_sltu ?r_divu ?r_remu ?r_addi ?r_andi ?r_ori ?r_xori ?r_shli ?r_shri ?r_sari ?r_slti ?aRU ?lRU ?kRU ?sRU ?u_add ?u_sub ?u_mul ?u_and ?u_or ?u_xor ?u_shl ?u_shr ?u_sar ?u_slt ?u_sltu ?u_divu ?u_remu ?aI ?lI ?kI ?sI ?i_add ?i_sub ?i_mul ?i_and ?i_or ?i_xor ?i_shl ?i_shr ?i_sar ?i_slt ?i_sltu ?i_divu ?i_remu
    (case a_plain_op => k_is)
    (case l_plain_op => k_is)
    (case cc_plain_op => k_is)
    (case kk_plain_op => k_is)
    (case a_signed => k_is)
    (case l_signed => k_is)
    (case cc_signed => k_is)
    (case kk_signed => k_is)
    (case a_add => k_is)
    (case l_add => k_is)
    (case cc_add => k_is)
    (case kk_add => k_is)
    (case a_sub => k_is)
    (case l_sub => k_is)
    (case cc_sub => k_is)
    (case kk_sub => k_is)
    (case a_mul => k_is)
    (case l_mul => k_is)
    (case cc_mul => k_is)
    (case kk_mul => k_is)
    (case a_and => k_is)
    (case l_and => k_is)
    (case cc_and => k_is)
    (case kk_and => k_is)
    (case a_or => k_is)
    (case l_or => k_is)
    (case cc_or => k_is)
    (case kk_or => k_is)
    (case a_xor => k_is)
    (case l_xor => k_is)
    (case cc_xor => k_is)
    (case kk_xor => k_is)
    (case a_shl => k_is)
    (case l_shl => k_is)
    (case cc_shl => k_is)
    (case kk_shl => k_is)
    (case a_shr => k_is)
    (case l_shr => k_is)
    (case cc_shr => k_is)
    (case kk_shr => k_is)
    (case a_sar => k_is)
    (case l_sar => k_is)
    (case cc_sar => k_is)
    (case kk_sar => k_is)
    (case a_slt => k_is)
    (case l_slt => k_is)
    (case cc_slt => k_is)
    (case kk_slt => k_is)
    (case a_sltu => k_is)
    (case l_sltu => k_is)
    (case cc_sltu => k_is)
    (case kk_sltu => k_is)
    (case a_divu => k_is)
    (case l_divu => k_is)
    (case cc_divu => k_is)
    (case kk_divu => k_is)
    (case a_remu => k_is)
    (case l_remu => k_is)
    (case cc_remu => k_is)
    (case kk_remu => k_is)
    (case a_compute => k_is)
    (case l_compute => k_is)
    (case cc_compute => k_is)
    (case kk_compute => k_is)
    (case a_holds => k_is)
    (case l_holds => k_is)
    (case cc_holds => k_is)
    (case kk_holds => k_is)
    (case a_is_row_fact => k_is)
    (case l_is_row_fact => k_is)
    (case cc_is_row_fact => k_is)
    (case kk_is_row_fact => k_is)
    (case a_only_word => k_is)
    (case l_only_word => k_is)
    (case cc_only_word => k_is)
    (case kk_only_word => k_is)
    (case a_bounds => k_is)
    (case l_bounds => k_is)
    (case cc_bounds => k_is)
    (case kk_bounds => k_is)
    (case a_span => k_is)
    (case l_span => k_is)
    (case cc_span => k_is)
    (case kk_span => k_is)
    (case a_fact_of_words => k_is)
    (case l_fact_of_words => k_is)
    (case cc_fact_of_words => k_is)
    (case kk_fact_of_words => k_is)
    (case a_result => k_is)
    (case l_result => k_is)
    (case cc_result => k_is)
    (case kk_result => k_is)
    (case a_add_1 => k_is)
    (case l_add_1 => k_is)
    (case cc_add_1 => k_is)
    (case kk_add_1 => k_is)
    (case a_sub_1 => k_is)
    (case l_sub_1 => k_is)
    (case cc_sub_1 => k_is)
    (case kk_sub_1 => k_is)
    (case a_and_1 => k_is)
    (case l_and_1 => k_is)
    (case cc_and_1 => k_is)
    (case kk_and_1 => k_is)
    (case a_sums => k_is)
    (case l_sums => k_is)
    (case cc_sums => k_is)
    (case kk_sums => k_is)
    (case a_or_1 => k_is)
    (case l_or_1 => k_is)
    (case cc_or_1 => k_is)
    (case kk_or_1 => k_is)
    (case a_shr_1 => k_is)
    (case l_shr_1 => k_is)
    (case cc_shr_1 => k_is)
    (case kk_shr_1 => k_is)
    (case a_shl_1 => k_is)
    (case l_shl_1 => k_is)
    (case cc_shl_1 => k_is)
    (case kk_shl_1 => k_is)
    (case a_divu_1 => k_is)
    (case l_divu_1 => k_is)
    (case cc_divu_1 => k_is)
    (case kk_divu_1 => k_is)
    (case a_remu_1 => k_is)
    (case l_remu_1 => k_is)
    (case cc_remu_1 => k_is)
    (case kk_remu_1 => k_is)
    (case a_less => k_is)
    (case l_less => k_is)
    (case cc_less => k_is)
    (case kk_less => k_is)
    (case a_decided => k_is)
    (case l_decided => k_is)
    (case cc_decided => k_is)
    (case kk_decided => k_is)
    (case a_law_draw => k_is)
    (case l_law_draw => k_is)
    (case cc_law_draw => k_is)
    (case kk_law_draw => k_is)
    (case a_law_take => k_is)
    (case l_law_take => k_is)
    (case cc_law_take => k_is)
    (case kk_law_take => k_is)
    (case a_law_signed => k_is)
    (case l_law_signed => k_is)
    (case cc_law_signed => k_is)
    (case kk_law_signed => k_is)
    (case a_law_compute => k_is)
    (case l_law_compute => k_is)
    (case cc_law_compute => k_is)
    (case kk_law_compute => k_is)
    (case a_law_holds => k_is)
    (case l_law_holds => k_is)
    (case cc_law_holds => k_is)
    (case kk_law_holds => k_is)
    (case a_law_word => k_is)
    (case l_law_word => k_is)
    (case cc_law_word => k_is)
    (case kk_law_word => k_is)
    (case a_law_fact => k_is)
    (case l_law_fact => k_is)
    (case cc_law_fact => k_is)
    (case kk_law_fact => k_is)
    (case a_law_bounds => k_is)
    (case l_law_bounds => k_is)
    (case cc_law_bounds => k_is)
    (case kk_law_bounds => k_is)
    (case a_law_allows => k_is)
    (case l_law_allows => k_is)
    (case cc_law_allows => k_is)
    (case kk_law_allows => k_is)
    (case a_law_of => k_is)
    (case l_law_of => k_is)
    (case cc_law_of => k_is)
    (case kk_law_of => k_is)
    (case a_law_row => k_is)
    (case l_law_row => k_is)
    (case cc_law_row => k_is)
    (case kk_law_row => k_is)
    (case a_law_samples => k_is)
    (case l_law_samples => k_is)
    (case cc_law_samples => k_is)
    (case kk_law_samples => k_is)
    (case a_law_by_word => k_is)
    (case l_law_by_word => k_is)
    (case cc_law_by_word => k_is)
    (case kk_law_by_word => k_is)
    (case a_law_result => k_is)
    (case l_law_result => k_is)
    (case cc_law_result => k_is)
    (case kk_law_result => k_is)
    (case a_law_decided => k_is)
    (case l_law_decided => k_is)
    (case cc_law_decided => k_is)
    (case kk_law_decided => k_is)
    (case a_law => k_is)
    (case l_law => k_is)
    (case cc_law => k_is)
    (case kk_law => k_is)
    (case a_WORDS_IN_ALL => k_is)
    (case a_MASK => k_is)
    (case a_HALF => k_is)
    (case a_MOST_WORDS => k_is)
    (case a_MOST_PAIRS => k_is)
    (case a_MOST_ONE_BITS => k_is)
    (case z_abs => k_is)
    (case z_all => k_is)
    (case z_bool => k_is)
    (case z_int => k_is)
    (case z_isinstance => k_is)
    (case z_len => k_is)
    (case z_list => k_is)
    (case z_max => k_is)
    (case z_min => k_is)
    (case z_range => k_is)
    (case z_set => k_is)
    (case z_sorted => k_is)
    (case z_tuple => k_is)
    (case aR => k_is)
    (case lR => k_is)
    (case kR => exact ⟨⟨_, _, rfl, rfl⟩, ⟨_, _, rfl, rfl⟩, ⟨_, _, rfl, rfl⟩, ⟨_, _, rfl, rfl⟩, ⟨_, _, rfl, rfl⟩, ⟨_, _, rfl, rfl⟩, ⟨_, _, rfl, rfl⟩, ⟨_, _, rfl, rfl⟩, ⟨_, _, rfl, rfl⟩, ⟨_, _, rfl, rfl⟩, ⟨_, _, rfl, rfl⟩, ⟨_, _, rfl, rfl⟩, ⟨_, _, rfl, rfl⟩, ⟨_, _, rfl, rfl⟩, ⟨_, _, rfl, rfl⟩, ⟨_, _, rfl, rfl⟩, ⟨_, _, rfl, rfl⟩, ⟨_, _, rfl, rfl⟩, ⟨_, _, rfl, rfl⟩, ⟨_, _, rfl, rfl⟩, ⟨_, _, rfl, rfl⟩, trivial⟩)
    (case sR => first | rfl | decide)
    (case r_add => k_is)
    (case r_sub => k_is)
    (case r_mul => k_is)
    (case r_and => k_is)
    (case r_or => k_is)
    (case r_xor => k_is)
    (case r_shl => k_is)
    (case r_shr => k_is)
    (case r_sar => k_is)
    (case r_slt => k_is)
    (case r_sltu => k_is)
    (case r_divu => k_is)
    (case r_remu => k_is)
    (case r_addi => k_is)
    (case r_andi => k_is)
    (case r_ori => k_is)
    (case r_xori => k_is)
    (case r_shli => k_is)
    (case r_shri => k_is)
    (case r_sari => k_is)
    (case r_slti => k_is)
    (case aRU => k_is)
    (case lRU => k_is)
    (case kRU => exact ⟨⟨_, _, rfl, rfl⟩, ⟨_, _, rfl, rfl⟩, ⟨_, _, rfl, rfl⟩, ⟨_, _, rfl, rfl⟩, ⟨_, _, rfl, rfl⟩, ⟨_, _, rfl, rfl⟩, ⟨_, _, rfl, rfl⟩, ⟨_, _, rfl, rfl⟩, ⟨_, _, rfl, rfl⟩, ⟨_, _, rfl, rfl⟩, ⟨_, _, rfl, rfl⟩, trivial⟩)
    (case sRU => first | rfl | decide)
    (case u_add => k_is)
    (case u_sub => k_is)
    (case u_mul => k_is)
    (case u_and => k_is)
    (case u_or => k_is)
    (case u_xor => k_is)
    (case u_shl => k_is)
    (case u_shr => k_is)
    (case u_sar => k_is)
    (case u_slt => k_is)
    (case u_sltu => k_is)
    (case u_divu => k_is)
    (case u_remu => k_is)
    (case aI => k_is)
    (case lI => k_is)
    (case kI => exact ⟨⟨_, _, rfl, rfl⟩, ⟨_, _, rfl, rfl⟩, ⟨_, _, rfl, rfl⟩, ⟨_, _, rfl, rfl⟩, ⟨_, _, rfl, rfl⟩, ⟨_, _, rfl, rfl⟩, ⟨_, _, rfl, rfl⟩, ⟨_, _, rfl, rfl⟩, trivial⟩)
    (case sI => first | rfl | decide)
    (case i_add => k_is)
    (case i_sub => k_is)
    (case i_mul => k_is)
    (case i_and => k_is)
    (case i_or => k_is)
    (case i_xor => k_is)
    (case i_shl => k_is)
    (case i_shr => k_is)
    (case i_sar => k_is)
    (case i_slt => k_is)
    (case i_sltu => k_is)
    (case i_divu => k_is)
    (case i_remu => k_is)


