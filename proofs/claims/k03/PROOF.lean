import PyProof.Rows.All
import Wide.All
import OpenK.AllK
import Wide.FinOn
import HandS.ForMost
import HandS.Wide
import HandS.Style
import HandS.Small
import HandS.TupAny
import HandS.IsInst
import HandS.CallLocal
import HandS.Evl
import HandS.More
import HandS.WrittenGet
import HandS.SetBool
import HandS.Strs
import HandS.Zip
import HandS.Star
import KE.GoesZip
import KE.GoesMore
import PyProof.EnumMake
import PyProof.WalksEnum
import PyProof.ReprRoads
import PyProof.ReprLen
import PySem.Challenge.RW_restitch_k03_accesses_of_memory
set_option Elab.async false
set_option linter.all false
set_option maxRecDepth 100000
set_option maxHeartbeats 4000000
namespace Co
open PySem PySem.Spec PyProof.Rows L2
def rIntQ : List V → Hp → VK → Prop := fun xs H Q => (∃ i, xs = [.int i] ∧ Q (.int i) H) ∨ ∃ k, xs = [.bl k] ∧ Q (.int (if k then 1 else 0)) H
theorem call_intQ {X : Cx} : CallR X (.type "int") rIntQ := call_int1
def rAbsQ : List V → Hp → VK → Prop := fun xs H Q => ∃ i, xs = [.int i] ∧ Q (.int (if i < 0 then -i else i)) H
theorem call_absQ {X : Cx} : CallR X (.builtin "abs") rAbsQ := call_abs
def rLenQ (K : PySem.W.Frag) : List V → Hp → VK → Prop := fun xs H Q => ∃ p ys, xs = [.ref p] ∧ (SqL K H p ys ∨ SqT K H p ys) ∧ Q (.int (ys.length : Int)) H
theorem call_lenQ {X : Cx} : CallR X (.builtin "len") (rLenQ X.K) := call_len_seq
structure Cd (P : Program) (w : World) (K : PySem.W.Frag) (mg : Str → Option Value) (base : Heap) (k : Nat) (x : Str) (sp : Sp) : Prop where
  ex : ∃ (f : Addr) (fd : FuncData) (ps : List Str), FnOk P w K mg base CX0 k f fd ps sp ∧ mg x = some (.ref f) ∧ PySem.W.keepIn K (.ref f) = true ∧ Binds K fd ps []
def GV (mg : Str → Option Value) (x : Str) (v : V) : Prop := ∃ u, mg x = some u ∧ RelV v u
def tC1 (sp : Sp) (t : TA) : TE := fun σ H Q => t σ H fun vs H1 => sp vs H1 Q E0
section
variable {X : Cx} {k j : Nat} {x : Str} {sp : Sp} {p pos : Pos} {e : Expr} {es : List Expr} {t : TA}
theorem pe_gv {v : V} (hg : Gl X x) (h : GV X.mg x v) (hd : (x == ("__debug__" : Str)) = false := by decide) : PE X (.Name x pos) (tC v) := by
  obtain ⟨u, hm, r⟩ := h
  exact pe_glob hg hm r hd
theorem pe_cd (c : Cd X.prog X.w X.K X.mg X.base k x sp) (hr : Room j X.A) (hk : k ≤ j) (hg : Gl X x) (ha : PA X (e :: es) t)
    (hdb : (x == ("__debug__" : Str)) = false := by decide) (he : starEach (e :: es) X.env = (false, eval e X.env) :: starEach es X.env := by rfl) (hpl : (backTo pos (starEach es X.env)).any (·.1) = false := by rfl) :
    PE X (.Call (.Name x p) (e :: es) [] pos) (tC1 sp t) := by
  obtain ⟨f, fd, ps, F, hm, kp, b⟩ := c.ex
  have z := pe_call (dvs := []) (pos := pos) (p := p) F (hr.mono hk) hg hm kp b .nil pass0 ha hdb he hpl
  refine ⟨fun pins s σ H Q I h => z.run pins s σ H Q I ?_⟩
  show t σ H fun vs H1 => sp (vs ++ []) H1 Q E0
  simp only [List.append_nil]
  exact h
theorem pe_cd0 (c : Cd X.prog X.w X.K X.mg X.base k x sp) (hr : Room j X.A) (hk : k ≤ j) (hg : Gl X x)
    (hdb : (x == ("__debug__" : Str)) = false := by decide) :
    PE X (.Call (.Name x p) [] [] pos) (tC1 sp tNil) := by
  obtain ⟨f, fd, ps, F, hm, kp, b⟩ := c.ex
  exact pe_call0 (dvs := []) (pos := pos) (p := p) F (hr.mono hk) hg hm kp b .nil pass0 hdb
end

/-! ### readings, step by step, from behind -/
def kTup (Q : VK) : List V → Hp → Prop := fun xs H1 => xs.length ≤ sizeLine ∧ ∀ p, H1 p = none → Q (.ref p) (upd H1 p (.tup xs))
def kLst (Q : VK) : List V → Hp → Prop := fun xs H1 => xs.length ≤ sizeLine ∧ ∀ p, H1 p = none → Q (.ref p) (upd H1 p (.lst xs))
def kFor (g : TG) (tb : TS) (D : Ends) (σ : L2.St) : It → Hp → Prop := fun J H1 => ∃ W : Nat → Nat → L2.St → Hp → Prop, (∃ m, W 0 m σ H1) ∧ ∀ i m σ H, W i m σ H →
  (J.stop i H ∧ D.nx σ H) ∨ (J.go i H ∧ ∃ N : L2.St → Hp → Prop, (∀ σ' H', N σ' H' → ∃ m', m' < m ∧ W (i + 1) m' σ' H') ∧ ∀ x H', J.yld i H x H' → g x σ H' fun σ2 H2 => tb { D with nx := N, ct := N, bk := D.nx } σ2 H2)
def kIL (K : PySem.W.Frag) (R : It → Hp → Prop) : V → Hp → Prop := fun x H1 => ∃ a, x = .ref a ∧ (∃ xs, SqL K H1 a xs) ∧ R (Itl K a) H1
def kIT (K : PySem.W.Frag) (R : It → Hp → Prop) : V → Hp → Prop := fun x H1 => ∃ a, x = .ref a ∧ (∃ xs, SqT K H1 a xs) ∧ R (Itt K a) H1
def kR1 (R : It → Hp → Prop) : List V → Hp → Prop := fun vs H1 => ∃ j : Int, vs = [.int j] ∧ -(2 ^ 62) ≤ j ∧ j < 2 ^ 62 ∧ R (Itr 0 j.toNat) H1
def kR2 (R : It → Hp → Prop) : List V → Hp → Prop := fun vs H1 => ∃ i j : Int, vs = [.int i, .int j] ∧ (-(2 ^ 62) ≤ i ∧ i < 2 ^ 62 ∧ -(2 ^ 62) ≤ j ∧ j < 2 ^ 62) ∧ R (Itr i (j - i).toNat) H1
def kLc (g : TG) (tt : TT) (te : TE) (vs : List Nat) (σ : L2.St) (Q : VK) : It → Hp → Prop := fun J H1 => ∀ D, H1 D = none → ∃ W : Nat → Nat → Hp → Prop, (∃ m, W 0 m (upd H1 D (.lst []))) ∧ ∀ i m H, W i m H →
  (J.stop i H ∧ Q (.ref D) H) ∨ (J.go i H ∧ ∃ Nx : Hp → Prop, (∀ H', Nx H' → ∃ m', m' < m ∧ W (i + 1) m' H') ∧ ∀ x H', J.yld i H x H' → g x (wipe σ vs) H' fun σ2 H2 => wipe σ2 vs = wipe σ vs ∧ tt σ2 H2 fun b H3 =>
    if b = true then te σ2 H3 fun y H4 => ∃ acc, H4 D = some (.lst acc) ∧ acc.length < sizeLine ∧ Nx (upd H4 D (.lst (acc ++ [y]))) else Nx H3)
section
variable {σ : L2.St} {H : Hp} {Q : VK} {D : Ends} {ta tb te : TE} {tt tu : TT} {t u : TS} {g : TG} {v x y : V} {i j : Int} {n : Nat} {E : XK}
theorem w_var (h : σ[n]? = some (some v)) (q : Q v H) : tVar n σ H Q := ⟨v, h, q⟩
theorem w_c (q : Q v H) : tC v σ H Q := q
theorem w_op {r : R2} (q : ta σ H fun x H1 => tb σ H1 fun y H2 => r x y H2 Q) : tOp r ta tb σ H Q := q
theorem w_un {r : V → Hp → VK → Prop} (q : ta σ H fun x H1 => r x H1 Q) : tUn r ta σ H Q := q
theorem w_I0 {f : Int → Int → V} (q : Q (f i j) H) : rI0 f (.int i) (.int j) H Q := ⟨i, j, rfl, rfl, q⟩
theorem w_I {C : Int → Int → Prop} {f : Int → Int → V} (c : C i j) (q : Q (f i j) H) : rI C f (.int i) (.int j) H Q := ⟨i, j, rfl, rfl, c, q⟩
theorem w_U {f : Int → V} (q : Q (f i) H) : rU f (.int i) H Q := ⟨i, rfl, q⟩
theorem w_eq (h : scal x y = true) (q : Q (.bl (decide (x = y))) H) : rEq x y H Q := ⟨h, q⟩
theorem w_ne (h : scal x y = true) (q : Q (.bl (!decide (x = y))) H) : rNe x y H Q := ⟨h, q⟩
theorem w_eqI (q : Q (.bl (decide (i = j))) H) : rEq (.int i) (.int j) H Q := ⟨rfl, by
  have e : (decide (V.int i = V.int j)) = decide (i = j) := by
    by_cases h : i = j
    · subst h; simp
    · rw [decide_eq_false h, decide_eq_false (fun z => h (V.int.inj z))]
  rw [e]; exact q⟩
theorem w_neI (q : Q (.bl (!decide (i = j))) H) : rNe (.int i) (.int j) H Q := ⟨rfl, by
  have e : (decide (V.int i = V.int j)) = decide (i = j) := by
    by_cases h : i = j
    · subst h; simp
    · rw [decide_eq_false h, decide_eq_false (fun z => h (V.int.inj z))]
  rw [e]; exact q⟩
theorem w_test {Q : Bool → Hp → Prop} (q : ta σ H fun x H' => ∃ k, x = .bl k ∧ Q k H') : tTest ta σ H Q := q
theorem w_B {Q : Bool → Hp → Prop} (q : ta σ H fun x H' => ∃ k, x = .bl k ∧ Q k H') : tB ta σ H Q := q
theorem w_bl {b : Bool} {Q : Bool → Prop} (q : Q b) : ∃ k, V.bl b = .bl k ∧ Q k := ⟨b, rfl, q⟩
theorem w_if (q : tt σ H fun c H1 => if c = true then ta σ H1 Q else tb σ H1 Q) : tIf tt ta tb σ H Q := q
theorem w_andT {Q : Bool → Hp → Prop} (q : tt σ H fun c H1 => if c = true then tu σ H1 Q else Q false H1) : tAnd tt tu σ H Q := q
theorem w_orT {Q : Bool → Hp → Prop} (q : tt σ H fun c H1 => if c = true then Q true H1 else tu σ H1 Q) : tOr tt tu σ H Q := q
theorem w_notT {Q : Bool → Hp → Prop} (q : tt σ H fun c H1 => Q (!c) H1) : tNot tt σ H Q := q
theorem w_andV (q : ta σ H fun x H1 => ∃ c, x = .bl c ∧ if c = true then tb σ H1 Q else Q (.bl false) H1) : tAndV ta tb σ H Q := q
theorem w_orV (q : ta σ H fun x H1 => ∃ c, x = .bl c ∧ if c = true then Q (.bl true) H1 else tb σ H1 Q) : tOrV ta tb σ H Q := q
theorem w_notV (q : ta σ H fun x H1 => ∃ c, x = .bl c ∧ Q (.bl (!c)) H1) : tNotV ta σ H Q := q
theorem w_chain {r r' : R2} {tc : TE} (q : ta σ H fun x H1 => tb σ H1 fun y H2 => r x y H2 fun z H3 => ∃ k, z = .bl k ∧ if k = true then tc σ H3 fun c H4 => r' y c H4 Q else Q (.bl false) H3) : tChain r r' ta tb tc σ H Q := q
theorem w_seq (q : t { D with nx := u D } σ H) : tSeq t u D σ H := q
theorem w_next (q : D.nx σ H) : tNext D σ H := q
theorem w_ret (q : te σ H D.rt) : tRet te D σ H := q
theorem w_retN (q : D.rt .non H) : tRetN D σ H := q
theorem w_ifS (q : tt σ H fun b H1 => if b = true then t D σ H1 else u D σ H1) : tIfS tt t u D σ H := q
theorem w_asg (q : te σ H fun x H1 => g x σ H1 D.nx) : tAsg te g D σ H := q
theorem w_name {Q : L2.St → Hp → Prop} (q : Q (σ.set n (some v)) H) : gName n v σ H Q := q
theorem w_drop (q : te σ H fun _ H1 => D.nx σ H1) : tDrop te D σ H := q
theorem w_nil {Q : List V → Hp → Prop} (q : Q [] H) : tNil σ H Q := q
theorem w_cons {ta : TE} {tr : TA} {Q : List V → Hp → Prop} (q : ta σ H fun x H1 => tr σ H1 fun xs H2 => Q (x :: xs) H2) : tCons ta tr σ H Q := q
theorem w_call {sp : Sp} {t : TA} (q : t σ H fun vs H1 => sp vs H1 Q E0) : tC1 sp t σ H Q := q
theorem w_cb {r : List V → Hp → VK → Prop} {t : TA} (q : t σ H fun vs H1 => r vs H1 Q) : tCB r t σ H Q := q
theorem w_dec {c : Prop} [Decidable c] {A B : Prop} (h1 : c → A) (h2 : ¬ c → B) : if decide c = true then A else B := by
  by_cases h : c
  · rw [if_pos (decide_eq_true h)]; exact h1 h
  · rw [if_neg (by rw [decide_eq_false h]; exact Bool.false_ne_true)]; exact h2 h
theorem w_ndec {c : Prop} [Decidable c] {A B : Prop} (h1 : ¬ c → A) (h2 : c → B) : if (!decide c) = true then A else B := by
  by_cases h : c
  · rw [if_neg (by rw [decide_eq_true h]; decide)]; exact h2 h
  · rw [if_pos (by rw [decide_eq_false h]; decide)]; exact h1 h
theorem w_itT {A B : Prop} (h : A) : if true = true then A else B := iteT h
theorem w_itF {A B : Prop} (h : B) : if false = true then A else B := iteF h
theorem w_bool {b : Bool} {A B : Prop} (h1 : b = true → A) (h2 : b = false → B) : if b = true then A else B := by
  cases b
  · exact iteF (h2 rfl)
  · exact iteT (h1 rfl)
theorem w_tup {ta : TA} (q : ta σ H (kTup Q)) : tTup ta σ H Q := q
theorem w_lst {ta : TA} (q : ta σ H (kLst Q)) : tLst ta σ H Q := q
theorem w_kTup {xs : List V} (h : xs.length ≤ sizeLine) (q : ∀ p H', H p = none → Same H H' → H' p = some (.tup xs) → Q (.ref p) H') : kTup Q xs H := ⟨h, fun p np => q p _ np (fun b x e => by rw [upd_ne (ne_of_none e np)]; exact e) upd_same⟩
theorem w_kLst {xs : List V} (h : xs.length ≤ sizeLine) (q : ∀ p H', H p = none → Same H H' → H' p = some (.lst xs) → Q (.ref p) H') : kLst Q xs H := ⟨h, fun p np => q p _ np (fun b x e => by rw [upd_ne (ne_of_none e np)]; exact e) upd_same⟩
end
section
variable {K : PySem.W.Frag} {σ : L2.St} {H : Hp} {Q : VK} {p : Addr} {xs : List V} {i : Int} {v x : V} {n : Nat}
theorem w_ixL (h : H p = some (.lst xs)) (ha : atI xs i = some v) (q : Q v H) : rIxL K (.ref p) (.int i) H Q := ⟨p, xs, i, v, rfl, rfl, .inl (.inl h), ha, q⟩
theorem w_ixLs (h : SqL K H p xs) (ha : atI xs i = some v) (q : Q v H) : rIxL K (.ref p) (.int i) H Q := ⟨p, xs, i, v, rfl, rfl, h, ha, q⟩
theorem w_ixT (h : H p = some (.tup xs)) (ha : atI xs i = some v) (q : Q v H) : rIxT K (.ref p) (.int i) H Q := ⟨p, xs, i, v, rfl, rfl, .inl (.inl h), ha, q⟩
theorem w_ixTs (h : SqT K H p xs) (ha : atI xs i = some v) (q : Q v H) : rIxT K (.ref p) (.int i) H Q := ⟨p, xs, i, v, rfl, rfl, h, ha, q⟩
theorem w_sub {to ti : TE} {t : TSet} {Q : L2.St → Hp → Prop} (q : to σ H fun o H1 => ti σ H1 fun i H2 => t o i v H2 fun H3 => Q σ H3) : gSub to ti t v σ H Q := q
theorem w_lenL (h : H p = some (.lst xs)) (q : Q (.int (xs.length : Int)) H) : rLenQ K [.ref p] H Q := ⟨p, xs, rfl, .inl (.inl (.inl h)), q⟩
theorem w_lenLs (h : SqL K H p xs) (q : Q (.int (xs.length : Int)) H) : rLenQ K [.ref p] H Q := ⟨p, xs, rfl, .inl h, q⟩
theorem w_lenT (h : H p = some (.tup xs)) (q : Q (.int (xs.length : Int)) H) : rLenQ K [.ref p] H Q := ⟨p, xs, rfl, .inr (.inl (.inl h)), q⟩
theorem w_int1 (q : Q (.int i) H) : rIntQ [.int i] H Q := .inl ⟨i, rfl, q⟩
theorem w_abs (q : Q (.int (if i < 0 then -i else i)) H) : rAbsQ [.int i] H Q := ⟨i, rfl, q⟩
theorem ixN_lit {n : Nat} {j : Nat} (h : j < n) : ixN n (j : Int) = some j := by
  unfold ixN
  rw [if_pos (Int.natCast_nonneg _), if_pos (by omega)]
  simp
theorem atI_of {α : Type} {xs : List α} {i : Int} {v : α} (h0 : 0 ≤ i) (h : xs[i.toNat]? = some v) : atI xs i = some v := by
  have e : ((i.toNat : Nat) : Int) = i := Int.toNat_of_nonneg h0
  have z := atI_nat (j := i.toNat) h
  rw [e] at z
  exact z
end
section
variable {K : PySem.W.Frag} {σ : L2.St} {H : Hp} {D : Ends} {g : TG} {tb : TS} {wi : TI} {tl : TE} {R : It → Hp → Prop}
theorem w_for (q : wi σ H (kFor g tb D σ)) : tFor wi g tb D σ H := q
theorem w_iL (q : tl σ H (kIL K R)) : iList K tl σ H R := q
theorem w_iT (q : tl σ H (kIT K R)) : iTup K tl σ H R := q
theorem w_rng1 {ta : TA} (q : ta σ H (kR1 R)) : iRng1 ta σ H R := q
theorem w_rng2 {ta : TA} (q : ta σ H (kR2 R)) : iRng2 ta σ H R := q
theorem w_kR1 {j : Int} (h0 : -(2 ^ 62) ≤ j) (h1 : j < 2 ^ 62) (q : R (Itr 0 j.toNat) H) : kR1 R [.int j] H := ⟨j, rfl, h0, h1, q⟩
theorem w_forL {a : Addr} (xs : List V) (Pv : Nat → L2.St → Hp → Prop) (hS : SqL K H a xs) (h0 : Pv 0 σ H) (hl : ∀ i σ H, i ≤ xs.length → Pv i σ H → SqL K H a xs)
    (hs : ∀ i x σ H, xs[i]? = some x → Pv i σ H → g x σ H fun σ2 H2 => tb { D with nx := Pv (i + 1), ct := Pv (i + 1), bk := D.nx } σ2 H2) (hd : ∀ σ H, Pv xs.length σ H → D.nx σ H) : kIL K (kFor g tb D σ) (.ref a) H :=
  ⟨a, rfl, ⟨_, hS⟩, for_list (K := K) (a := a) (xs := xs) Pv h0 hl hs hd⟩
theorem w_forT {a : Addr} (xs : List V) (Pv : Nat → L2.St → Hp → Prop) (hS : SqT K H a xs) (h0 : Pv 0 σ H) (hl : ∀ i σ H, i ≤ xs.length → Pv i σ H → SqT K H a xs)
    (hs : ∀ i x σ H, xs[i]? = some x → Pv i σ H → g x σ H fun σ2 H2 => tb { D with nx := Pv (i + 1), ct := Pv (i + 1), bk := D.nx } σ2 H2) (hd : ∀ σ H, Pv xs.length σ H → D.nx σ H) : kIT K (kFor g tb D σ) (.ref a) H :=
  ⟨a, rfl, ⟨_, hS⟩, for_tup (K := K) (a := a) (xs := xs) Pv h0 hl hs hd⟩
theorem w_forR {j : Int} (n : Nat) (Pv : Nat → L2.St → Hp → Prop) (hn : j.toNat = n) (hj : n < 4611686018427387904 ∧ -4611686018427387904 ≤ j) (h0 : Pv 0 σ H)
    (hs : ∀ i σ H, i < n → Pv i σ H → g (.int (i : Int)) σ H fun σ2 H2 => tb { D with nx := Pv (i + 1), ct := Pv (i + 1), bk := D.nx } σ2 H2) (hd : ∀ σ H, Pv n σ H → D.nx σ H) : kR1 (kFor g tb D σ) [.int j] H := by
  refine ⟨j, rfl, by show -4611686018427387904 ≤ j; omega, by show j < 4611686018427387904; omega, ?_⟩
  subst hn
  refine for_range (lo := 0) (n := j.toNat) Pv h0 (fun i σ H hi p => ?_) hd
  rw [Int.zero_add]
  exact hs i σ H hi p
theorem w_yes {Q : Bool → Hp → Prop} (q : Q true H) : tYes σ H Q := q
theorem w_lc {tt : TT} {te : TE} {vs : List Nat} {Q : VK} (q : wi σ H (kLc g tt te vs σ Q)) : tLc wi g tt te vs σ H Q := q
theorem w_lcL {tt : TT} {te : TE} {vs : List Nat} {Q : VK} {a : Addr} (xs : List V) (Pv : Addr → Nat → Hp → Prop) (hS : SqL K H a xs) (h0 : ∀ D, H D = none → Pv D 0 (upd H D (.lst []))) (hl : ∀ D i H, i ≤ xs.length → Pv D i H → SqL K H a xs)
    (hs : ∀ D i x H, xs[i]? = some x → Pv D i H → g x (wipe σ vs) H fun σ2 H2 => wipe σ2 vs = wipe σ vs ∧ tt σ2 H2 fun b H3 =>
      if b = true then te σ2 H3 fun y H4 => ∃ acc, H4 D = some (.lst acc) ∧ acc.length < sizeLine ∧ Pv D (i + 1) (upd H4 D (.lst (acc ++ [y]))) else Pv D (i + 1) H3) (hd : ∀ D H', H D = none → Pv D xs.length H' → Q (.ref D) H') : kIL K (kLc g tt te vs σ Q) (.ref a) H :=
  ⟨a, rfl, ⟨_, hS⟩, fun D nD => lc_list (K := K) (a := a) (xs := xs) (Pv D) (h0 D nD) (hl D) (hs D) (fun H' p => hd D H' nD p)⟩
theorem w_lcT {tt : TT} {te : TE} {vs : List Nat} {Q : VK} {a : Addr} (xs : List V) (Pv : Addr → Nat → Hp → Prop) (hS : SqT K H a xs) (h0 : ∀ D, H D = none → Pv D 0 (upd H D (.lst []))) (hl : ∀ D i H, i ≤ xs.length → Pv D i H → SqT K H a xs)
    (hs : ∀ D i x H, xs[i]? = some x → Pv D i H → g x (wipe σ vs) H fun σ2 H2 => wipe σ2 vs = wipe σ vs ∧ tt σ2 H2 fun b H3 =>
      if b = true then te σ2 H3 fun y H4 => ∃ acc, H4 D = some (.lst acc) ∧ acc.length < sizeLine ∧ Pv D (i + 1) (upd H4 D (.lst (acc ++ [y]))) else Pv D (i + 1) H3) (hd : ∀ D H', H D = none → Pv D xs.length H' → Q (.ref D) H') : kIT K (kLc g tt te vs σ Q) (.ref a) H :=
  ⟨a, rfl, ⟨_, hS⟩, fun D nD => lc_tup (K := K) (a := a) (xs := xs) (Pv D) (h0 D nD) (hl D) (hs D) (fun H' p => hd D H' nD p)⟩
theorem w_lcR {tt : TT} {te : TE} {vs : List Nat} {Q : VK} {j : Int} (n : Nat) (Pv : Addr → Nat → Hp → Prop) (hn : j.toNat = n) (hj : n < 4611686018427387904 ∧ -4611686018427387904 ≤ j) (h0 : ∀ D, H D = none → Pv D 0 (upd H D (.lst [])))
    (hs : ∀ D i H, i < n → Pv D i H → g (.int (i : Int)) (wipe σ vs) H fun σ2 H2 => wipe σ2 vs = wipe σ vs ∧ tt σ2 H2 fun b H3 =>
      if b = true then te σ2 H3 fun y H4 => ∃ acc, H4 D = some (.lst acc) ∧ acc.length < sizeLine ∧ Pv D (i + 1) (upd H4 D (.lst (acc ++ [y]))) else Pv D (i + 1) H3) (hd : ∀ D H', H D = none → Pv D n H' → Q (.ref D) H') : kR1 (kLc g tt te vs σ Q) [.int j] H := by
  refine ⟨j, rfl, by show -4611686018427387904 ≤ j; omega, by show j < 4611686018427387904; omega, ?_⟩
  subst hn
  refine fun D nD => lc_range (lo := 0) (n := j.toNat) (Pv D) (h0 D nD) (fun i H hi p => ?_) (fun H' p => hd D H' nD p)
  rw [Int.zero_add]
  exact hs D i H hi p
end
theorem take_more {α : Type} : ∀ {l : List α} {i : Nat} {x : α}, l[i]? = some x → l.take (i + 1) = l.take i ++ [x]
  | [], i, x, h => by simp at h
  | a :: l, 0, x, h => by
    have e : a = x := Option.some.inj h
    subst e
    rfl
  | a :: l, i + 1, x, h => by
    have ih := take_more (l := l) (i := i) (x := x) h
    show a :: l.take (i + 1) = a :: l.take i ++ [x]
    rw [ih]
    rfl
theorem map_get {ns : List Int} {i : Nat} {x : V} (h : (ns.map V.int)[i]? = some x) : ∃ n, ns[i]? = some n ∧ x = .int n := by
  rw [List.getElem?_map] at h
  cases e : ns[i]? with
  | none => rw [e] at h; cases h
  | some z => rw [e] at h; exact ⟨z, rfl, (Option.some.inj h).symm⟩
theorem w_p32 {H : Hp} {Q : VK} (q : Q (.int 4294967296) H) : rI CPow (fun i j => .int (i ^ j.toNat)) (.int 2) (.int 32) H Q := ⟨2, 32, rfl, rfl, ⟨by decide, by decide, by decide⟩, q⟩
theorem w_p31 {H : Hp} {Q : VK} (q : Q (.int 2147483648) H) : rI CPow (fun i j => .int (i ^ j.toNat)) (.int 2) (.int 31) H Q := ⟨2, 31, rfl, rfl, ⟨by decide, by decide, by decide⟩, q⟩
theorem w_p26 {H : Hp} {Q : VK} (q : Q (.int 67108864) H) : rI CPow (fun i j => .int (i ^ j.toNat)) (.int 2) (.int 26) H Q := ⟨2, 26, rfl, rfl, ⟨by decide, by decide, by decide⟩, q⟩
theorem w_p22 {H : Hp} {Q : VK} (q : Q (.int 4194304) H) : rI CPow (fun i j => .int (i ^ j.toNat)) (.int 2) (.int 22) H Q := ⟨2, 22, rfl, rfl, ⟨by decide, by decide, by decide⟩, q⟩
theorem w_p20 {H : Hp} {Q : VK} (q : Q (.int 1048576) H) : rI CPow (fun i j => .int (i ^ j.toNat)) (.int 2) (.int 20) H Q := ⟨2, 20, rfl, rfl, ⟨by decide, by decide, by decide⟩, q⟩
theorem w_p18 {H : Hp} {Q : VK} (q : Q (.int 262144) H) : rI CPow (fun i j => .int (i ^ j.toNat)) (.int 2) (.int 18) H Q := ⟨2, 18, rfl, rfl, ⟨by decide, by decide, by decide⟩, q⟩
theorem w_p17 {H : Hp} {Q : VK} (q : Q (.int 131072) H) : rI CPow (fun i j => .int (i ^ j.toNat)) (.int 2) (.int 17) H Q := ⟨2, 17, rfl, rfl, ⟨by decide, by decide, by decide⟩, q⟩
theorem w_p16 {H : Hp} {Q : VK} (q : Q (.int 65536) H) : rI CPow (fun i j => .int (i ^ j.toNat)) (.int 2) (.int 16) H Q := ⟨2, 16, rfl, rfl, ⟨by decide, by decide, by decide⟩, q⟩
theorem w_p14 {H : Hp} {Q : VK} (q : Q (.int 16384) H) : rI CPow (fun i j => .int (i ^ j.toNat)) (.int 2) (.int 14) H Q := ⟨2, 14, rfl, rfl, ⟨by decide, by decide, by decide⟩, q⟩
theorem w_p13 {H : Hp} {Q : VK} (q : Q (.int 8192) H) : rI CPow (fun i j => .int (i ^ j.toNat)) (.int 2) (.int 13) H Q := ⟨2, 13, rfl, rfl, ⟨by decide, by decide, by decide⟩, q⟩
/-- all but d stays -/
def But (d : Addr) (H H' : Hp) : Prop := ∀ b o, b ≠ d → H b = some o → H' b = some o
theorem But.refl (d : Addr) (H : Hp) : But d H H := fun _ _ _ h => h
theorem But.trans {d : Addr} {H H1 H2 : Hp} (a : But d H H1) (b : But d H1 H2) : But d H H2 := fun c o n h => b c o n (a c o n h)
theorem But.of {d : Addr} {H H' : Hp} (s : Same H H') : But d H H' := fun b o _ h => s b o h
theorem But.set {d : Addr} {H : Hp} {o : HO} : But d H (upd H d o) := fun b u n h => by rw [upd_ne n]; exact h
theorem But.tup {d : Addr} {H H' : Hp} {xs ys : List V} {a : Addr} (b : But d H H') (hd : H d = some (.lst ys)) (h : H a = some (.tup xs)) : H' a = some (.tup xs) := b a _ (ne_of h hd (by intro z; cases z)) h
theorem Same.new {H : Hp} {p : Addr} {o : HO} (h : H p = none) : Same H (upd H p o) := fun b x e => by rw [upd_ne (ne_of_none e h)]; exact e
theorem But.new {d : Addr} {H : Hp} {p : Addr} {o : HO} (h : H p = none) : But d H (upd H p o) := .of (Same.new h)
theorem w_setL {p : Addr} {xs : List V} {i : Int} {v : V} {H : Hp} {j : Nat} {Q : Hp → Prop} (h : H p = some (.lst xs)) (hj : ixN xs.length i = some j) (q : ∀ H', H' p = some (.lst (xs.set j v)) → But p H H' → Q H') : rSetL (.ref p) (.int i) v H Q := ⟨p, xs, i, j, rfl, rfl, h, hj, q _ upd_same But.set⟩
section
variable {X : Cx} {k i : Nat} {x : Str} {p pos : Pos} {e : Expr} {es : List Expr} {t : TA}
/-- a local that holds a def, called -/
def tCallZ (P : Program) (w : World) (K : PySem.W.Frag) (mg : Str → Option Value) (base : Heap) (k i : Nat) (t : TA) : TE := fun σ H Q => ∃ f sp, σ[i]? = some (some (.ref f)) ∧ Held P w K mg base k f sp ∧ t σ H fun vs H1 => sp vs H1 Q E0
theorem pe_callZ (hr : Room k X.A) (hN : X.N[i]? = some x) (hv : Vis X.env.scope x) (ha : PA X (e :: es) t)
    (hdb : (x == ("__debug__" : Str)) = false := by decide) (hcd : (x == ("__classdict__" : Str)) = false := by decide)
    (he : starEach (e :: es) X.env = (false, eval e X.env) :: starEach es X.env := by rfl) (hpl : (backTo pos (starEach es X.env)).any (·.1) = false := by rfl) : PE X (.Call (.Name x p) (e :: es) [] pos) (tCallZ X.prog X.w X.K X.mg X.base k i t) := by
  refine ⟨fun pins s σ H Q I h => ?_⟩
  obtain ⟨f, sp, hs, hd, ht⟩ := h
  obtain ⟨fd, ps, F, hk, hb⟩ := hd.ex
  refine (pe_callL (i := i) (f := f) (sp := sp) (dvs := []) (E := E0) F hr hN hv hk hb .nil pass0 ha hdb hcd he hpl).run pins s σ H Q I ⟨hs, ?_⟩
  show t σ H (fun vs H1 => sp (vs ++ []) H1 Q E0)
  simp only [List.append_nil]
  exact ht
end
theorem w_callZ {P : Program} {w : World} {K : PySem.W.Frag} {mg : Str → Option Value} {base : Heap} {k i : Nat} {t : TA} {σ : L2.St} {H : Hp} {Q : VK} {f : Addr} {sp : Sp} (hs : σ[i]? = some (some (.ref f))) (h : Held P w K mg base k f sp) (q : t σ H fun vs H1 => sp vs H1 Q E0) : tCallZ P w K mg base k i t σ H Q := ⟨f, sp, hs, h, q⟩
theorem w_ixD {K : PySem.W.Frag} {w : World} {p : Addr} {z : Str} {v : V} {H : Hp} {Q : VK} (h : KDct K w p z v) (q : Q v H) : rIxD K w (.ref p) (.str z) H Q := ⟨p, z, v, rfl, rfl, h, q⟩
theorem w_eqS {a b : Str} {H : Hp} {Q : VK} (q : Q (.bl (decide (a = b))) H) : rEq (.str a) (.str b) H Q := ⟨rfl, by
  have e : (decide (V.str a = V.str b)) = decide (a = b) := by
    by_cases h : a = b
    · subst h; simp
    · rw [decide_eq_false h, decide_eq_false (fun z => h (V.str.inj z))]
  rw [e]; exact q⟩
theorem w_decT {c : Prop} [Decidable c] {A B : Prop} (h : c) (q : A) : if decide c = true then A else B := by
  rw [if_pos (decide_eq_true h)]; exact q
theorem w_decF {c : Prop} [Decidable c] {A B : Prop} (h : ¬ c) (q : B) : if decide c = true then A else B := by
  rw [if_neg (by rw [decide_eq_false h]; exact Bool.false_ne_true)]; exact q
theorem w_inL {K : PySem.W.Frag} {x : V} {p : Addr} {xs : List V} {H : Hp} {Q : VK} {b : Bool} (h : H p = some (.lst xs)) (hx : flatV x = true) (ha : xs.all flatV = true) (hb : inV x xs = b) (q : Q (.bl b) H) : rIn K false x (.ref p) H Q := ⟨p, xs, rfl, .inl (.inl (.inl h)), hx, ha, by rw [hb]; exact q⟩
def rAddSQ : R2 := fun x y H Q => ∃ i j, x = .str i ∧ y = .str j ∧ i.length + j.length ≤ sizeLine ∧ Q (.str (i ++ j)) H
theorem op_addSQ {X : Cx} : OpR X (binaryOp .Add) rAddSQ := op_add_str
theorem w_addS {a b : Str} {H : Hp} {Q : VK} (h : a.length + b.length ≤ sizeLine) (q : Q (.str (a ++ b)) H) : rAddSQ (.str a) (.str b) H Q := ⟨a, b, rfl, rfl, h, q⟩
section
variable {X : Cx} {c a b : Expr} {tc ta tb : TT} {pos : Pos}
/-- a if c else b, as a test -/
def tIfB (tc ta tb : TT) : TT := fun σ H Q => tc σ H fun k H1 => if k = true then ta σ H1 Q else tb σ H1 Q
theorem pt_ifExp (hc : PT X c tc) (ha : PT X a ta) (hb : PT X b tb) : PT X (.IfExp c a b pos) (tIfB tc ta tb) := by
  refine ⟨fun pins s σ H Q I h => ?_⟩
  refine isTrue_IfExp (thn (hc.run pins s σ H _ I h) fun k s1 ⟨H1, I1, q⟩ => ?_)
  cases k with
  | true => exact ha.run pins s1 σ H1 Q I1 (by simpa using q)
  | false => exact hb.run pins s1 σ H1 Q I1 (by simpa using q)
theorem w_ifB {σ : L2.St} {H : Hp} {Q : Bool → Hp → Prop} (q : tc σ H fun k H1 => if k = true then ta σ H1 Q else tb σ H1 Q) : tIfB tc ta tb σ H Q := q
end
theorem w_gTup {K : PySem.W.Frag} {n : Nat} {t : TGs} {a : Addr} {xs : List V} {σ : L2.St} {H : Hp} {Q : L2.St → Hp → Prop} (h : H a = some (.tup xs)) (hn : xs.length = n) (q : t xs σ H Q) : gTup K n t (.ref a) σ H Q := ⟨a, xs, rfl, .inl (.inl h), hn, q⟩
theorem w_gNil {σ : L2.St} {H : Hp} {Q : L2.St → Hp → Prop} (q : Q σ H) : gNil [] σ H Q := ⟨rfl, q⟩
theorem w_gCons {t : TG} {u : TGs} {v : V} {r : List V} {σ : L2.St} {H : Hp} {Q : L2.St → Hp → Prop} (q : t v σ H fun σ' H' => u r σ' H' Q) : gCons t u (v :: r) σ H Q := ⟨v, r, rfl, q⟩
theorem w_isB {a b : Bool} {H : Hp} {Q : VK} (q : Q (.bl (decide (a = b))) H) : rIsB (.bl a) (.bl b) H Q := ⟨a, b, rfl, rfl, q⟩
theorem w_notB {a b : Bool} {H : Hp} {Q : VK} (q : Q (.bl (!decide (a = b))) H) : rNotB (.bl a) (.bl b) H Q := ⟨a, b, rfl, rfl, q⟩
theorem w_isiInt {K : PySem.W.Frag} {i : Int} {H : Hp} {Q : VK} (q : Q (.bl true) H) : rIsi K [.int i, .ty "int"] H Q := ⟨.int i, .ty "int", .type "int", .type "int", true, rfl, .ty _, .base (.int _), kit_ty (by decide +kernel), q⟩
theorem w_isiIntB {K : PySem.W.Frag} {i : Int} {H : Hp} {Q : VK} (q : Q (.bl false) H) : rIsi K [.int i, .ty "bool"] H Q := ⟨.int i, .ty "bool", .type "int", .type "bool", false, rfl, .ty _, .base (.int _), kit_ty (by decide +kernel), q⟩
theorem w_ndecF {c : Prop} [Decidable c] {A B : Prop} (h : c) (q : B) : if (!decide c) = true then A else B := by
  rw [if_neg (by rw [decide_eq_true h]; decide)]; exact q
theorem w_ndecT {c : Prop} [Decidable c] {A B : Prop} (h : ¬ c) (q : A) : if (!decide c) = true then A else B := by
  rw [if_pos (by rw [decide_eq_false h]; rfl)]; exact q
theorem w_nT {A B : Prop} (q : B) : if (!true) = true then A else B := by rw [if_neg (by decide)]; exact q
theorem w_nF {A B : Prop} (q : A) : if (!false) = true then A else B := by rw [if_pos (by decide)]; exact q
theorem map_get' {α : Type} {f : α → V} {ns : List α} {i : Nat} {x : V} (h : (ns.map f)[i]? = some x) : ∃ n, n ∈ ns ∧ ns[i]? = some n ∧ x = f n := by
  rw [List.getElem?_map] at h
  cases e : ns[i]? with
  | none => rw [e] at h; cases h
  | some z => rw [e] at h; exact ⟨z, List.mem_of_getElem? e, rfl, (Option.some.inj h).symm⟩
/-- pure functions of ints -/
def spI1 (C : Int → Prop) (f : Int → V) : Sp := fun vs H Q _ => ∃ x, vs = [.int x] ∧ C x ∧ Q (f x) H
def spI2 (C : Int → Int → Prop) (f : Int → Int → V) : Sp := fun vs H Q _ => ∃ x y, vs = [.int x, .int y] ∧ C x y ∧ Q (f x y) H
theorem w_spI1 {C : Int → Prop} {f : Int → V} {x : Int} {H : Hp} {Q : VK} {E : XK} (c : C x) (q : Q (f x) H) : spI1 C f [.int x] H Q E := ⟨x, rfl, c, q⟩
theorem w_spI2 {C : Int → Int → Prop} {f : Int → Int → V} {x y : Int} {H : Hp} {Q : VK} {E : XK} (c : C x y) (q : Q (f x y) H) : spI2 C f [.int x, .int y] H Q E := ⟨x, y, rfl, c, q⟩
theorem len_spI1 {C : Int → Prop} {f : Int → V} {s : Str} (vs : List V) (H : Hp) (Q : VK) (E : XK) (h : spI1 C f vs H Q E) : vs.length = [s].length := by
  obtain ⟨x, rfl, _⟩ := h; rfl
theorem len_spI2 {C : Int → Int → Prop} {f : Int → Int → V} {s r : Str} (vs : List V) (H : Hp) (Q : VK) (E : XK) (h : spI2 C f vs H Q E) : vs.length = [s, r].length := by
  obtain ⟨x, y, rfl, _⟩ := h; rfl
/-- a Cd from a def that stands -/
theorem mkCd {P : Program} {w : World} {K : PySem.W.Frag} {mg : Str → Option Value} {base : Heap} {x qual : Str} {st : Stmt} {f : Addr} {fd : FuncData} {k : Nat} {ps : List Str} {sp : Sp} (F : Fun K x qual st f fd) (b : Binds K fd ps []) (m : mg x = some (.ref f)) (ok : FnOk P w K mg base CX0 k f fd ps sp) : Cd P w K mg base k x sp :=
  ⟨f, fd, ps, ok, m, F.kp, b⟩
/-- what stands: the def, how its arguments bind, its name -/
structure St1 (K : PySem.W.Frag) (mg : Str → Option Value) (x : Str) (st : Stmt) (ps : List Str) : Prop where
  ex : ∃ f fd, Fun K x x st f fd ∧ Binds K fd ps [] ∧ mg x = some (.ref f)
theorem St1.cd {P : Program} {w : World} {K : PySem.W.Frag} {mg : Str → Option Value} {base : Heap} {x : Str} {st : Stmt} {k : Nat} {N ps : List Str} {sp : Sp} (Z : St1 K mg x st ps) (S : FnScope N ps (defScope st)) (len : ∀ vs H Q E, sp vs H Q E → vs.length = ps.length)
    (hbody : ∀ (f : Addr) (cdv : Value) (A : Around) (outer : List Env) (s : Shared) (H : Hp) (vs : List V) (Q : VK) (E : XK), Room k (A.deeper (envOfC x (defScope st) s.heap.objs.size f cdv)) → sp vs H Q E →
      ∃ t, PSs (cxOf CX0 P w K mg base N x (defScope st) f cdv A outer s H E).nox (defBody st) t ∧ t { nx := fun _ H' => Q .non H', rt := Q } (start N vs) H) : Cd P w K mg base (k + 1) x sp := by
  obtain ⟨f, fd, F, b, m⟩ := Z.ex
  exact mkCd F b m (F.ok S len (hbody f))
theorem mkSt1 {K : PySem.W.Frag} {mg : Str → Option Value} {x : Str} {st : Stmt} {ps : List Str} {h : Heap} {f : Addr} {oc : Value} {od an : Option Addr} {osl : Array (Option Value)} {kV doc pm cdv ct : Value} (X : K.In h) (G : h.Ns mainGlobals mg)
    (a : PySem.W.nsIn K mainGlobals x = some (some (.ref f))) (l : K.lookup f = some ⟨oc, od, .func (PySem.W.fnOf x x (defArgs st) (defBody st) (defScope st) .none kV doc pm an cdv ct), osl⟩) (c : PySem.W.codeIn K cdv x = true) (k : PySem.W.keepIn K (.ref f) = true)
    (hb : ∀ (kV doc pm : Value) (an : Option Addr) (cdv ct : Value) (us : List Value), us.length = ps.length → bindArgs (PySem.W.fnOf x x (defArgs st) (defBody st) (defScope st) .none kV doc pm an cdv ct) ⟨us, []⟩ = pure (ps.zip us)) : St1 K mg x st ps :=
  ⟨f, _, fun_mk (st := st) l c k, (fun_mk (st := st) l c k).binds hb, PySem.W.mg_of X G a⟩
/-- a def among others that a local may hold -/
theorem Cd.held {P : Program} {w : World} {K : PySem.W.Frag} {mg : Str → Option Value} {base : Heap} {k : Nat} {x : Str} {sp : Sp} {f : Addr} (c : Cd P w K mg base k x sp) (m : mg x = some (.ref f)) : Held P w K mg base k f sp := by
  obtain ⟨f', fd, ps, F, m', kp, b⟩ := c.ex
  cases m'.symm.trans m
  exact ⟨⟨fd, ps, F, kp, b⟩⟩
end Co

set_option Elab.async false
set_option linter.all false
set_option maxRecDepth 100000
set_option maxHeartbeats 4000000
namespace Co
open PySem PySem.Spec PyProof.Rows L2 PpSet
/-! ### a comprehension, clause by clause: one rule for each clause's loop, whatever its turn does -/
/-- a clause's turn, what is done with an item told apart -/
def turnOf (tg src : Expr) (ifs : List Expr) (it : Value) (env : Env) (body : Sem Unit) (c : Code) : Sem PySem.Fin := do
  standAt src.pos
  match ← pyNext it with
  | none => pure (.done .next)
  | some v =>
    letOwnedTupleGo tg it v
    assign tg env v
    let mut ok := true
    for c in ifs do
      if ok then ok ← isTrue c env (eval c env)
    if ok then body
    again c
/-- the body of the innermost clause of a set's comprehension -/
def addTo (elt : Expr) (acc : Value) (env : Env) : Sem Unit := do
  let v ← eval elt env
  standAt elt.pos
  let _ ← call (.builtin "set.add") [acc, v]
theorem turn_s1 (elt t i : Expr) (ifs : List Expr) (sc : Scope) (pos : Pos) (it acc : Value) (env : Env) :
    compTurn (.SetComp elt [⟨t, i, ifs, 0⟩] sc pos) 0 it acc env = turnOf t i ifs it env (addTo elt acc env) (.compLoop (.SetComp elt [⟨t, i, ifs, 0⟩] sc pos) 0 it acc env) := by rfl
theorem turn_s2b (elt t i t1 i1 : Expr) (ifs ifs1 : List Expr) (sc : Scope) (pos : Pos) (it acc : Value) (env : Env) :
    compTurn (.SetComp elt [⟨t, i, ifs, 0⟩, ⟨t1, i1, ifs1, 0⟩] sc pos) 1 it acc env = turnOf t1 i1 ifs1 it env (addTo elt acc env) (.compLoop (.SetComp elt [⟨t, i, ifs, 0⟩, ⟨t1, i1, ifs1, 0⟩] sc pos) 1 it acc env) := by rfl
/-- what an outer clause does with an item: the next clause begins -/
def beginIn (C : Expr) (i1 : Expr) (k : Nat) (acc : Value) (env : Env) : Sem Unit := do
  let x ← eval i1 env
  standAt i1.pos
  let x ← foldedSetIterable i1 env x
  let _ ← runOwn (.compStart C k (← holding [x] (pyIter x)) acc env) env
theorem turn_s2a (elt t i t1 i1 : Expr) (ifs ifs1 : List Expr) (sc : Scope) (pos : Pos) (it acc : Value) (env : Env) :
    compTurn (.SetComp elt [⟨t, i, ifs, 0⟩, ⟨t1, i1, ifs1, 0⟩] sc pos) 0 it acc env = turnOf t i ifs it env (beginIn (.SetComp elt [⟨t, i, ifs, 0⟩, ⟨t1, i1, ifs1, 0⟩] sc pos) i1 1 acc env) (.compLoop (.SetComp elt [⟨t, i, ifs, 0⟩, ⟨t1, i1, ifs1, 0⟩] sc pos) 0 it acc env) := by
  unfold turnOf beginIn
  simp only [bind_assoc, pure_bind]
  rfl

/-- no exception -/
abbrev Never : Value → Shared → Prop := fun _ _ => False
section
variable {prog : Program} {w : World} {A : Around} {s : Shared} {elt : Expr} {gens : List Comprehension} {sc : Scope} {pos : Pos} {k : Nat} {it acc : Value} {env : Env} {tg src : Expr} {ifs : List Expr} {body : Sem Unit}
/-- the tests of a clause -/
def testsOf (ifs : List Expr) (env : Env) : Sem Bool := forIn ifs true fun c r => if r = true then do let ok ← isTrue c env (eval c env); pure (ForInStep.yield ok) else pure (ForInStep.yield r)
/-- one turn: from I n either the source is at its end, or an item goes through and a lesser n is reached -/
theorem clause_loop {R : Shared → Prop} (hC : compTurn (.SetComp elt gens sc pos) k it acc env = turnOf tg src ifs it env body (.compLoop (.SetComp elt gens sc pos) k it acc env)) (I : Nat → Shared → Prop)
    (turn : ∀ n s, I n s → wpAny (model prog w) A (pyNext it) (fun r s1 => (r = none ∧ R s1) ∨ ∃ v, r = some v ∧ wpAny (model prog w) A (letOwnedTupleGo tg it v) (fun _ s2 => wpAny (model prog w) A (assign tg env v) (fun _ s3 => wpAny (model prog w) A (testsOf ifs env) (fun ok s4 =>
      if ok = true then wpAny (model prog w) A body (fun _ s5 => ∃ m, m < n ∧ I m s5) Never s4 else ∃ m, m < n ∧ I m s4) Never s3) Never s2) Never s1) Never s) (n : Nat) (h : I n s) :
    codeAny (model prog w) A (.compLoop (.SetComp elt gens sc pos) k it acc env) (fun r s' => r = .ok .next ∧ R s') s := by
  refine codeAny_loop rfl I (fun n s hI => ?_) n h
  show wpAny _ A ((compTurn (.SetComp elt gens sc pos) k it acc env).onRaise fun x => do noteFrame x env; theTreesLotGoes x) _ _ s
  rw [hC]
  refine wpAny_noted (wpAny_bind (wpAny_standAt (wpAny_bind (thnF (turn n s hI) fun r s1 h1 => ?_))))
  rcases h1 with ⟨rfl, q⟩ | ⟨v, rfl, q⟩
  · exact wpAny_pure ⟨rfl, q⟩
  · refine wpAny_bind (thnF q fun _ s2 q => wpAny_bind (thnF q fun _ s3 q => wpAny_bind (thnF q fun ok s4 q => ?_)))
    cases ok with
    | false => exact wpAny_pure ⟨rfl, q⟩
    | true => exact wpAny_bind (thnF q fun _ s5 q => wpAny_pure ⟨rfl, q⟩)
end
/-! ### the same over the abstract heap -/
/-- what a turn's body does: it leaves the slots beyond vs as they were, and a heap of K -/
abbrev TBd := L2.St → Hp → (Hp → Prop) → Prop
def Kept (vs : List Nat) (σ σ' : L2.St) : Prop := σ'.length = σ.length ∧ ∀ (j : Nat) (v : V), j ∉ vs → σ[j]? = some (some v) → σ'[j]? = some (some v)
theorem Kept.refl {vs : List Nat} {σ : L2.St} : Kept vs σ σ := ⟨rfl, fun _ _ _ e => e⟩
structure PB (X : Cx) (vs : List Nat) (body : Sem Unit) (tb : TBd) : Prop where
  run : ∀ (pins : List (Addr × Obj)) (s : Shared) (σ : L2.St) (H : Hp) (Z : Hp → Prop), Inv X pins σ H s → tb σ H Z → wpAny (model X.prog X.w) X.A body (fun _ s' => ∃ σ' H', Inv X pins σ' H' s' ∧ Kept vs σ σ' ∧ Z H') Never s
/-- a clause's loop over its source -/
def tLp (g : TG) (tt : TT) (tb : TBd) (vs : List Nat) (σ : L2.St) (Z : Hp → Prop) : It → Hp → Prop := fun J H0 => ∃ W : Nat → Nat → Hp → Prop, (∃ m, W 0 m H0) ∧ ∀ i m H, W i m H →
  (J.stop i H ∧ Z H) ∨ (J.go i H ∧ ∃ Nx : Hp → Prop, (∀ H', Nx H' → ∃ m', m' < m ∧ W (i + 1) m' H') ∧ ∀ x H', J.yld i H x H' → g x (wipe σ vs) H' fun σ2 H2 => wipe σ2 vs = wipe σ vs ∧ tt σ2 H2 fun b H3 => if b = true then tb σ2 H3 Nx else Nx H3)
theorem kept_wipe {vs : List Nat} {σ σ2 : L2.St} (h : wipe σ2 vs = wipe σ vs) : (wipe σ vs).length = σ2.length ∧ ∀ (j : Nat) (v : V), (wipe σ vs)[j]? = some (some v) → j ∉ vs ∧ σ2[j]? = some (some v) := by
  rw [← h]
  exact ⟨wipe_length _ _, fun j v e => ⟨(wipe_some e).2, (wipe_some e).1⟩⟩
section
variable {X : Cx} {s : Shared} {elt : Expr} {gens : List Comprehension} {sc : Scope} {pos : Pos} {k : Nat} {acc : Value} {tg src : Expr} {ifs : List Expr} {body : Sem Unit} {g : TG} {tt : TT} {tb : TBd} {wb vs : List Nat}
/-- THE RULE for a clause: its loop, from the state in which its source has just been asked for an iterator -/
theorem clause_run {pins : List (Addr × Obj)} {σ : L2.St} {H : Hp} {it : Addr} {fp : List Addr} {tn : Nat → Heap → Prop} {J : It} {Z : Hp → Prop} (hc : X.calm = true) (never : ∀ e s, X.xe e s → False) (hC : compTurn (.SetComp elt gens sc pos) k (.ref it) acc X.env = turnOf tg src ifs (.ref it) X.env body (.compLoop (.SetComp elt gens sc pos) k (.ref it) acc X.env))
    (hg : PG X tg g) (ht : PTs X ifs tt) (hb : PB X wb body tb) (hw : ∀ j ∈ wb, j ∈ vs) (T : Turn X.prog X.w X.K tg J fp it tn) (I : Inv X pins σ H s) (st : tn 0 s.heap) (hf : ∀ b ∈ fp, FpOk X pins H b) (q : tLp g tt tb vs σ Z J H) :
    codeAny (model X.prog X.w) X.A (.compLoop (.SetComp elt gens sc pos) k (.ref it) acc X.env) (fun r s' => r = .ok .next ∧ ∃ H', Inv X pins (wipe σ vs) H' s' ∧ (∀ b ∈ fp, H' b = none) ∧ Z H') s := by
  obtain ⟨W, ⟨m0, w0⟩, turn⟩ := q
  have fpk : ∀ {H' : Hp}, (∀ b ∈ fp, H' b = none) → ∀ b ∈ fp, FpOk X pins H' b := fun z b hb => ⟨z b hb, (hf b hb).2⟩
  have nv : ∀ {α : Type} {t : Sem α} {Q : α → Shared → Prop} {s : Shared}, wpAny (model X.prog X.w) X.A t Q X.xe s → wpAny (model X.prog X.w) X.A t Q Never s := fun h => wpAny_mono h (fun _ _ q => q) never
  refine clause_loop (R := fun s' => ∃ H', Inv X pins (wipe σ vs) H' s' ∧ (∀ b ∈ fp, H' b = none) ∧ Z H') hC (fun n s' => ∃ i H', Inv X pins (wipe σ vs) H' s' ∧ tn i s'.heap ∧ (∀ b ∈ fp, H' b = none) ∧ W i n H') ?_ m0 ⟨0, H, I.weak (wipe_length _ _) fun j v e => (wipe_some e).1, st, fun b hb => (hf b hb).1, w0⟩
  rintro n s1 ⟨i, H1, I1, st1, n1, w1⟩
  rcases turn i n H1 w1 with ⟨stop, z⟩ | ⟨go, Nx, hNx, step⟩
  · exact thnF (T.done X rfl rfl rfl hc i pins s1 _ H1 Never I1 (fpk n1) st1 stop) fun r s2 ⟨e, I2⟩ => .inl ⟨e, H1, I2, n1, z⟩
  · refine thnF (T.item X rfl rfl rfl hc i pins s1 _ H1 Never I1 (fpk n1) st1 go) fun r s2 ⟨u, e, h2⟩ => .inr ⟨u, e, thnF h2 fun _ s3 ⟨x, H3, I3, r3, y3, st3, n3⟩ => ?_⟩
    have I3p := I3.pinned (fpk n3) (T.obj _ _ st3)
    have fin : ∀ {σ' : L2.St} {s' : Shared} {H' : Hp}, Inv X (pins ++ pinsAt fp s3.heap) σ' H' s' → σ'.length = (wipe σ vs).length → (∀ (j : Nat) (v : V), (wipe σ vs)[j]? = some (some v) → σ'[j]? = some (some v)) → Nx H' →
        ∃ m, m < n ∧ ∃ i H', Inv X pins (wipe σ vs) H' s' ∧ tn i s'.heap ∧ (∀ b ∈ fp, H' b = none) ∧ W i m H' := by
      intro σ' s' H' I' hl hk nx
      obtain ⟨m, hm, w2⟩ := hNx H' nx
      have pinned : ∀ b ∈ fp, ∃ o, s3.heap.get? b = some o ∧ s'.heap.get? b = some o ∧ H' b = none := fun b hb => by
        obtain ⟨o, e, _⟩ := T.obj _ _ st3 b hb
        have p := I'.pin (b, o) (List.mem_append_right _ (List.mem_append_right _ (mem_pinsAt hb e)))
        exact ⟨o, e, p.1, p.2.1⟩
      refine ⟨m, hm, i + 1, H', I'.unpinned.weak hl.symm hk, T.keep _ _ _ st3 fun b hb o e => ?_, fun b hb => ?_, w2⟩
      · obtain ⟨o', e1, e2, _⟩ := pinned b hb
        rw [e] at e1; cases e1; exact e2
      · obtain ⟨_, _, _, e⟩ := pinned b hb; exact e
    refine nv (thn (hg.run _ s3 _ H3 x u _ I3p r3 (step x H3 y3)) fun _ s4 ⟨σ4, H4, I4, hw4, q4⟩ => ?_)
    obtain ⟨l4, k4⟩ := kept_wipe hw4
    refine nv (thn (ht.run _ s4 σ4 H4 _ I4 q4) fun b s5 ⟨H5, I5, q5⟩ => ?_)
    cases b with
    | false => exact iteF (fin I5 l4.symm (fun j v e => (k4 j v e).2) (by simpa using q5))
    | true =>
      refine iteT (thnF (hb.run _ s5 σ4 H5 Nx I5 (by simpa using q5)) fun _ s6 ⟨σ6, H6, I6, kp, z⟩ => ?_)
      exact fin I6 (kp.1.trans l4.symm) (fun j v e => kp.2 j v (fun m => (k4 j v e).1 (hw j m)) (k4 j v e).2) z
end
section
variable {prog : Program} {w : World} {A : Around} {R : Result → Shared → Prop} {s : Shared} {elt : Expr} {gens : List Comprehension} {g : Comprehension} {sc : Scope} {pos : Pos} {k : Nat} {it acc : Value} {env : Env}
/-- a clause's beginning: its source's iterator is asked for itself, or not -/
theorem clause_start (hg : gens[k]? = some g) (ha : g.is_async = 0) (h0 : codeAny (model prog w) A (.compLoop (.SetComp elt gens sc pos) k it acc env) R s)
    (h1 : wpAny (model prog w) A (pyIter it) (fun v s' => codeAny (model prog w) A (.compLoop (.SetComp elt gens sc pos) k v acc env) R s') Never s) : codeAny (model prog w) A (.compStart (.SetComp elt gens sc pos) k it acc env) R s := by
  refine codeAny_of_tree ?_
  show wpAny _ _ ((compStart (.SetComp elt gens sc pos) k it acc env).onRaise fun x => do noteFrame x env; standAt theWindowsPlace) _ _ s
  refine wpAny_notedAt ?_
  unfold compStart
  have e1 : (clausesOf (.SetComp elt gens sc pos))[k]? = some g := hg
  rw [e1]
  have e2 : ((some g).elim false fun x : Comprehension => x.is_async != 0) = false := by show (g.is_async != 0) = false; rw [ha]; rfl
  rw [e2, if_neg (by decide)]
  refine wpAny_bind (wpAny_askSetting ?_)
  split
  · exact wpAny_pure ⟨rfl, h0⟩
  · exact wpAny_bind (wpAny_rule (wpAny_bind (wpAny_standAt (wpAny_bind (thnF h1 fun v s' q => wpAny_pure ⟨rfl, q⟩)))))
end
/-! ### the bodies -/
section
variable {X : Cx}
/-- an int added to the set at D -/
def tAdd (w : World) (D : Addr) (te : TE) : TBd := fun σ H Z => te σ H fun y H4 => ∃ (c : Int) (S : Int → Bool) (n : Nat), y = .int c ∧ H4 D = some (SetO w D S n) ∧ n + 1 < scanBound ∧ Z (upd H4 D (SetO w D (fun j => S j || decide (j = c)) (if S c = true then n else n + 1)))
theorem add_int {pins : List (Addr × Obj)} {σ : L2.St} {H : Hp} {s : Shared} {E : Value → Shared → Prop} {D : Addr} {S : Int → Bool} {n : Nat} {y : Int} {t : Tok} {Q : Value → Shared → Prop} (I : Inv X pins σ H s) (hD : H D = some (SetO X.w D S n)) (room : n + 1 < scanBound)
    (h : ∀ v s', Inv X pins σ (upd H D (SetO X.w D (fun j => S j || decide (j = y)) (if S y = true then n else n + 1))) s' → Q v s') : wpAny (model X.prog X.w) X.A (call (.builtin "set.add") [.ref D, .int y t]) Q E s := by
  refine setR_add (setO_get I hD) room fun h' sb new => h _ _ ?_
  have ho := new.choose_spec.choose_spec.choose_spec.choose_spec.1
  exact I.write (t' := s.toks + 1) (by rw [hD]; trivial) (.inl rfl) (fun b u hb hu => (sb.2 b hb).trans hu) ⟨_, ho⟩ (setO_new new)
theorem pb_add {elt : Expr} {te : TE} {D : Addr} (never : ∀ e s, X.xe e s → False) (he : PE X elt te) : PB X [] (addTo elt (.ref D) X.env) (tAdd X.w D te) := by
  refine ⟨fun pins s σ H Z I q => ?_⟩
  refine wpAny_bind (wpAny_mono (he.run pins s σ H _ I q) (fun u s1 h => wpAny_bind (wpAny_standAt ?_)) never)
  obtain ⟨v, H1, I1, r, c, S, n, rfl, hD, room, z⟩ := h
  obtain ⟨t, rfl⟩ := r
  exact wpAny_bind (add_int I1 hD room fun _ s2 I2 => wpAny_pure ⟨σ, _, I2, .refl, z⟩)
/-- the next clause -/
def tIn (wi : TI) (g : TG) (tt : TT) (tb : TBd) (vs : List Nat) : TBd := fun σ H Z => wi σ H (tLp g tt tb vs σ Z)
theorem pb_in {elt : Expr} {gens : List Comprehension} {sc : Scope} {pos : Pos} {D : Addr} {tg src : Expr} {ifs : List Expr} {k : Nat} {body : Sem Unit} {wi : TI} {g : TG} {tt : TT} {tb : TBd} {wb vs : List Nat} (hc : X.calm = true) (never : ∀ e s, X.xe e s → False)
    (hk : gens[k]? = some ⟨tg, src, ifs, 0⟩) (hC : ∀ it, compTurn (.SetComp elt gens sc pos) k it (.ref D) X.env = turnOf tg src ifs it X.env body (.compLoop (.SetComp elt gens sc pos) k it (.ref D) X.env)) (hs : ∀ x, foldedSetIterable src X.env x = pure x)
    (hi : PI X tg src wi) (hg : PG X tg g) (ht : PTs X ifs tt) (hb : PB X wb body tb) (hw : ∀ j ∈ wb, j ∈ vs) : PB X vs (beginIn (.SetComp elt gens sc pos) src k (.ref D) X.env) (tIn wi g tt tb vs) := by
  refine ⟨fun pins s σ H Z I q => ?_⟩
  refine wpAny_bind (wpAny_mono (hi.run pins s σ H _ I q) (fun u s1 h => wpAny_bind (wpAny_standAt (wpAny_bind (wpAny_of_eq (hs u) (wpAny_bind (wpAny_holding (wpAny_mono h (fun itv s2 h2 => ?_) never))))))) never)
  obtain ⟨it, fp, tn, J, H2, rfl, I2, T, st, hf, q2⟩ := h2
  have loop := clause_run hc never (hC (.ref it)) hg ht hb hw T I2 st hf q2
  refine wpAny_bind (wpAny_runOwn ?_)
  rw [Around.mark_none]
  refine codeAny_mono (clause_start hk rfl loop (T.self _ 0 _ _ _ st loop)) fun r s3 h3 => ?_
  obtain ⟨rfl, H3, I3, _, z⟩ := h3
  exact wpAny_pure ⟨_, H3, I3, ⟨wipe_length _ _, fun j v hj e => by rw [wipe_out hj]; exact e⟩, z⟩
end
theorem wipe_set (τ : L2.St) (v : Nat) : ∀ vs : List Nat, wipe (τ.set v none) vs = (wipe τ vs).set v none
  | [] => rfl
  | u :: vs => by
    unfold wipe
    rw [wipe_set τ v vs]
    by_cases h : v = u
    · subst h; rfl
    · rw [List.set_comm _ _ h]
theorem wipe_wipe (σ : L2.St) : ∀ vs : List Nat, wipe (wipe σ vs) vs = wipe σ vs
  | [] => rfl
  | v :: vs => by
    show (wipe ((wipe σ vs).set v none) vs).set v none = (wipe σ vs).set v none
    rw [wipe_set, wipe_wipe σ vs, List.set_set]
/-! ### the whole of a set's comprehension -/
section
variable {X : Cx}
def tScG (w : World) (wi : TI) (g : TG) (tt : TT) (tb : Addr → TBd) (vs : List Nat) : TE := fun σ H Q => wi σ H fun J H1 => ∀ D, H1 D = none → tLp g tt (tb D) vs σ (Q (.ref D)) J (upd H1 D (SetO w D (fun _ => false) 0))
/-- the block's context -/
abbrev InBlk (X : Cx) (sc : Scope) (B : Cx → Prop) : Prop := ∀ (s : Shared) (H : Hp) (C : Addr) (cl : List (Str × Addr)) (fp : List Addr), B (X.blk s H sc (compEnvC sc cl C X.env) fp)
theorem pe_scG {elt tg src : Expr} {ifs : List Expr} {rest : List Comprehension} {sc : Scope} {pos : Pos} {own : List (Str × Nat)} {wi : TI} {g : TG} {tt : TT} {tb : Addr → TBd} {wb : List Nat} {body : Value → Env → Sem Unit} (hc : X.calm = true) (hN : X.N.Nodup) (hi : PI X tg src wi) (ok : BlkOk X.N X.env.scope sc own) (hw : ∀ j ∈ wb, j ∈ own.map (·.2))
    (hC : ∀ it acc env, compTurn (.SetComp elt (⟨tg, src, ifs, 0⟩ :: rest) sc pos) 0 it acc env = turnOf tg src ifs it env (body acc env) (.compLoop (.SetComp elt (⟨tg, src, ifs, 0⟩ :: rest) sc pos) 0 it acc env))
    (hg : InBlk X sc fun B => PG B tg g) (ht : InBlk X sc fun B => PTs B ifs tt) (hb : InBlk X sc fun B => ∀ D, PB B wb (body (.ref D) B.env) (tb D)) (hs : ∀ x, foldedSetIterable src X.env x = pure x := by intro _; rfl) :
    PE X (.SetComp elt (⟨tg, src, ifs, 0⟩ :: rest) sc pos) (tScG X.w wi g tt tb (own.map (·.2))) := by
  refine ⟨fun pins s σ H Q I q => ?_⟩
  rw [eval_SetComp]
  have free : ∀ y ∈ sc.names, y.2 = .free → ∃ c, X.env.cells.lookup y.1 = some c := fun y hy e => I.ok.has _ ((ok.free y hy e).imp id id)
  refine wpAny_comprehension_free (use := none) rfl hs (closure_ok free) ok.kind (fun y hy e => (ok.uniq y hy).trans (by rw [e])) (thn (hi.run pins s σ H _ I q) fun u s1 h1 => thn h1 fun v s2 h2 => newSet_ok (newEnv_comp ?_))
  obtain ⟨it, fp, tn, J, H2, rfl, I2, T, st, hf, q2⟩ := h2
  -- the new set's address, and the states with it and with the block's frame
  obtain ⟨D, hD⟩ : ∃ D, D = s2.heap.objs.size := ⟨_, rfl⟩
  obtain ⟨s3, hs3⟩ : ∃ s3 : Shared, s3 = { s2 with heap := s2.heap.push { cls := .type "set", dict := none, data := .set #[] 0 (.fresh 0 0 (!X.w.params.followText "set-order")) } } := ⟨_, rfl⟩
  have q3 := q2 D (by rw [hD]; exact I2.hok.fresh (Nat.le_refl _))
  obtain ⟨H3, hH3⟩ : ∃ H3, H3 = upd H2 D (SetO X.w D (fun _ => false) 0) := ⟨_, rfl⟩
  have I3 : Inv X pins σ H3 s3 := by
    subst hs3; subst hH3; subst hD
    exact I2.laid (t' := s2.toks) (fun b o e => Heap.get?_push_of_some _ e) (Nat.le_refl _) (setO_new (setR_fresh X.w))
  have old : ∀ b o, s2.heap.get? b = some o → s3.heap.get? b = some o := fun b o e => by rw [hs3]; exact Heap.get?_push_of_some _ e
  have f3 : ∀ b ∈ fp, FpOk X pins H3 b ∧ b < s3.heap.objs.size := fun b hb => by
    obtain ⟨o, e, _⟩ := T.obj _ _ st b hb
    have lt := Heap.lt_size e
    refine ⟨⟨?_, (hf b hb).2⟩, Heap.lt_size (old b o e)⟩
    rw [hH3, upd_ne (by rw [hD]; exact Nat.ne_of_lt lt)]
    exact (hf b hb).1
  have I4 := block_start I3 ok hN f3
  have B1 := hg s3 H3 s3.heap.objs.size (cellsFrom (s3.heap.objs.size + 1) sc.names (cloFrom X.env.cells sc.names [])) fp
  have B2 := ht s3 H3 s3.heap.objs.size (cellsFrom (s3.heap.objs.size + 1) sc.names (cloFrom X.env.cells sc.names [])) fp
  have B3 := hb s3 H3 s3.heap.objs.size (cellsFrom (s3.heap.objs.size + 1) sc.names (cloFrom X.env.cells sc.names [])) fp D
  have st4 : tn 0 (pushCells (s3.heap.push { cls := .type "dict", data := .dict #[] }) sc.names) := T.keep _ _ _ st fun b _ o e => pushCells_keeps _ _ _ _ (Heap.get?_push_of_some _ (old b o e))
  have hf4 : ∀ b ∈ fp, FpOk (X.blk s3 H3 sc (compEnvC sc (cellsFrom (s3.heap.objs.size + 1) sc.names (cloFrom X.env.cells sc.names [])) s3.heap.objs.size X.env) fp) [] H3 b := fun b hb =>
    ⟨(f3 b hb).1.1, (I4.ok.exf b hb).1, I4.ok.exfs b hb, .inl hb, fun x c e => (I4.ok.exf b hb).2 x c e, fun p hp => by cases hp⟩
  rw [← hH3] at q3
  have loop := clause_run (pins := []) (X := X.blk s3 H3 sc (compEnvC sc (cellsFrom (s3.heap.objs.size + 1) sc.names (cloFrom X.env.cells sc.names [])) s3.heap.objs.size X.env) fp) hc (fun _ _ h => h) (hC (.ref it) (.ref D) _) B1 B2 B3 hw T I4 st4 hf4 (by unfold tLp at q3 ⊢; rw [wipe_wipe]; exact q3)
  -- behind the loop: the def's own context again, and the block's frame let go
  have fin : ∀ s4 : Shared, (∃ H4, Inv (X.blk s3 H3 sc (compEnvC sc (cellsFrom (s3.heap.objs.size + 1) sc.names (cloFrom X.env.cells sc.names [])) s3.heap.objs.size X.env) fp) [] (wipe (wipe σ (own.map (·.2))) (own.map (·.2))) H4 s4 ∧ (∀ b ∈ fp, H4 b = none) ∧ Q (.ref D) H4) →
      ∃ m, s4.heap.Ns s3.heap.objs.size m ∧ ∀ h', Heap.SameBut s3.heap.objs.size s4.heap h' → EP X pins σ Q (.ref D) { s4 with heap := h' } := by
    rintro s4 ⟨H4, I5, _, z⟩
    obtain ⟨m, ns, _⟩ := I5.loc
    refine ⟨m, ns, fun h' sb => ?_⟩
    have I6 : Inv X pins σ H4 s4 := I3.call' (ch := fp) I5.os I5.base I5.hok I5.bare fun b hb => by
      obtain ⟨_, a1, _, a3, a4, a5⟩ := (f3 b hb).1
      exact ⟨a3, a1, a4, a5⟩
    obtain ⟨a0, a1, _, a3, a4, a5⟩ := I3.fpOk (H' := H4) (Nat.le_refl _) I5.free
    exact ⟨.ref D, H4, I6.turned (t' := s4.toks) (fun b o hb e => (sb.2 b hb).trans e) a0 a1 a3 a4 a5, rfl, z⟩
  subst hD; subst hs3
  refine codeAny_mono (clause_start (k := 0) rfl rfl loop (T.self _ 0 _ _ _ st4 loop)) fun r s4 h4 => ?_
  obtain ⟨rfl, h⟩ := h4
  exact fin s4 h
/-- {elt for tg in src if ..} of ints -/
theorem pe_sci1 {elt tg src : Expr} {ifs : List Expr} {sc : Scope} {pos : Pos} {own : List (Str × Nat)} {wi : TI} {g : TG} {tt : TT} {te : TE} (hc : X.calm = true) (hN : X.N.Nodup) (hi : PI X tg src wi) (ok : BlkOk X.N X.env.scope sc own)
    (hg : InBlk X sc fun B => PG B tg g) (ht : InBlk X sc fun B => PTs B ifs tt) (he : InBlk X sc fun B => PE B elt te) (hs : ∀ x, foldedSetIterable src X.env x = pure x := by intro _; rfl) : PE X (.SetComp elt [⟨tg, src, ifs, 0⟩] sc pos) (tScG X.w wi g tt (fun D => tAdd X.w D te) (own.map (·.2))) :=
  pe_scG (rest := []) (wb := []) hc hN hi ok (fun _ h => by cases h) (fun it acc env => turn_s1 ..) hg ht (fun s H C cl fp D => pb_add (fun _ _ h => h) (he s H C cl fp)) hs
/-- {elt for tg in src if .. for tg1 in src1 if ..} of ints -/
theorem pe_sci2 {elt tg src tg1 src1 : Expr} {ifs ifs1 : List Expr} {sc : Scope} {pos : Pos} {own : List (Str × Nat)} {vs1 : List Nat} {wi wi1 : TI} {g g1 : TG} {tt tt1 : TT} {te : TE} (hc : X.calm = true) (hN : X.N.Nodup) (hi : PI X tg src wi) (ok : BlkOk X.N X.env.scope sc own) (hv : ∀ j ∈ vs1, j ∈ own.map (·.2))
    (hg : InBlk X sc fun B => PG B tg g) (ht : InBlk X sc fun B => PTs B ifs tt) (hi1 : InBlk X sc fun B => PI B tg1 src1 wi1) (hg1 : InBlk X sc fun B => PG B tg1 g1) (ht1 : InBlk X sc fun B => PTs B ifs1 tt1) (he : InBlk X sc fun B => PE B elt te)
    (hs : ∀ x, foldedSetIterable src X.env x = pure x := by intro _; rfl) (hs1 : ∀ env x, foldedSetIterable src1 env x = pure x := by intro _ _; rfl) :
    PE X (.SetComp elt [⟨tg, src, ifs, 0⟩, ⟨tg1, src1, ifs1, 0⟩] sc pos) (tScG X.w wi g tt (fun D => tIn wi1 g1 tt1 (tAdd X.w D te) vs1) (own.map (·.2))) :=
  pe_scG (rest := [⟨tg1, src1, ifs1, 0⟩]) (wb := vs1) hc hN hi ok hv (fun it acc env => turn_s2a ..) hg ht
    (fun s H C cl fp D => pb_in (k := 1) hc (fun _ _ h => h) rfl (fun it => turn_s2b ..) (hs1 _) (hi1 s H C cl fp) (hg1 s H C cl fp) (ht1 s H C cl fp) (pb_add (fun _ _ h => h) (he s H C cl fp)) (fun _ h => by cases h)) hs
end
end Co

set_option Elab.async false
set_option linter.all false
set_option maxRecDepth 100000
set_option maxHeartbeats 4000000
namespace Co
open PySem PySem.Spec PyProof.Rows L2
/-! ### zip of a text and a tuple -/
def ItzST (K : PySem.W.Frag) (x : Str) (b : Addr) : It :=
  ⟨fun i H => ∃ (ys : List V), SqT K H b ys ∧ i < x.cps.size ∧ i < ys.length,
    fun i H v H' => ∃ T c y, v = .ref T ∧ H T = none ∧ H' = upd H T (.tup [.str ⟨#[c]⟩, y]) ∧ x.cps[i]? = some c ∧ ∀ ys, SqT K H b ys → ys[i]? = some y,
    fun i H => ∃ ys : List V, SqT K H b ys ∧ i ≤ x.cps.size ∧ i ≤ ys.length ∧ (i = x.cps.size ∨ i = ys.length)⟩
/-- the five objects of such a zip, as they stand before its turn `i` -/
structure ZAt (x : Str) (tk0 : Tok) (b z TI TO i1 i2 : Addr) (i : Nat) (h : Heap) : Prop where
  zip : IsZip h z TI TO .none
  ins : IsTupOf2 h TI (.ref i1) (.ref i2)
  outs : ∃ x y, IsTupOf2 h TO x y
  txt : h.IsStrIter i1 (strIterType x) x tk0 i
  tup : h.IsTupleIter i2 b i
/-- what is asked of each of five may be asked of one after the other -/
theorem all5 {p : Addr → Prop} {a b c d e : Addr} (ha : p a) (hb : p b) (hc : p c) (hd : p d) (he : p e) : ∀ y, y ∈ [a, b, c, d, e] → p y := by
  simpa using ⟨ha, hb, hc, hd, he⟩
theorem no5 {a b c d e y : Addr} (h : y ∉ [a, b, c, d, e]) : y ≠ a ∧ y ≠ b ∧ y ≠ c ∧ y ≠ d ∧ y ≠ e := by
  simpa [not_or] using h
theorem ZAt.small {x : Str} {tk0 : Tok} {b z TI TO i1 i2 : Addr} {i : Nat} {h : Heap} (q : ZAt x tk0 b z TI TO i1 i2 i h) : ∀ c, c ∈ [z, TI, TO, i1, i2] → c < h.objs.size := by
  obtain ⟨_, _, q3⟩ := q.outs
  obtain ⟨_, q4, _⟩ := q.txt
  obtain ⟨_, q5, _⟩ := q.tup
  exact all5 (Heap.lt_size q.zip) (Heap.lt_size q.ins) (Heap.lt_size q3) (Heap.lt_size q4) (Heap.lt_size q5)
theorem sep_of {z TI TO i1 i2 b : Addr} (D : ZipApart z TI TO i1 i2 b b) : ZipSep2 z TI TO i1 i2 [i1] [i2, b] := by
  have h1 := D.i1z.symm
  have h2 := D.i2z.symm
  have h3 := D.l1z.symm
  have h4 := D.l1TO.symm
  have h5 := D.l1i1.symm
  have h6 := D.i12.symm
  constructor <;> simp [D.TIz, D.TOz, D.TITO, D.TIi1, D.TIi2, D.TOi1, D.TOi2, D.i12, h1, h2, h3, h4, h5, h6]
theorem turn_zipST {P : Program} {w : World} {K : PySem.W.Frag} {elts : List Expr} {kk : Nat} {tpos : Pos} {x : Str} {tk0 : Tok} {b z TI TO i1 i2 : Addr} (D : ZipApart z TI TO i1 i2 b b) :
    Turn P w K (.Tuple elts kk tpos) (ItzST K x b) [z, TI, TO, i1, i2] z (ZAt x tk0 b z TI TO i1 i2) where
  mem := List.mem_cons_self
  obj := fun i h q => by
    obtain ⟨_, _, q3⟩ := q.outs
    obtain ⟨_, q4, _, d4⟩ := q.txt
    obtain ⟨_, q5, _, d5⟩ := q.tup
    refine all5 ⟨_, q.zip, ?_⟩ ⟨_, q.ins, ?_⟩ ⟨_, q3, ?_⟩ ⟨_, q4, ?_⟩ ⟨_, q5, ?_⟩ <;> intro v e <;> simp_all
  keep := fun i h h' q k => by
    have k' : ∀ c, c ∈ [z, TI, TO, i1, i2] → ∀ o, h.get? c = some o → h'.get? c = some o := k
    obtain ⟨u, v, q3⟩ := q.outs
    obtain ⟨o4, q4, r4⟩ := q.txt
    exact ⟨k' _ (by simp) _ q.zip, k' _ (by simp) _ q.ins, ⟨u, v, k' _ (by simp) _ q3⟩, ⟨o4, k' _ (by simp) _ q4, r4⟩, q.tup.at (k' _ (by simp))⟩
  item := by
    rintro X rfl rfl rfl hc i pins s σ H E I hf q ⟨ys, hy, l1, l2⟩
    obtain ⟨vs, rv, tv, _⟩ := I.tuple hy
    obtain ⟨_, _, q3⟩ := q.outs
    have hd : X.A.in1.handled = none := I.ok.hd hc
    obtain ⟨u, hu, ru⟩ := rv.get (List.getElem?_eq_getElem l2)
    have lv : i < vs.toArray.size := by
      have := (List.getElem?_eq_some_iff.mp hu).1
      simpa using this
    refine wpAny_pyNext_zipD2_item (sep_of D) (Draws.text hd i1 x tk0) (Draws.tuple hd i2 b D.l1i2 vs.toArray) q.zip q.ins q3 q.txt ⟨q.tup, tv⟩ l1 lv fun a1 a2 h1 t1 P1 P2 z1 o1 f1 f2 new _ kp => ?_
    obtain ⟨c, tc, hx, rfl⟩ := P1
    obtain rfl : u = a2 := by
      have : vs[i]? = some a2 := by simpa using P2
      simpa [hu] using this
    refine ⟨_, rfl, wpAny_letOwnedTupleGo_zip (s := { s with heap := h1, toks := t1 }) z1 fun h2 z2 sb => ?_⟩
    have sm := q.small
    have kp2 : ∀ a o, a ∉ [z, TI, TO, i1, i2] → s.heap.get? a = some o → h2.get? a = some o := fun a o na e => by
      obtain ⟨n1, _, n3, n4, n5⟩ := no5 na
      by_cases hb : a = TI
      · exact absurd hb (no5 na).2.1
      · exact (sb.2 a n1).trans (kp a o n1 n3 n4 n5 e)
    have nt : h2.get? s.heap.objs.size = some { cls := .type "tuple", data := .seq #[.str ⟨#[c]⟩ tc, u] } :=
      (sb.2 _ (Nat.ne_of_gt (sm z (by simp)))).trans new
    have pair : ObjOk X.prog X.w (upd H s.heap.objs.size (.tup [.str ⟨#[c]⟩, ys[i]])) h2 s.heap.objs.size (.tup [.str ⟨#[c]⟩, ys[i]]) :=
      ⟨(by decide : 2 ≤ sizeLine), [.str ⟨#[c]⟩ tc, u], .cons ⟨tc, rfl⟩ (.cons ru .nil), ⟨_, nt, rfl, _, rfl⟩⟩
    have J : L2.Inv X pins σ (upd H s.heap.objs.size (.tup [.str ⟨#[c]⟩, ys[i]])) { s with heap := h2, toks := t1 } :=
      I.turnedNew (t' := t1) (ch := [z, TI, TO, i1, i2]) kp2 hf (Nat.le_refl _) pair
    obtain ⟨ob, g1, r1⟩ := f1
    refine ⟨.ref s.heap.objs.size, _, J, rfl, ⟨_, c, ys[i], rfl, I.hok.fresh (Nat.le_refl _), rfl, hx, fun l hl => ?_⟩,
      { zip := z2, ins := (sb.2 _ D.TIz).trans (kp _ _ D.TIz D.TITO D.TIi1 D.TIi2 q.ins), outs := ⟨_, u, (sb.2 _ D.TOz).trans o1⟩, txt := ⟨ob, (sb.2 _ D.i1z).trans g1, r1⟩, tup := f2.1.at fun o e => (sb.2 _ D.i2z).trans e }, fun a ha => ?_⟩
    · obtain rfl := I.tuple_inj hl hy
      exact List.getElem?_eq_getElem l2
    · exact (upd_ne (Nat.ne_of_lt (sm a ha))).trans (hf a ha).1
  done := by
    rintro X rfl rfl rfl hc i pins s σ H E I hf q ⟨ys, hy, l1, l2, l3⟩
    obtain ⟨vs, rv, tv, _⟩ := I.tuple hy
    obtain ⟨_, _, q3⟩ := q.outs
    have hd : X.A.in1.handled = none := I.ok.hd hc
    have e2 : vs.toArray.size = ys.length := by simpa using rv.length.symm
    refine wpAny_pyNext_zipD2_end (sep_of D) (Draws.text hd i1 x tk0) (Draws.tuple hd i2 b D.l1i2 vs.toArray) q.zip q.ins q3 q.txt ⟨q.tup, tv⟩ l1 (by omega) (by omega) fun h' tk kp => ⟨rfl, I.turnedL (t' := tk) (ch := [z, TI, TO, i1, i2]) (fun a o na e => ?_) hf⟩
    obtain ⟨n1, _, n3, n4, n5⟩ := no5 na
    exact kp a o n1 n3 n4 n5 e
  self := fun _ _ _ _ _ q h => wpAny_pyIter_zip q.zip h
def iZipST (K : PySem.W.Frag) (ta : TA) : TI := fun σ H R => ta σ H fun vs H1 => ∃ x b ys, vs = [.str x, .ref b] ∧ SqT K H1 b ys ∧ R (ItzST K x b) H1
theorem pi_zipST {X : Cx} {e e2 : Expr} {ta : TA} {p pos tpos : Pos} {elts : List Expr} {kk : Nat} (hg : Gl X "zip") (hm : X.mg "zip" = none) (ha : PA X [e, e2] ta)
    (hs : starEach [e, e2] X.env = (false, eval e X.env) :: starEach [e2] X.env := by rfl) (hpl : (backTo pos (starEach [e2] X.env)).any (·.1) = false := by rfl) :
    PI X (.Tuple elts kk tpos) (.Call (.Name "zip" p) [e, e2] [] pos) (iZipST X.K ta) where
  run pins s σ H R I h := by
    have go := ha.run pos pins s σ H _ I h
    refine Call_ (ld_blt I hg hm PyProof.Rows.boot_zip (PyProof.Rows.callWith_type1 (thn go ?_) hs hpl))
    rintro us s1 ⟨vs, H1, J, r1, x, b, ys, rfl, hy, q⟩
    match us, r1 with
    | [_, _], .cons ⟨tk0, rfl⟩ (.cons rfl .nil) =>
      obtain ⟨its, _, tv, _⟩ := J.tuple hy
      obtain ⟨_, hb, _⟩ := id tv
      have lb := Heap.lt_size hb
      let n := s1.heap.objs.size
      have up : ∀ c, c ∈ [n + 4, n + 2, n + 3, n, n + 1] → n ≤ c := all5 (by omega) (by omega) (by omega) (by omega) (by omega)
      refine zip_begins2 (begins_text x tk0) (begins_tuple b its.toArray) trivial (show s1.heap.IsTuple b its.toArray from tv) fun h' q1 q2 q3 q4 q5 _ kp => wpAny_pyIter_zip q1 ?_
      exact ⟨n + 4, [n + 4, n + 2, n + 3, n, n + 1], _, _, H1, rfl, J.kept (t' := s1.toks) kp, turn_zipST (PySem.W.ktu_apart n b b lb lb),
        ⟨q1, q2, ⟨_, _, q3⟩, ⟨_, q4, rfl, rfl⟩, ⟨_, q5, rfl, rfl⟩⟩, fun c hc => J.fpOk (up c hc) (J.hok.fresh (up c hc)), q⟩

open PpSet
theorem pg_tupK {X : Cx} {K' : PySem.W.Frag} {es : List Expr} {k : Nat} {t : TGs} {n : Nat} {pos : Pos} (hK : X.K = K') (hc : X.calm = true) (h : PGs X es t)
    (hn : (assignEach es X.env).length = n := by rfl) (hst : (assignEach es X.env).findIdx? (·.1) = none := by rfl) : PG X (.Tuple es k pos) (gTup K' n t) := by
  subst hK
  exact pg_tup hc h hn hst
section
variable {X : Cx} {K' : PySem.W.Frag}
theorem op_in_seqK (hK : X.K = K') : OpR X (compareOp .In) (rIn K' false) := by subst hK; exact op_in_seq
theorem op_notIn_seqK (hK : X.K = K') : OpR X (compareOp .NotIn) (rIn K' true) := by subst hK; exact op_notIn_seq
theorem ix_listK (hK : X.K = K') : IxR X (rIxL K') := by subst hK; exact ix_list
theorem ix_tupK (hK : X.K = K') : IxR X (rIxT K') := by subst hK; exact ix_tup
theorem call_lenQK (hK : X.K = K') : CallR X (.builtin "len") (rLenQ K') := by subst hK; exact call_lenQ
end
/-! ### readings of these -/
def kZ (K : PySem.W.Frag) (R : It → Hp → Prop) : List V → Hp → Prop := fun vs H1 => ∃ x b ys, vs = [.str x, .ref b] ∧ SqT K H1 b ys ∧ R (ItzST K x b) H1
theorem w_zST {K : PySem.W.Frag} {ta : TA} {σ : L2.St} {H : Hp} {R : It → Hp → Prop} (q : ta σ H (kZ K R)) : iZipST K ta σ H R := q
theorem w_forZ {K : PySem.W.Frag} {g : TG} {tb : TS} {D : Ends} {σ : L2.St} {H : Hp} {x : Str} {b : Addr} (ys : List V) (Pv : Nat → L2.St → Hp → Prop) (hq : SqT K H b ys) (hle : x.cps.size = ys.length) (h0 : Pv 0 σ H) (hl : ∀ i σ H, Pv i σ H → SqT K H b ys)
    (hs : ∀ i c y T σ H H', x.cps[i]? = some c → ys[i]? = some y → Pv i σ H → H T = none → Same H H' → H' T = some (.tup [.str ⟨#[c]⟩, y]) → g (.ref T) σ H' fun σ2 H2 => tb { D with nx := Pv (i + 1), ct := Pv (i + 1), bk := D.nx } σ2 H2)
    (hd : ∀ σ H, Pv ys.length σ H → D.nx σ H) : kZ K (kFor g tb D σ) [.str x, .ref b] H := by
  refine ⟨x, b, ys, rfl, hq, fun i m σ H => m = ys.length - i ∧ i ≤ ys.length ∧ Pv i σ H, ⟨ys.length, by simp, Nat.zero_le _, h0⟩, ?_⟩
  rintro i m σ H ⟨rfl, hi, p⟩
  have q := hl i σ H p
  by_cases hlt : i < ys.length
  · refine .inr ⟨⟨ys, q, by omega, hlt⟩, Pv (i + 1), fun σ' H' p' => ⟨ys.length - (i + 1), by omega, rfl, hlt, p'⟩, fun v H' y => ?_⟩
    obtain ⟨T, c, y, rfl, nT, rfl, hc, hy⟩ := y
    exact hs i c y T σ H _ hc (hy ys q) p nT (Same.new nT) upd_same
  · have e : i = ys.length := by omega
    subst e
    exact .inl ⟨⟨ys, q, by omega, Nat.le_refl _, .inr rfl⟩, hd σ H p⟩
theorem w_lcZ {K : PySem.W.Frag} {g : TG} {tt : TT} {te : TE} {vs : List Nat} {σ : L2.St} {H : Hp} {Q : VK} {x : Str} {b : Addr} (ys : List V) (Pv : Addr → Nat → Hp → Prop) (hq : SqT K H b ys) (hle : x.cps.size = ys.length) (h0 : ∀ D, H D = none → Pv D 0 (upd H D (.lst []))) (hl : ∀ D i H, Pv D i H → SqT K H b ys)
    (hs : ∀ D i c y T H H', x.cps[i]? = some c → ys[i]? = some y → Pv D i H → H T = none → Same H H' → H' T = some (.tup [.str ⟨#[c]⟩, y]) → g (.ref T) (wipe σ vs) H' fun σ2 H2 => wipe σ2 vs = wipe σ vs ∧ tt σ2 H2 fun b H3 =>
      if b = true then te σ2 H3 fun y H4 => ∃ acc, H4 D = some (.lst acc) ∧ acc.length < sizeLine ∧ Pv D (i + 1) (upd H4 D (.lst (acc ++ [y]))) else Pv D (i + 1) H3) (hd : ∀ D H', H D = none → Pv D ys.length H' → Q (.ref D) H') : kZ K (kLc g tt te vs σ Q) [.str x, .ref b] H := by
  refine ⟨x, b, ys, rfl, hq, fun D nD => ⟨fun i m H => m = ys.length - i ∧ i ≤ ys.length ∧ Pv D i H, ⟨ys.length, by simp, Nat.zero_le _, h0 D nD⟩, ?_⟩⟩
  rintro i m H' ⟨rfl, hi, p⟩
  have q := hl D i H' p
  by_cases hlt : i < ys.length
  · refine .inr ⟨⟨ys, q, by omega, hlt⟩, Pv D (i + 1), fun H2 p' => ⟨ys.length - (i + 1), by omega, rfl, hlt, p'⟩, fun v H2 y => ?_⟩
    obtain ⟨T, c, y, rfl, nT, rfl, hc, hy⟩ := y
    exact hs D i c y T H' _ hc (hy ys q) p nT (Same.new nT) upd_same
  · have e : i = ys.length := by omega
    subst e
    exact .inl ⟨⟨ys, q, by omega, Nat.le_refl _, .inr rfl⟩, hd D H' nD p⟩
def kSt (R : It → Hp → Prop) : V → Hp → Prop := fun v H1 => ∃ x, v = .str x ∧ R (Its x) H1
theorem w_iSt {te : TE} {σ : L2.St} {H : Hp} {R : It → Hp → Prop} (q : te σ H (kSt R)) : iStr te σ H R := q
theorem w_forS {g : TG} {tb : TS} {D : Ends} {σ : L2.St} {H : Hp} {x : Str} (Pv : Nat → L2.St → Hp → Prop) (h0 : Pv 0 σ H)
    (hs : ∀ i c σ H, x.cps[i]? = some c → Pv i σ H → g (.str ⟨#[c]⟩) σ H fun σ2 H2 => tb { D with nx := Pv (i + 1), ct := Pv (i + 1), bk := D.nx } σ2 H2)
    (hd : ∀ σ H, Pv x.cps.size σ H → D.nx σ H) : kSt (kFor g tb D σ) (.str x) H := by
  refine ⟨x, rfl, fun i m σ H => m = x.cps.size - i ∧ i ≤ x.cps.size ∧ Pv i σ H, ⟨x.cps.size, by simp, Nat.zero_le _, h0⟩, ?_⟩
  rintro i m σ H ⟨rfl, hi, p⟩
  by_cases hlt : i < x.cps.size
  · refine .inr ⟨hlt, Pv (i + 1), fun σ' H' p' => ⟨x.cps.size - (i + 1), by omega, rfl, hlt, p'⟩, fun v H' y => ?_⟩
    obtain ⟨rfl, c, hc, rfl⟩ := y
    exact hs i c σ _ hc p
  · have e : i = x.cps.size := by omega
    subst e
    exact .inl ⟨Nat.le_refl _, hd σ H p⟩
/-- t[1:] of a tuple of two and more -/
theorem w_sl {r : V → Option Int → Option Int → Hp → VK → Prop} {te : TE} {tl th : TO} {σ : L2.St} {H : Hp} {Q : VK} (q : te σ H fun x H1 => tl σ H1 fun l H2 => th σ H2 fun u H3 => r x l u H3 Q) : tSl r te tl th σ H Q := q
theorem w_part {te : TE} {σ : L2.St} {H : Hp} {Q : Option Int → Hp → Prop} (q : te σ H fun x H1 => ∃ i, x = .int i ∧ Q (some i) H1) : tPart te σ H Q := q
theorem w_noPart {σ : L2.St} {H : Hp} {Q : Option Int → Hp → Prop} (q : Q none H) : tNoPart σ H Q := q
theorem w_exI {i : Int} {Q : Int → Prop} (q : Q i) : ∃ j, V.int i = .int j ∧ Q j := ⟨i, rfl, q⟩
theorem w_rSl1 {K : PySem.W.Frag} {H : Hp} {Q : VK} {a : Addr} {v y : V} {r : List V} (h : SqT K H a (v :: y :: r)) (q : ∀ p H', H p = none → Same H H' → H' p = some (.tup (y :: r)) → Q (.ref p) H') : rSlA K (.ref a) (some 1) none H Q := by
  refine ⟨a, _, rfl, h, fun ⟨e, _⟩ => ?_, fun _ p np => ?_⟩
  · rw [show HT.sIx (v :: y :: r).length 0 (some 1) = min 1 (v :: y :: r).length from HT.sIx_nat _ 0 1] at e
    simp at e
  · refine q p _ np (Same.new np) ?_
    have e : cutV (v :: y :: r) (some 1) none = y :: r := by
      unfold cutV
      rw [show HT.sIx (v :: y :: r).length 0 (some 1) = min 1 (v :: y :: r).length from HT.sIx_nat _ 0 1, HT.sIx_none]
      rw [show min 1 (v :: y :: r).length = 1 by simp]
      simp
    rw [e]; exact upd_same
def kScG (w : World) (g : TG) (tt : TT) (tb : Addr → TBd) (vs : List Nat) (σ : L2.St) (Q : VK) : It → Hp → Prop := fun J H1 => ∀ D, H1 D = none → tLp g tt (tb D) vs σ (Q (.ref D)) J (upd H1 D (SetO w D (fun _ => false) 0))
theorem w_sc {w : World} {wi : TI} {g : TG} {tt : TT} {tb : Addr → TBd} {vs : List Nat} {σ : L2.St} {H : Hp} {Q : VK} (q : wi σ H (kScG w g tt tb vs σ Q)) : tScG w wi g tt tb vs σ H Q := q
/-- a clause's loop over a list or a tuple, by an invariant -/
theorem w_lpG {It0 : It} {g : TG} {tt : TT} {tb : TBd} {vs : List Nat} {σ : L2.St} {H : Hp} {Z : Hp → Prop} (xs : List V) (Pv : Nat → Hp → Prop) (h0 : Pv 0 H) (go : ∀ i H, i < xs.length → Pv i H → It0.go i H) (stop : ∀ H, Pv xs.length H → It0.stop xs.length H) (yld : ∀ i H x H', Pv i H → It0.yld i H x H' → H' = H ∧ xs[i]? = some x)
    (hs : ∀ i x H, xs[i]? = some x → Pv i H → g x (wipe σ vs) H fun σ2 H2 => wipe σ2 vs = wipe σ vs ∧ tt σ2 H2 fun b H3 => if b = true then tb σ2 H3 (Pv (i + 1)) else Pv (i + 1) H3) (hd : ∀ H, Pv xs.length H → Z H) : tLp g tt tb vs σ Z It0 H := by
  refine ⟨fun i m H => m = xs.length - i ∧ i ≤ xs.length ∧ Pv i H, ⟨xs.length, by simp, Nat.zero_le _, h0⟩, ?_⟩
  rintro i m H' ⟨rfl, hi, p⟩
  rcases Nat.lt_or_ge i xs.length with lt | ge
  · refine .inr ⟨go i H' lt p, Pv (i + 1), fun H2 p2 => ⟨xs.length - (i + 1), by omega, rfl, lt, p2⟩, fun v H2 y => ?_⟩
    obtain ⟨rfl, e⟩ := yld i H' v H2 p y
    exact hs i v _ e p
  · obtain rfl : i = xs.length := by omega
    exact .inl ⟨stop H' p, hd H' p⟩
theorem w_lpL {K : PySem.W.Frag} {g : TG} {tt : TT} {tb : TBd} {vs : List Nat} {σ : L2.St} {H : Hp} {Z : Hp → Prop} {a : Addr} (xs : List V) (Pv : Nat → Hp → Prop) (h0 : Pv 0 H) (hl : ∀ i H, Pv i H → SqL K H a xs)
    (hs : ∀ i x H, xs[i]? = some x → Pv i H → g x (wipe σ vs) H fun σ2 H2 => wipe σ2 vs = wipe σ vs ∧ tt σ2 H2 fun b H3 => if b = true then tb σ2 H3 (Pv (i + 1)) else Pv (i + 1) H3) (hd : ∀ H, Pv xs.length H → Z H) : tLp g tt tb vs σ Z (Itl K a) H :=
  w_lpG xs Pv h0 (fun i H lt p => ⟨xs, xs[i], hl i H p, by simp [lt]⟩) (fun H p => ⟨xs, hl _ H p, Nat.le_refl _⟩) (fun i H x H' p y => ⟨y.1, y.2 xs (hl i H p)⟩) hs hd
theorem w_lpT {K : PySem.W.Frag} {g : TG} {tt : TT} {tb : TBd} {vs : List Nat} {σ : L2.St} {H : Hp} {Z : Hp → Prop} {a : Addr} (xs : List V) (Pv : Nat → Hp → Prop) (h0 : Pv 0 H) (hl : ∀ i H, Pv i H → SqT K H a xs)
    (hs : ∀ i x H, xs[i]? = some x → Pv i H → g x (wipe σ vs) H fun σ2 H2 => wipe σ2 vs = wipe σ vs ∧ tt σ2 H2 fun b H3 => if b = true then tb σ2 H3 (Pv (i + 1)) else Pv (i + 1) H3) (hd : ∀ H, Pv xs.length H → Z H) : tLp g tt tb vs σ Z (Itt K a) H :=
  w_lpG xs Pv h0 (fun i H lt p => ⟨xs, xs[i], hl i H p, by simp [lt]⟩) (fun H p => ⟨xs, hl _ H p, Nat.le_refl _⟩) (fun i H x H' p y => ⟨y.1, y.2 xs (hl i H p)⟩) hs hd
theorem w_scL {K : PySem.W.Frag} {w : World} {g : TG} {tt : TT} {te : TE} {vs : List Nat} {σ : L2.St} {H : Hp} {Q : VK} {a : Addr} (xs : List V) (Pv : Addr → Nat → Hp → Prop) (hS : SqL K H a xs) (h0 : ∀ D, H D = none → Pv D 0 (upd H D (SetO w D (fun _ => false) 0))) (hl : ∀ D i H, Pv D i H → SqL K H a xs)
    (hs : ∀ D i x H, xs[i]? = some x → Pv D i H → g x (wipe σ vs) H fun σ2 H2 => wipe σ2 vs = wipe σ vs ∧ tt σ2 H2 fun b H3 => if b = true then te σ2 H3 fun y H4 => ∃ (c : Int) (S : Int → Bool) (n : Nat), y = .int c ∧ H4 D = some (SetO w D S n) ∧ n + 1 < scanBound ∧ Pv D (i + 1) (upd H4 D (SetO w D (fun j => S j || decide (j = c)) (if S c = true then n else n + 1))) else Pv D (i + 1) H3)
    (hd : ∀ D H', H D = none → Pv D xs.length H' → Q (.ref D) H') : kIL K (kScG w g tt (fun D => tAdd w D te) vs σ Q) (.ref a) H :=
  ⟨a, rfl, ⟨_, hS⟩, fun D nD => w_lpL xs (Pv D) (h0 D nD) (hl D) (hs D) fun H' p => hd D H' nD p⟩
theorem asc_eq : ∀ {l m : List Int}, l.Pairwise (· < ·) → m.Pairwise (· < ·) → (∀ k, k ∈ l ↔ k ∈ m) → l = m
  | [], [], _, _, _ => rfl
  | [], y :: m, _, _, h => by have := (h y).mpr (by simp); simp at this
  | x :: l, [], _, _, h => by have := (h x).mp (by simp); simp at this
  | x :: l, y :: m, p, q, h => by
    rw [List.pairwise_cons] at p q
    have e : x = y := by
      have a := (h x).mp (by simp)
      have b := (h y).mpr (by simp)
      rw [List.mem_cons] at a b
      rcases a with a | a
      · exact a
      · rcases b with b | b
        · exact b.symm
        · have := q.1 x a; have := p.1 y b; omega
    subst e
    congr 1
    refine asc_eq p.2 q.2 fun k => ⟨fun hk => ?_, fun hk => ?_⟩
    · have := (h k).mp (List.mem_cons_of_mem _ hk)
      rw [List.mem_cons] at this
      rcases this with e | e
      · subst e; have := p.1 k hk; omega
      · exact e
    · have := (h k).mpr (List.mem_cons_of_mem _ hk)
      rw [List.mem_cons] at this
      rcases this with e | e
      · subst e; have := q.1 k hk; omega
      · exact e
/-! ### texts, indices, sets -/
def Evl0.rInSQ : R2 := fun x y H Q => ∃ (c : Nat) (z : Str), x = .str ⟨#[c]⟩ ∧ y = .str z ∧ Q (.bl (decide (c ∈ z.cps.toList))) H
theorem op_inSQ {X : Cx} : OpR X (compareOp .In) Evl0.rInSQ := op_in_sign
theorem w_m1 {r : V → List V → Hp → VK → Prop} {to te : TE} {σ : L2.St} {H : Hp} {Q : VK} (q : to σ H fun x H1 => (∃ a, x = .str a) ∧ te σ H1 fun y H2 => r x [y] H2 Q) : tM1 r to te σ H Q := q
theorem w_isS {a : Str} {B : Prop} (q : B) : (∃ b, V.str a = .str b) ∧ B := ⟨⟨a, rfl⟩, q⟩
def rStartsQ : V → List V → Hp → VK → Prop := fun x xs H Q => ∃ a b, x = .str a ∧ xs = [.str b] ∧ Q (.bl (Txt.startswith a b)) H
theorem mt_startsQ {X : Cx} : MtR X "str.startswith" rStartsQ := mt_startswith
theorem w_starts {a b : Str} {H : Hp} {Q : VK} (q : Q (.bl (Txt.startswith a b)) H) : rStartsQ (.str a) [.str b] H Q := ⟨a, b, rfl, rfl, q⟩
def rTIxQ (K : PySem.W.Frag) : V → List V → Hp → VK → Prop := fun x xs H Q => ∃ p, ∃ ys : List Str, ∃ z j, x = .ref p ∧ xs = [.str z] ∧ SqT K H p (ys.map V.str) ∧ ys[j]? = some z ∧ (∀ m, m < j → ys[m]? ≠ some z) ∧ Q (.int (j : Nat)) H
theorem mt_tupIxQ {X : Cx} : MtR X "tuple.index" (rTIxQ X.K) := mt_tup_index
theorem w_tix {K : PySem.W.Frag} {O : Addr} {ys : List Str} {z : Str} {j : Nat} {H : Hp} {Q : VK} (h : SqT K H O (ys.map V.str)) (h1 : ys[j]? = some z) (h2 : ∀ m, m < j → ys[m]? ≠ some z) (q : Q (.int (j : Nat)) H) : rTIxQ K (.ref O) [.str z] H Q := ⟨O, ys, z, j, rfl, rfl, h, h1, h2, q⟩
theorem w_aug {te : TE} {ti : TIp} {D : Ends} {σ : L2.St} {H : Hp} {i : Nat} {x : V} (h : σ[i]? = some (some x)) (q : te σ H fun y H1 => ti x y H1 fun z H2 => D.nx (σ.set i (some z)) H2) : tAug i te ti D σ H := ⟨x, h, q⟩
theorem w_ipI {f : Int → Int → Int} {i j : Int} {H : Hp} {Q : VK} (q : Q (.int (f i j)) H) : ipI f (.int i) (.int j) H Q := ⟨i, j, rfl, rfl, q⟩
theorem w_lenTs {K : PySem.W.Frag} {p : Addr} {xs : List V} {H : Hp} {Q : VK} (h : SqT K H p xs) (q : Q (.int (xs.length : Int)) H) : rLenQ K [.ref p] H Q := ⟨p, xs, rfl, .inr h, q⟩
theorem w_stR {K : PySem.W.Frag} {p : Addr} {xs : List V} {H : Hp} {B : List V → Prop} (h : H p = some (.lst xs)) (q : B xs) : ∃ p' xs', V.ref p = .ref p' ∧ (SqT K H p' xs' ∨ SqL K H p' xs') ∧ B xs' := ⟨p, xs, rfl, .inr (.of h), q⟩
theorem eqV_str {a b : Str} : eqV (.str a) (.str b) = (a == b) := rfl
theorem w_lix {K : PySem.W.Frag} {p : Addr} {ys : List Str} {z : Str} {j : Nat} {H : Hp} {Q : VK} (h : H p = some (.lst (ys.map V.str))) (h1 : ys[j]? = some z) (h2 : ∀ m, m < j → ys[m]? ≠ some z) (q : Q (.int (j : Nat)) H) : rIndex K (.ref p) [.str z] H Q := by
  refine ⟨p, ys.map V.str, .str z, j, .str z, rfl, rfl, .of h, rfl, ?_, ?_, ?_, fun m y hm hy => ?_, q⟩
  · rw [List.all_eq_true]
    intro v hv
    obtain ⟨s, _, rfl⟩ := List.mem_map.mp hv
    rfl
  · rw [List.getElem?_map, h1]; rfl
  · rw [eqV_str]; exact beq_self_eq_true z
  · rw [List.getElem?_map] at hy
    cases e : ys[m]? with
    | none => rw [e] at hy; cases hy
    | some s =>
      rw [e] at hy
      cases hy
      rw [eqV_str]
      exact beq_eq_false_iff_ne.mpr fun z' => h2 m hm (by rw [e, z'])
theorem _root_.L2.Same.sqT {K : PySem.W.Frag} {H H' : Hp} {a : Addr} {xs : List V} (e : Same H H') (h : SqT K H a xs) : SqT K H' a xs := by
  rcases h with (h | ⟨o, h⟩) | h
  · exact .inl (.inl (e _ _ h))
  · exact .inl (.inr ⟨o, e _ _ h⟩)
  · exact .inr h
theorem w_lenTn {K : PySem.W.Frag} {p : Addr} {xs : List V} {H : Hp} {Q : VK} (n : Nat) (h : SqT K H p xs) (e : xs.length = n) (q : Q (.int (n : Int)) H) : rLenQ K [.ref p] H Q := ⟨p, xs, rfl, .inr h, by rw [e]; exact q⟩
theorem w_bm {K : PySem.W.Frag} {T : String} {r : V → List V → Hp → VK → Prop} {to : TE} {t : TA} {σ : L2.St} {H : Hp} {Q : VK} (q : to σ H fun x H1 => tyV K T x H1 ∧ t σ H1 fun xs H2 => r x xs H2 Q) : tBM K T r to t σ H Q := q
theorem w_tyL {K : PySem.W.Frag} {p : Addr} {xs : List V} {H : Hp} {B : Prop} (h : H p = some (.lst xs)) (q : B) : tyV K "list" (.ref p) H ∧ B := ⟨.inl ⟨rfl, xs, .inl (.inl h)⟩, q⟩
theorem w_append {p : Addr} {xs : List V} {y : V} {H : Hp} {Q : VK} (h : H p = some (.lst xs)) (hl : xs.length < sizeLine) (q : ∀ H', H' p = some (.lst (xs ++ [y])) → But p H H' → Q .non H') : rAppend (.ref p) [y] H Q := ⟨p, xs, y, rfl, rfl, h, hl, q _ upd_same But.set⟩
def rListQ (K : PySem.W.Frag) : List V → Hp → VK → Prop := fun xs H Q => ∃ p ys, xs = [.ref p] ∧ (SqL K H p ys ∨ SqT K H p ys) ∧ ∀ l, H l = none → Q (.ref l) (upd H l (.lst ys))
theorem call_listQ {X : Cx} : CallR X (.type "list") (rListQ X.K) := call_list_of
theorem w_listT {K : PySem.W.Frag} {p : Addr} {ys : List V} {H : Hp} {Q : VK} (h : SqT K H p ys) (q : ∀ l H', H l = none → Same H H' → H' l = some (.lst ys) → Q (.ref l) H') : rListQ K [.ref p] H Q := ⟨p, ys, rfl, .inr h, fun l nl => q l _ nl (Same.new nl) upd_same⟩
theorem w_listL {K : PySem.W.Frag} {p : Addr} {ys : List V} {H : Hp} {Q : VK} (h : SqL K H p ys) (q : ∀ l H', H l = none → Same H H' → H' l = some (.lst ys) → Q (.ref l) H') : rListQ K [.ref p] H Q := ⟨p, ys, rfl, .inl h, fun l nl => q l _ nl (Same.new nl) upd_same⟩
def rTupQ (K : PySem.W.Frag) : List V → Hp → VK → Prop := fun xs H Q => ∃ p ys, xs = [.ref p] ∧ ((SqL K H p ys ∧ ∀ l, H l = none → Q (.ref l) (upd H l (.tup ys))) ∨ (SqT K H p ys ∧ Q (.ref p) H))
theorem call_tupQ {X : Cx} : CallR X (.type "tuple") (rTupQ X.K) := call_tuple_of
theorem w_tupL {K : PySem.W.Frag} {p : Addr} {ys : List V} {H : Hp} {Q : VK} (h : SqL K H p ys) (q : ∀ l H', H l = none → Same H H' → H' l = some (.tup ys) → Q (.ref l) H') : rTupQ K [.ref p] H Q := ⟨p, ys, rfl, .inl ⟨h, fun l nl => q l _ nl (Same.new nl) upd_same⟩⟩
theorem w_sortedSet {w : World} {a : Addr} {S : Int → Bool} {n : Nat} {H : Hp} {Q : VK} (h : H a = some (SetO w a S n)) (hn : n < 64) (q : ∀ (ns : List Int) (p : Addr) H', ns.Pairwise (· < ·) → (∀ k : Int, k ∈ ns ↔ S k = true) → ns.length = n → H p = none → Same H H' → H' p = some (.lst (ns.map V.int)) → Q (.ref p) H') : rSortedSet w [.ref a] H Q :=
  ⟨a, S, n, rfl, h, hn, fun ns p h1 h2 h3 np => q ns p _ h1 h2 h3 np (Same.new np) upd_same⟩
theorem w_star {K : PySem.W.Frag} {te : TE} {t : TA} {σ : L2.St} {H : Hp} {Q : List V → Hp → Prop} (q : te σ H fun x H1 => ∃ p xs, x = V.ref p ∧ (SqT K H1 p xs ∨ SqL K H1 p xs) ∧ t σ H1 fun ys H2 => Q (xs ++ ys) H2) : StX.tStar K te t σ H Q := q
theorem w_inSg {c : Nat} {z : Str} {H : Hp} {Q : VK} (q : Q (.bl (decide (c ∈ z.cps.toList))) H) : Evl0.rInSQ (.str ⟨#[c]⟩) (.str z) H Q := ⟨c, z, rfl, rfl, q⟩
theorem w_eqD {K : PySem.W.Frag} {x y : V} {d : PyData} {H : Hp} {Q : VK} (h1 : Dp K H x d) (h2 : Dp K H y d) (hs : SeqAt.shaped d = true) (q : Q (.bl true) H) : rEqD K x y H Q := ⟨d, d, h1, h2, hs, hs, by rw [SeqAt.eqv_refl _ (SeqAt.canLay_of_shaped hs)]; exact q⟩
theorem w_neD {K : PySem.W.Frag} {x y : V} {d : PyData} {H : Hp} {Q : VK} (h1 : Dp K H x d) (h2 : Dp K H y d) (hs : SeqAt.shaped d = true) (q : Q (.bl false) H) : rNeD K x y H Q := ⟨d, d, h1, h2, hs, hs, by rw [SeqAt.eqv_refl _ (SeqAt.canLay_of_shaped hs)]; exact q⟩
end Co

set_option Elab.async false
set_option linter.all false
set_option maxRecDepth 100000
set_option maxHeartbeats 4000000
namespace Co
open PySem PySem.Spec PyProof.Rows L2
open AutoSeq1 (wpAny_loadPart')
/-! ### enumerate of a tuple -/
abbrev tupIt (t : Addr) : Obj := { cls := .type "tuple_iterator", data := .fields #[.ref t, .int 0 0] }
abbrev enumOb (it : Addr) : Obj := { cls := .type "enumerate", data := .fields #[.none, .bool false, .ref it, rawInt 0, .none, .none] }
theorem iter_tup {prog : Program} {w : World} {A : Around} {E : Value → Shared → Prop} {s : Shared} {t : Addr} {items : Array Value} {Q : Value → Shared → Prop} (h : s.heap.IsTuple t items) (q : Q (.ref s.heap.objs.size) { s with heap := s.heap.push (tupIt t) }) : wpAny (model prog w) A (pyIter (.ref t)) Q E s :=
  (begins_tuple t items).iter prog w A E s Q h q
theorem meets_enumT (t : Addr) (o : Obj) (items : Array Value) (ho : o.cls = .type "tuple") :
    Meets (Builtin.«enumerate.__new__» ⟨[.type "enumerate", .ref t], []⟩) (fun _ R s => (s.heap.get? t = some o ∧ s.heap.IsTuple t items) ∧
      R (.ok (.ret (.ref (s.heap.push (tupIt t)).objs.size))) { s with heap := (s.heap.push (tupIt t)).push (enumOb s.heap.objs.size) }) :=
  .of_wp fun prog w A R s h => by
    obtain ⟨hp, g, d, tk, os⟩ := s; obtain ⟨⟨hl, hT⟩, h⟩ := h
    obtain ⟨c, dct, dt, sl⟩ := o
    replace ho : c = .type "tuple" := ho
    subst ho
    have hsub := sub_enumerate
    wp_walk using wpAny_loadPart' hl
    refine wpAny_stack_any fun st => wpAny_pure ?_
    split
    · rename_i c _ _ _ _ _
      cases (c == Value.type "enumerate")
      · wp_walk using wpAny_loadPart' hl, iter_tup hT
        exact ⟨_, rfl, h⟩
      · wp_walk using wpAny_loadPart' hl, iter_tup hT
        exact ⟨_, rfl, h⟩
    · wp_walk using wpAny_loadPart' hl, iter_tup hT
      exact ⟨_, rfl, h⟩
theorem call_enumT {prog : Program} {w : World} {A : Around} {E : Value → Shared → Prop} {s : Shared} {t : Addr} {items : Array Value} {Q : Value → Shared → Prop} (hT : s.heap.IsTuple t items)
    (q : ∀ h', IsEnum h' (s.heap.objs.size + 1) s.heap.objs.size 0 .none → h'.IsTupleIter s.heap.objs.size t 0 → (∀ b o, s.heap.get? b = some o → h'.get? b = some o) → Q (.ref (s.heap.objs.size + 1)) { s with heap := h' }) :
    wpAny (model prog w) A (call (.type "enumerate") [.ref t]) Q E s := by
  obtain ⟨o, ho, hc, hd⟩ := id hT
  refine callType_new F.called_enumerate (by decide) (F.typeCall_enumerate_1 _) (F.newCall_enumerate_1 _) (fun obj => F.args_object_init_2 obj _) F.entry_enumerate_new (meets_enumT t o items hc) ⟨⟨ho, hT⟩, ?_⟩
  have hz : (s.heap.push (tupIt t)).objs.size = s.heap.objs.size + 1 := Heap.size_push ..
  have he : IsEnum ((s.heap.push (tupIt t)).push (enumOb s.heap.objs.size)) (s.heap.objs.size + 1) s.heap.objs.size 0 .none := by
    have z := Heap.get?_push_size (s.heap.push (tupIt t)) (o := enumOb s.heap.objs.size) rfl
    rw [hz] at z; exact z
  show _ ∧ _
  rw [hz]
  exact ⟨⟨_, he, rfl⟩, q _ he ⟨_, Heap.get?_push_of_some _ (Heap.get?_push_size _ rfl), rfl, rfl⟩ fun b o x => Heap.get?_push_of_some _ (Heap.get?_push_of_some _ x)⟩
def IteT (K : PySem.W.Frag) (a : Addr) : It :=
  ⟨fun i H => ∃ xs x, SqT K H a xs ∧ xs[i]? = some x,
    fun i H v H' => ∃ T x, v = .ref T ∧ H T = none ∧ H' = upd H T (.tup [.int (i : Nat), x]) ∧ ∀ xs, SqT K H a xs → xs[i]? = some x,
    fun i H => ∃ xs, SqT K H a xs ∧ xs.length = i⟩
/-- the two objects of such an enumerate, as they stand before its turn `i` -/
structure EAt (a e it : Addr) (i : Nat) (h : Heap) : Prop where
  num : ∃ old, IsEnum h e it ((i : Nat) : Int) old
  tup : h.IsTupleIter it a i
theorem all2 {p : Addr → Prop} {a b : Addr} (ha : p a) (hb : p b) : ∀ y, y ∈ [a, b] → p y := by simpa using ⟨ha, hb⟩
theorem EAt.small {a e it : Addr} {i : Nat} {h : Heap} (q : EAt a e it i h) : ∀ c, c ∈ [e, it] → c < h.objs.size := by
  obtain ⟨_, q1⟩ := q.num
  obtain ⟨_, q2, _⟩ := q.tup
  exact all2 (Heap.lt_size q1) (Heap.lt_size q2)
theorem turn_enumT {P : Program} {w : World} {K : PySem.W.Frag} {elts : List Expr} {kk : Nat} {tpos : Pos} (a e it : Addr) (na : a ≠ it) (ne : e ≠ it) (nea : e ≠ a) :
    Turn P w K (.Tuple elts kk tpos) (IteT K a) [e, it] e (EAt a e it) where
  mem := List.mem_cons_self
  obj := fun i h q => by
    obtain ⟨_, q1⟩ := q.num
    obtain ⟨_, q2, _, d2⟩ := q.tup
    refine all2 ⟨_, q1, ?_⟩ ⟨_, q2, ?_⟩ <;> intro v z <;> simp_all
  keep := fun i h h' q k => by
    obtain ⟨old, q1⟩ := q.num
    exact ⟨⟨old, k e (by simp) _ q1⟩, q.tup.at (k it (by simp))⟩
  item := by
    rintro X rfl rfl rfl hc i pins s σ H E I hf q ⟨xs, x, hy, hx⟩
    obtain ⟨vs, rv, tv, _⟩ := I.tuple hy
    obtain ⟨old, q1⟩ := q.num
    have sm := q.small
    have hd : X.A.in1.handled = none := I.ok.hd hc
    obtain ⟨u, hu, ru'⟩ := rv.get hx
    have lv : i < vs.toArray.size := by
      have := (List.getElem?_eq_some_iff.mp hu).1
      simpa using this
    refine wpAny_pyNext_enum_itemD (Draws.tuple hd it a na vs.toArray) q1 ⟨q.tup, tv⟩ lv ne (by simpa using ⟨ne, nea⟩) fun y h1 t1 Py o1 f1 new _ kp => ?_
    obtain rfl : u = y := by
      have : vs[i]? = some y := by simpa using Py
      simpa [hu] using this
    refine ⟨_, rfl, wpAny_letOwnedTupleGo_enum (s := { s with heap := h1, toks := t1 + 1 }) o1 fun h2 o2 sb => ?_⟩
    have nt : h2.get? s.heap.objs.size = some { cls := .type "tuple", data := .seq #[.int i t1, u] } :=
      (sb.2 _ (Nat.ne_of_gt (sm e (by simp)))).trans new
    have pair : ObjOk X.prog X.w (upd H s.heap.objs.size (.tup [.int (i : Nat), x])) h2 s.heap.objs.size (.tup [.int (i : Nat), x]) :=
      ⟨(by decide : 2 ≤ sizeLine), [.int i t1, u], .cons ⟨_, rfl⟩ (.cons ru' .nil), ⟨_, nt, rfl, _, rfl⟩⟩
    have kp2 : ∀ c o, c ∉ [e, it] → s.heap.get? c = some o → h2.get? c = some o := fun c o nc z => by
      have nn : c ≠ e ∧ c ≠ it := by simpa [not_or] using nc
      exact (sb.2 c nn.1).trans (kp c o nn.1 nn.2 z)
    have J : L2.Inv X pins σ (upd H s.heap.objs.size (.tup [.int (i : Nat), x])) { s with heap := h2, toks := t1 + 1 } :=
      I.turnedNew (t' := t1 + 1) (ch := [e, it]) kp2 hf (Nat.le_refl _) pair
    refine ⟨.ref s.heap.objs.size, _, J, rfl, ⟨_, x, rfl, I.hok.fresh (Nat.le_refl _), rfl, fun l hl => by obtain rfl := I.tuple_inj hl hy; exact hx⟩, ⟨⟨u, by simpa using o2⟩, f1.1.at fun o z => (sb.2 it ne.symm).trans z⟩, fun c hc => (upd_ne (Nat.ne_of_lt (sm c hc))).trans (hf c hc).1⟩
  done := by
    rintro X rfl rfl rfl hc i pins s σ H E I hf q ⟨xs, hy, hx⟩
    obtain ⟨vs, rv, tv, _⟩ := I.tuple hy
    obtain ⟨old, q1⟩ := q.num
    have lv : vs.toArray.size = i := by simpa [hx] using rv.length.symm
    have hd : X.A.in1.handled = none := I.ok.hd hc
    obtain ⟨r0, r1, _, r3, r4, r5⟩ := hf it (by simp)
    exact wpAny_pyNext_enum_endD (Draws.tuple hd it a na vs.toArray) q1 ⟨by rw [lv]; exact q.tup, tv⟩ fun h' eb => ⟨rfl, I.turned (t' := s.toks) (fun b o hb z => eb b o hb z) r0 r1 r3 r4 r5⟩
  self := fun _ _ _ _ _ q h => by obtain ⟨_, q1⟩ := q.num; exact wpAny_pyIter_enum q1 h
def iEnumT (K : PySem.W.Frag) (ta : TA) : TI := fun σ H R => ta σ H fun vs H1 => ∃ a xs, vs = [.ref a] ∧ SqT K H1 a xs ∧ R (IteT K a) H1
theorem pi_enumT {X : Cx} {e : Expr} {ta : TA} {p pos tpos : Pos} {elts : List Expr} {kk : Nat} (hg : Gl X "enumerate") (hm : X.mg "enumerate" = none) (ha : PA X [e] ta) (hs : starEach [e] X.env = [(false, eval e X.env)] := by rfl) :
    PI X (.Tuple elts kk tpos) (.Call (.Name "enumerate" p) [e] [] pos) (iEnumT X.K ta) where
  run pins s σ H R I h := by
    have go := ha.run pos pins s σ H _ I h
    refine Call_ (ld_blt I hg hm boot_enumerate (PyProof.Rows.callWith_type1 (thn go ?_) hs rfl))
    rintro us s1 ⟨vs, H1, J, r1, a, xs, rfl, hy, q⟩
    match us, r1 with
    | [_], .cons rfl .nil =>
      obtain ⟨its, _, tv, _⟩ := J.tuple hy
      obtain ⟨_, ha, _⟩ := id tv
      have la := Heap.lt_size ha
      let n := s1.heap.objs.size
      have up : ∀ c, c ∈ [n + 1, n] → n ≤ c := all2 (by omega) (by omega)
      refine call_enumT (show s1.heap.IsTuple a its.toArray from tv) fun h' q1 q2 kp => wpAny_pyIter_enum q1 ?_
      exact ⟨n + 1, [n + 1, n], _, _, H1, rfl, J.kept (t' := s1.toks) kp, turn_enumT a (n + 1) n (Nat.ne_of_lt la) (Nat.succ_ne_self n) (Nat.ne_of_gt (Nat.lt_succ_of_lt la)), ⟨⟨.none, q1⟩, q2⟩, fun c hc => J.fpOk (up c hc) (J.hok.fresh (up c hc)), q⟩
def kEnT (K : PySem.W.Frag) (R : It → Hp → Prop) : List V → Hp → Prop := fun vs H1 => ∃ a xs, vs = [.ref a] ∧ SqT K H1 a xs ∧ R (IteT K a) H1
theorem w_iEnT {K : PySem.W.Frag} {ta : TA} {σ : L2.St} {H : Hp} {R : It → Hp → Prop} (q : ta σ H (kEnT K R)) : iEnumT K ta σ H R := q
theorem w_forE {K : PySem.W.Frag} {g : TG} {tb : TS} {D : Ends} {σ : L2.St} {H : Hp} {a : Addr} (xs : List V) (Pv : Nat → L2.St → Hp → Prop) (hq : SqT K H a xs) (h0 : Pv 0 σ H) (hl : ∀ i σ H, Pv i σ H → SqT K H a xs)
    (hs : ∀ i x σ H t H1, xs[i]? = some x → Pv i σ H → H t = none → Same H H1 → H1 t = some (.tup [.int (i : Nat), x]) → g (.ref t) σ H1 fun σ2 H2 => tb { D with nx := Pv (i + 1), ct := Pv (i + 1), bk := D.nx } σ2 H2)
    (hd : ∀ σ H, Pv xs.length σ H → D.nx σ H) : kEnT K (kFor g tb D σ) [.ref a] H := by
  refine ⟨a, xs, rfl, hq, fun i m σ H => m = xs.length - i ∧ i ≤ xs.length ∧ Pv i σ H, ⟨xs.length, by simp, Nat.zero_le _, h0⟩, ?_⟩
  rintro i m σ H ⟨rfl, hi, p⟩
  have q := hl i σ H p
  by_cases hlt : i < xs.length
  · refine .inr ⟨⟨xs, xs[i], q, List.getElem?_eq_getElem hlt⟩, Pv (i + 1), fun σ' H' p' => ⟨xs.length - (i + 1), by omega, rfl, hlt, p'⟩, fun v H' y => ?_⟩
    obtain ⟨T, y, rfl, nT, rfl, hy⟩ := y
    exact hs i y σ H T _ (hy xs q) p nT (Same.new nT) upd_same
  · have e : i = xs.length := by omega
    subst e
    exact .inl ⟨⟨xs, q, rfl⟩, hd σ H p⟩
theorem w_catG {K : PySem.W.Frag} {a b : Addr} {xs ys : List V} {H : Hp} {Q : VK} (h1 : SqT K H a xs) (h2 : SqT K H b ys) (hl : xs.length + ys.length ≤ sizeLine) (q : ∀ p H', Same H H' → SqT K H' p (xs ++ ys) → Q (.ref p) H') : rCatA K (.ref a) (.ref b) H Q :=
  ⟨a, b, xs, ys, rfl, rfl, h1, h2, hl, fun e => q b H (fun _ _ e => e) (by rw [e]; exact h2), fun _ e => q a H (fun _ _ e => e) (by rw [e, List.append_nil]; exact h1), fun _ _ p np => q p _ (Same.new np) (.inl (.inl upd_same))⟩
theorem w_slG {K : PySem.W.Frag} {a : Addr} {xs : List V} {lo hi : Option Int} {H : Hp} {Q : VK} (h : SqT K H a xs) (q : ∀ p H', Same H H' → SqT K H' p (cutV xs lo hi) → Q (.ref p) H') : rSlA K (.ref a) lo hi H Q :=
  ⟨a, xs, rfl, h, fun ⟨e1, e2⟩ => q a H (fun _ _ e => e) (by unfold cutV; rw [e1, e2]; simpa using h), fun _ p np => q p _ (Same.new np) (.inl (.inl upd_same))⟩
end Co

set_option Elab.async false
set_option linter.all false
set_option maxRecDepth 100000
set_option maxHeartbeats 4000000
namespace Co
open PySem PySem.Spec PyProof.Rows L2
/-! ### repr of data at any depth, where nothing is being shown -/
/-- d may be shown: no dict, small ints and letters -/
structure Shw (d : PyData) : Prop where
  show_ : d.showable = true
  dict_ : d.hasDict = false
  deep : d.depth ≤ 64
  len : d.shown.length ≤ sizeLine
def rRepr (K : PySem.W.Frag) : List V → Hp → VK → Prop := fun xs H Q => ∃ a d, xs = [.ref a] ∧ Dp K H (.ref a) d ∧ Shw d ∧ Q (.str d.shown) H
theorem call_reprD {X : Cx} (hg : X.A.guards = some []) (hu : X.A.units + 70 < cLine) : CallR X (.builtin "repr") (rRepr X.K) := by
  intro pins s σ H xs us Q I r h
  obtain ⟨a, d, rfl, hd, S, q⟩ := h
  obtain ⟨u, rfl, rx⟩ := vals1 r
  cases rx
  obtain ⟨as, rd⟩ := Dp.reads I d _ _ hd rfl
  refine repr_of_reads' rd S.show_ (fun z => absurd (S.dict_.symm.trans z) (by decide)) hg (by have := S.deep; omega) (fun b o e => e) (fun h' u tk hk => ⟨.str d.shown, H, I.kept (t' := tk) hk, ⟨u, rfl⟩, q⟩) S.len
theorem w_repr {K : PySem.W.Frag} {a : Addr} {d : PyData} {H : Hp} {Q : VK} (h : Dp K H (.ref a) d) (hs : Shw d) (q : Q (.str d.shown) H) : rRepr K [.ref a] H Q := ⟨a, d, rfl, h, hs, q⟩
/-! ### the law's own run: nothing stands below it -/
def RunG (P : Program) (w : World) (K : PySem.W.Frag) (mg : Str → Option Value) (base : Heap) (f : Addr) (fd : FuncData) (x : Str) (sp : Sp) : Prop :=
  ∀ (s : Shared) (H : Hp) (args : Args) (us : List Value) (vs : List V) (Q : VK), Env0 P w K mg base callerA [] s H → BindsTo s fd args ([x].zip us) → Vals vs us → vs.length = 1 → sp vs H Q E0 → codeAny (model P w) callerA (.call (.ref f) args) (CR CX0 [] P w H s Q E0) s
theorem guards_callerA (env : Env) : (callerA.deeper env).guards = some [] := rfl
theorem runG_of {P : Program} {w : World} {K : PySem.W.Frag} {mg : Str → Option Value} {base : Heap} {x qual par : Str} {st : Stmt} {f : Addr} {fd : FuncData} {N : List Str} {k : Nat} {sp : Sp} (F : Fun K x qual st f fd) (S : FnScope N [par] (defScope st)) (hr : Room (k + 1) callerA)
    (hbody : ∀ (cdv : Value) (s : Shared) (H : Hp) (vs : List V) (Q : VK), Room k (callerA.deeper (envOfC qual (defScope st) s.heap.objs.size f cdv)) → sp vs H Q E0 →
      ∃ t, PSs (cxOf CX0 P w K mg base N qual (defScope st) f cdv callerA [] s H E0).nox (defBody st) t ∧ t { nx := fun _ H' => Q .non H', rt := Q } (start N vs) H) : RunG P w K mg base f fd par sp := by
  obtain ⟨oc, od, kV, doc, pm, an, cdv, ct, osl, rfl, lk, hcd⟩ := F.ex
  intro s H args us vs Q e0 hb r hl hsp
  have keep : ∀ b o, base.get? b = some o → s.heap.get? b = some o := fun b o e => (e0.bs b o e).1
  have KX := e0.mod.kin.keeps keep
  have slots : ∀ y ∈ [par].zip us, (defScope st).names.lookup y.1 = some .local ∨ ((defScope st).names.lookup y.1 = some .cell ∧ ((cellsFrom (s.heap.objs.size + 1) (defScope st).names []).lookup y.1).isSome = true) := by
    rintro ⟨n, v⟩ hy
    have m := S.par n (List.of_mem_zip hy).1
    exact m.imp id fun q => ⟨q, PySem.W.cellsFrom_some _ _ _ (.inl q)⟩
  refine codeAny_call_function hr.depth (KX _ _ lk) rfl S.co S.gen rfl (PySem.W.codeRec_of KX hcd) (hb _ _ _ _ (wpAny_newFunctionEnv_cells S.kind slots fun env he s1 inC => ?_))
  cases he
  obtain ⟨t, ht, hq⟩ := hbody cdv s H vs Q (hr.deeper _) hsp
  have I := inv_start (CX := CX0) (E := E0) (cd := cdv) (qual := qual) S hr.hd e0 hl r inC
  refine ⟨(e0.mod.nolimit.keeps keep).keeps inC.toInCall.keep, codeAny_func (wpAny_mono (ht.nox.run [] s1 (start N vs) H _ I hq) (fun fl s' hs => ?_) fun e s' hs => hs)⟩
  match fl, hs with
  | .ret u, ⟨v, σ', H', J, rv, q⟩ => exact ⟨v, H', J.os, J.bare, J.base, J.hok, rv, q⟩
  | .next, ⟨σ', H', J, q⟩ => exact ⟨V.non, H', J.os, J.bare, J.base, J.hok, rfl, q⟩
  | .brk, ⟨_, _, _, q⟩ => exact False.elim q
  | .cont, ⟨_, _, _, q⟩ => exact False.elim q
/-- how the law's call ends -/
def Ended (s1 : Shared) : Result → Shared → Prop := fun r s' => r = .ok (.ret (.bool true)) ∧ OldK s1.heap s'.heap ∧ s'.os = s1.os ∧ AllBare s'.gens
section
variable {P : Program} {w : World} {K : PySem.W.Frag} {mg mb : Str → Option Value} {fa a : Addr} {fd : FuncData} {x : Str} {sp : Sp} {s1 : Shared} {vs : List Value} {ns : List Int}
/-- from a heap that tracks the script at most -/
theorem call_from (KX : K.In s1.heap) (hns : s1.heap.Ns mainGlobals mg) (hb : s1.heap.Ns builtinsNs mb) (hbb : ∀ y : Str, y ≠ "__name__" → mb y = bootBuiltins y) (hlim : s1.heap.NoLimit) (hg : s1.gens = #[])
    (ha : ∃ xs n, (s1.heap.get? a).map (·.data) = some (.seq xs n)) (F : ∀ base : Heap, K.In base → base.Ns mainGlobals mg → RunG P w K mg base fa fd x sp) (hbind : ∀ (s : Shared) (u : Value), BindsTo s fd ⟨[u], []⟩ [(x, u)])
    {H : Hp} (hO : Only H) (hok : HOk P w H s1.heap) (hA : ∀ b, b ≠ a → H b = none) (hK : H a = none ∨ K.lookup a = none) (hsp : sp [.ref a] H (fun v _ => v = .bl true) E0) :
    codeAny (model P w) callerA (.call (.ref fa) ⟨[.ref a], []⟩) (Ended s1) s1 := by
  have out : ∀ {b : Addr} {o : Obj} {es : Array DictEntry} {ep : Nat}, s1.heap.get? b = some o → o.data = .dict es ep → H b = none := by
    intro b o es ep e d
    by_cases z : b = a
    · subst z
      obtain ⟨xs, n, q⟩ := ha
      rw [e, Option.map_some, d] at q
      cases q
    · exact hA b z
  have nsT : ∀ {b : Addr} {m : Str → Option Value}, s1.heap.Ns b m → (hidT s1.heap H).Ns b m := by
    rintro b m ⟨o, es, ep, e, d, r⟩
    exact ⟨o, es, ep, hidT_get e (out e d), d, r⟩
  have KT : K.In (hidT s1.heap H) := by
    intro b o e
    refine hidT_get (KX b o e) ?_
    by_cases z : b = a
    · subst z
      exact hK.resolve_right fun q => by rw [q] at e; cases e
    · exact hA b z
  obtain ⟨mc, l1, l2⟩ := hlim
  have M : Mod K mg (hidT s1.heap H) := ⟨KT, nsT hns, ⟨mb, nsT hb, hbb⟩, mc, nsT l1, l2⟩
  have e0 : Env0 P w K mg (hidT s1.heap H) callerA [] s1 H := { frames := rfl, mod := M, bs := fun b o e => of_hidT e, bsz := Nat.le_of_eq (hidT_size _ _), funs := trivial, frf := fun b z => absurd (show b ∈ ([] : List Addr) from z) (by simp), hok := hok, bare := .of_eq hg }
  refine codeAny_mono (F _ KT (nsT hns) s1 H _ [.ref a] [.ref a] _ e0 (hbind s1 _) (.cons rfl .nil) rfl hsp) ?_
  rintro (e | fl) s' h
  · exact h.elim
  · match fl, h with
    | .ret u, ⟨v, H', os, bare, un, hok', r', q⟩ =>
      cases (show v = .bl true from q)
      cases (show u = Value.bool true from r')
      refine ⟨rfl, OldK.of_keep fun b o e => ?_, os, bare⟩
      rcases hO b with z | ⟨ob, xs, z⟩
      · exact un.keep b o e z (fun m => nomatch m) (fun m => nomatch m)
      · have e1 := (hok b _ z).1
        have e2 := (hok' b _ (un.frzs b ob _ z)).1
        cases e.symm.trans e1
        exact e2
theorem law_callG (KX : K.In s1.heap) (hns : s1.heap.Ns mainGlobals mg) (hb : s1.heap.Ns builtinsNs mb) (hbb : ∀ y : Str, y ≠ "__name__" → mb y = bootBuiltins y) (hlim : s1.heap.NoLimit) (hg : s1.gens = #[])
    (ha : s1.heap.get? a = some { cls := .type "list", data := .seq vs.toArray }) (hi : IntsAre vs ns) (hl : ns.length ≤ sizeLine) (F : ∀ base : Heap, K.In base → base.Ns mainGlobals mg → RunG P w K mg base fa fd x sp) (hbind : ∀ (s : Shared) (u : Value), BindsTo s fd ⟨[u], []⟩ [(x, u)])
    (hsp : ∀ H : Hp, Only H → SqL K H a (ns.map V.int) → sp [.ref a] H (fun v _ => v = .bl true) E0) : codeAny (model P w) callerA (.call (.ref fa) ⟨[.ref a], []⟩) (Ended s1) s1 := by
  have rv := vals_ints hi
  have hl' : vs.toArray.size ≤ sizeLine := by rw [List.size_toArray, hi.length]; exact hl
  have haq : ∃ xs n, (s1.heap.get? a).map (·.data) = some (.seq xs n) := ⟨_, _, by rw [ha]; rfl⟩
  cases hk : K.lookup a with
  | some o =>
    have e := (KX a o hk).symm.trans ha
    cases e
    have O : Only fun _ => none := fun _ => .inl rfl
    exact call_from KX hns hb hbb hlim hg haq F hbind O (fun b u z => by cases z) (fun _ _ => rfl) (.inl rfl) (hsp _ O (.inr ⟨_, vs.toArray, _, hk, rfl, rfl, rfl, hl', by simpa using rv⟩))
  | none =>
    let fz : HO := .frz { cls := .type "list", data := .seq vs.toArray } (.lst (ns.map V.int))
    have at_a : ∀ {b : Addr} {u : HO}, (if b = a then some fz else none) = some u → b = a ∧ u = fz := by
      intro b u z
      by_cases q : b = a
      · rw [if_pos q] at z; exact ⟨q, (Option.some.inj z).symm⟩
      · rw [if_neg q] at z; cases z
    have O : Only fun b => if b = a then some fz else none := fun b => by
      by_cases q : b = a
      · exact .inr ⟨_, _, if_pos q⟩
      · exact .inl (if_neg q)
    refine call_from KX hns hb hbb hlim hg haq F hbind O (fun b u z => ?_) (fun b q => if_neg q) (.inr hk) (hsp _ O (.inl (.inr ⟨_, if_pos rfl⟩)))
    obtain ⟨rfl, rfl⟩ := at_a z
    exact ⟨ha, by rw [List.length_map]; exact hl, vs, _, rv, ha⟩
end
/-- the goal that k_head leaves, from the law's run -/
theorem walk_ofG {l : PySem.W.OpenLaw} {n : Nat} {q : Program} {loose : List Str} {XP : (Str → Option Value) → Heap → Prop} {YP : World → Heap → Prop} {d : DefRec} {K : Params → PySem.W.Frag} {sp : World → Sp} {x : Str}
    (hn : l.most = some n) (hn2 : n ≤ sizeLine) (hdf : d.params.defaults = []) (hY : ∀ (w : World) (h : Heap), YP w h → (K w.params).In h)
    (F : ∀ (w : World) (mg : Str → Option Value) (fa : Addr) (h : Heap), (K w.params).In h → h.Ns mainGlobals mg → mg d.name = some (.ref fa) →
      ∃ fd : FuncData, (∀ (s : Shared) (u : Value), BindsTo s fd ⟨[u], []⟩ [(x, u)]) ∧ ∀ base : Heap, (K w.params).In base → base.Ns mainGlobals mg → RunG l.prog w (K w.params) mg base fa fd x (sp w))
    (hsp : ∀ (w : World) (H : Hp) (a : Addr) (ns : List Int), ns.length ≤ n → Only H → SqL (K w.params) H a (ns.map V.int) → sp w [.ref a] H (fun v _ => v = .bl true) E0) :
    PySem.W.WalkO q loose XP YP l.row.toRowW d [] (fun f vs => PySem.call f vs) := by
  refine Att.attach_call hn hdf fun w _ s1 mg mb fa o pm cd doc a vs ns G Y _ _ _ hmg hobj hints hlen hg => ?_
  have KX := hY w _ Y
  obtain ⟨fd, hb, hF⟩ := F w mg fa _ KX G.T.g hmg
  exact law_callG KX G.T.g G.T.b G.T.builtins G.T.nolimit hg hobj hints (Nat.le_trans hlen hn2) hF hb fun H hO hS => hsp w H a ns hlen hO hS
end Co
namespace Co
open PySem PySem.Spec PyProof.Rows L2
section
variable {X : Cx} {K' : PySem.W.Frag}
theorem call_tupQK (hK : X.K = K') : CallR X (.type "tuple") (rTupQ K') := by subst hK; exact call_tupQ
theorem call_listQK (hK : X.K = K') : CallR X (.type "list") (rListQ K') := by subst hK; exact call_listQ
end
theorem hu70 {A : Around} {k : Nat} (hr : Room k A) : A.units + 70 < cLine := by have := hr.un; omega
end Co
namespace Co
open PySem PySem.Spec PyProof.Rows L2
/-! ### data of rows of ints -/
theorem lay_ints : ∀ xs : List Int, PyData.canLayAll0 (xs.map .int) = true ∧ PyData.depthAll (xs.map .int) = 0
  | [] => by simp [PyData.canLayAll0, PyData.depthAll]
  | x :: r => by
    have := lay_ints r
    simp [PyData.canLayAll0, PyData.depthAll, PyData.canLay0, PyData.depth, this.1, this.2]
theorem dpInts {K : PySem.W.Frag} {H : Hp} : ∀ xs : List Int, DpAll K H (xs.map V.int) (xs.map .int)
  | [] => .nil
  | x :: r => .cons (.int x) (dpInts r)
def rowD (bs : List Int) : PyData := .tuple (bs.map .int)
def rowsD (B : List (List Int)) : PyData := .tuple (B.map rowD)
theorem dpRow {K : PySem.W.Frag} {H : Hp} {a : Addr} {bs : List Int} (h : SqT K H a (bs.map V.int)) : Dp K H (.ref a) (rowD bs) := .tup h (dpInts bs)
theorem dpAllRows {K : PySem.W.Frag} {H : Hp} : ∀ (as : List V) (B : List (List Int)), as.length = B.length → (∀ (j : Nat) (v : V) (bs : List Int), as[j]? = some v → B[j]? = some bs → ∃ a, v = V.ref a ∧ SqT K H a (bs.map V.int)) → DpAll K H as (B.map rowD)
  | [], [], _, _ => .nil
  | [], _ :: _, e, _ => by cases e
  | _ :: _, [], e, _ => by cases e
  | v :: as, bs :: B, e, h => by
    obtain ⟨a, rfl, q⟩ := h 0 v bs rfl rfl
    exact .cons (dpRow q) (dpAllRows as B (Nat.succ.inj e) fun j v' bs' h1 h2 => h (j + 1) v' bs' h1 h2)
theorem lay_rows : ∀ B : List (List Int), PyData.canLayAll0 (B.map rowD) = true ∧ PyData.depthAll (B.map rowD) ≤ 1
  | [] => by simp [PyData.canLayAll0, PyData.depthAll]
  | x :: r => by
    obtain ⟨h1, h2⟩ := lay_rows r
    obtain ⟨l1, l2⟩ := lay_ints x
    constructor
    · simp only [List.map_cons, PyData.canLayAll0, rowD, PyData.canLay0, l1, Bool.true_and]
      exact h1
    · simp only [List.map_cons, PyData.depthAll, rowD, PyData.depth, l2]
      have : PyData.depthAll (List.map (fun bs => PyData.tuple (List.map PyData.int bs)) r) ≤ 1 := h2
      omega
theorem rows_shaped (B : List (List Int)) : SeqAt.shaped (rowsD B) = true := by
  have l := lay_rows B
  simp only [SeqAt.shaped, rowsD, PyData.canLay0, PyData.depth, l.1, Bool.true_and, decide_eq_true_eq]
  omega
end Co

set_option Elab.async false
set_option linter.all false
set_option maxRecDepth 100000
set_option maxHeartbeats 4000000
namespace Co
open PySem PySem.Spec PyProof.Rows L2
/-! ### data small enough to be shown and compared -/
structure SmD (n k : Nat) (d : PyData) : Prop where
  lay : d.canLay0 = true
  sh : d.intsShort 13 = true
  shw : d.showable = true
  w : d.weight + 1 ≤ n
  dp : d.depth ≤ k
structure SmAll (n k : Nat) (ds : List PyData) : Prop where
  lay : PyData.canLayAll0 ds = true
  sh : PyData.intsShortAll 13 ds = true
  shw : PyData.showableAll ds = true
  w : PyData.weightAll ds ≤ n
  dp : PyData.depthAll ds ≤ k
theorem SmD.shaped {n k : Nat} {d : PyData} (h : SmD n k d) (hk : k ≤ 64) : SeqAt.shaped d = true := by
  have := h.dp
  unfold SeqAt.shaped
  rw [h.lay, Bool.true_and, decide_eq_true_eq]
  omega
theorem SmD.shown {n k : Nat} {d : PyData} (h : SmD n k d) (hk : k ≤ 64) (hn : n ≤ 1048577) : Shw d := by
  have := h.dp
  have hw := h.w
  exact ⟨h.shw, PyData.hasDict_of_canLay d h.lay, by omega, PyData.shown_fits (B := 13) (by decide) (by decide) (PyData.leavesShort_of_canLay0 13 d h.lay h.sh) (by rw [show (2 : Nat) ^ 20 = 1048576 from rfl]; omega)⟩
theorem SmAll.nil {k : Nat} : SmAll 0 k [] := ⟨by simp [PyData.canLayAll0], by simp [PyData.intsShortAll], by simp [PyData.showableAll], by simp [PyData.weightAll], by simp [PyData.depthAll]⟩
theorem SmAll.cons {n m k : Nat} {d : PyData} {ds : List PyData} (h : SmD n k d) (hs : SmAll m k ds) : SmAll (n + m) k (d :: ds) := by
  have h1 := h.w; have h2 := hs.w; have h3 := h.dp; have h4 := hs.dp
  refine ⟨by simp [PyData.canLayAll0, h.lay, hs.lay], by simp [PyData.intsShortAll, h.sh, hs.sh], by simp [PyData.showableAll, h.shw, hs.shw], ?_, ?_⟩
  · simp only [PyData.weightAll]; omega
  · simp only [PyData.depthAll]; omega
theorem SmAll.tup {n k : Nat} {ds : List PyData} (h : SmAll n k ds) : SmD (n + 1) (k + 1) (.tuple ds) := by
  have h2 := h.w; have h4 := h.dp
  exact ⟨by simpa [PyData.canLay0] using h.lay, by simpa [PyData.intsShort] using h.sh, by simpa [PyData.showable] using h.shw, by simp only [PyData.weight]; omega, by simp only [PyData.depth]; omega⟩
theorem SmAll.lst {n k : Nat} {ds : List PyData} (h : SmAll n k ds) : SmD (n + 1) (k + 1) (.list ds) := by
  have h2 := h.w; have h4 := h.dp
  exact ⟨by simpa [PyData.canLay0] using h.lay, by simpa [PyData.intsShort] using h.sh, by simpa [PyData.showable] using h.shw, by simp only [PyData.weight]; omega, by simp only [PyData.depth]; omega⟩
theorem SmD.int {k : Nat} {i : Int} (h : i.natAbs < 1000000000000) : SmD 41 k (.int i) := by
  have hl : i.natAbs ≠ 0 → i.natAbs.log2 < 40 := fun z => (Nat.log2_lt z).2 (Nat.lt_trans h (by decide))
  refine ⟨by simp [PyData.canLay0], ?_, ?_, ?_, by simp [PyData.depth]⟩
  · simp only [PyData.intsShort, decide_eq_true_eq]; exact PyData.shown_int_le h
  · simp only [PyData.showable, decide_eq_true_eq]
    by_cases z : i.natAbs = 0
    · rw [z]; decide
    · exact Nat.lt_trans (hl z) (by decide)
  · simp only [PyData.weight]
    split
    · omega
    · rename_i z
      have := hl (by intro q; apply z; simp; omega)
      omega
theorem SmD.bool {k : Nat} (b : Bool) : SmD 1 k (.bool b) := ⟨by simp [PyData.canLay0], by simp [PyData.intsShort], by simp [PyData.showable], by simp [PyData.weight], by simp [PyData.depth]⟩
theorem SmD.non {k : Nat} : SmD 1 k .none := ⟨by simp [PyData.canLay0], by simp [PyData.intsShort], by simp [PyData.showable], by simp [PyData.weight], by simp [PyData.depth]⟩
theorem SmD.str {k m : Nat} {x : Str} (h : PyData.strOk x = true) (hm : x.cps.size ≤ m) : SmD (m + 1) k (.str x) := ⟨by simpa [PyData.canLay0] using h, by simp [PyData.intsShort], by simp [PyData.showable], by simp only [PyData.weight]; omega, by simp [PyData.depth]⟩
theorem SmD.mono {n k n' k' : Nat} {d : PyData} (h : SmD n k d) (hn : n ≤ n') (hk : k ≤ k') : SmD n' k' d := ⟨h.lay, h.sh, h.shw, Nat.le_trans h.w hn, Nat.le_trans h.dp hk⟩
theorem SmAll.mono {n k n' k' : Nat} {ds : List PyData} (h : SmAll n k ds) (hn : n ≤ n') (hk : k ≤ k') : SmAll n' k' ds := ⟨h.lay, h.sh, h.shw, Nat.le_trans h.w hn, Nat.le_trans h.dp hk⟩
theorem SmAll.all {n k : Nat} : ∀ {ds : List PyData}, (∀ d ∈ ds, SmD n k d) → SmAll (n * ds.length) k ds
  | [], _ => SmAll.nil
  | d :: ds, h => ((SmAll.cons (h d (by simp)) (SmAll.all fun e he => h e (by simp [he])))).mono (by rw [List.length_cons, Nat.mul_add]; omega) (Nat.le_refl _)
theorem SmAll.ints {k : Nat} {xs : List Int} (h : ∀ x ∈ xs, x.natAbs < 1000000000000) : SmAll (41 * xs.length) k (xs.map .int) := by
  have := SmAll.all (n := 41) (k := k) (ds := xs.map .int) fun d hd => by
    obtain ⟨x, hx, rfl⟩ := List.mem_map.mp hd
    exact SmD.int (h x hx)
  rw [List.length_map] at this
  exact this
theorem SmD.row {k : Nat} {xs : List Int} (h : ∀ x ∈ xs, x.natAbs < 1000000000000) : SmD (41 * xs.length + 1) (k + 1) (rowD xs) := (SmAll.ints h).tup
end Co


set_option Elab.async false
set_option linter.all false
set_option maxRecDepth 100000
set_option maxHeartbeats 4000000
open PySem PySem.Spec PyProof.Rows L2 Co
local macro_rules | `(tactic| walk_at "side") => `(tactic| first | assumption | (refine wide_div (b := 40) ?_ (show _ < 1099511627776 from ?_) (by decide) (by decide) <;> omega) | (dsimp only [CDiv, CPow, CMul, CDivW, CMulW]; omega) | omega | decide)
local macro_rules | `(tactic| walk_at "w1") => `(tactic| first
  | ((with_reducible refine' w_var ?hv ?_); (case hv => exact rfl))
  | (with_reducible refine w_c ?_)
  | (with_reducible refine w_op ?_)
  | (with_reducible refine w_un ?_)
  | (with_reducible refine w_I0 ?_)
  | (with_reducible refine w_p32 ?_)
  | (with_reducible refine w_p31 ?_)
  | (with_reducible refine w_p26 ?_)
  | (with_reducible refine w_p22 ?_)
  | (with_reducible refine w_p20 ?_)
  | (with_reducible refine w_p18 ?_)
  | (with_reducible refine w_p17 ?_)
  | (with_reducible refine w_p16 ?_)
  | (with_reducible refine w_p14 ?_)
  | (with_reducible refine w_p13 ?_)
  | ((with_reducible refine w_I ?hc ?_); (case hc => walk_at "side"))
  | (with_reducible refine w_U ?_)
  | (with_reducible refine w_eqI ?_)
  | (with_reducible refine w_neI ?_)
  | (with_reducible refine w_eqS ?_)
  | ((with_reducible refine w_eq ?hc ?_); (case hc => exact rfl))
  | ((with_reducible refine w_ne ?hc ?_); (case hc => exact rfl))
  | (with_reducible refine w_test ?_)
  | (with_reducible refine w_B ?_)
  | (with_reducible refine w_bl ?_)
  | (with_reducible refine w_if ?_)
  | (with_reducible refine w_ifB ?_)
  | (with_reducible refine w_isB ?_)
  | (with_reducible refine w_notB ?_)
  | (with_reducible refine w_isiInt ?_)
  | (with_reducible refine w_isiIntB ?_)
  | (with_reducible refine w_andT ?_)
  | (with_reducible refine w_orT ?_)
  | (with_reducible refine w_notT ?_)
  | (with_reducible refine w_andV ?_)
  | (with_reducible refine w_orV ?_)
  | (with_reducible refine w_notV ?_)
  | (with_reducible refine w_chain ?_)
  | (with_reducible refine w_seq ?_)
  | (with_reducible refine w_next ?_)
  | (with_reducible refine w_ret ?_)
  | (with_reducible refine w_retN ?_)
  | (with_reducible refine w_ifS ?_)
  | (with_reducible refine w_asg ?_)
  | (with_reducible refine w_name ?_)
  | (with_reducible refine w_drop ?_)
  | (with_reducible refine w_nil ?_)
  | (with_reducible refine w_cons ?_)
  | (with_reducible refine w_call ?_)
  | (with_reducible refine w_cb ?_)
  | (with_reducible refine w_sub ?_)
  | (with_reducible refine w_gNil ?_)
  | (with_reducible refine w_gCons ?_)
  | ((with_reducible refine' w_gTup ?hh ?hn ?_); (case hh => assumption); (case hn => exact rfl))
  | (with_reducible refine w_for ?_)
  | (with_reducible refine w_iL ?_)
  | (with_reducible refine w_iT ?_)
  | (with_reducible refine w_rng1 ?_)
  | (with_reducible refine w_rng2 ?_)
  | (with_reducible refine w_lc ?_)
  | (with_reducible refine w_zST ?_)
  | (with_reducible refine w_sc ?_)
  | ((with_reducible refine' w_aug ?hh ?_); (case hh => exact rfl))
  | (with_reducible refine w_ipI ?_)
  | (with_reducible refine w_iSt ?_)
  | (with_reducible refine w_sl ?_)
  | (with_reducible refine w_part ?_)
  | (with_reducible refine w_noPart ?_)
  | (with_reducible refine w_exI ?_)
  | (with_reducible refine w_m1 ?_)
  | (with_reducible refine w_isS ?_)
  | (with_reducible refine w_starts ?_)
  | (with_reducible refine w_bm ?_)
  | ((with_reducible refine' w_tyL ?hh ?_); (case hh => assumption))
  | (with_reducible refine w_star ?_)
  | (with_reducible refine w_inSg ?_)
  | (with_reducible refine w_yes ?_)
  | (with_reducible refine w_tup ?_)
  | (with_reducible refine w_lst ?_)
  | ((with_reducible refine' w_ixL ?hh ?ha ?_); (case hh => assumption); (case ha => exact rfl))
  | ((with_reducible refine' w_ixT ?hh ?ha ?_); (case hh => assumption); (case ha => exact rfl))
  | ((with_reducible refine' w_setL ?hh ?ha ?_); (case hh => assumption); (case ha => exact rfl))
  | ((with_reducible refine' w_lenL ?hh ?_); (case hh => assumption))
  | (with_reducible refine w_int1 ?_)
  | (with_reducible refine w_abs ?_)
  | (with_reducible refine w_nT ?_)
  | (with_reducible refine w_nF ?_)
  | (with_reducible refine w_itT ?_)
  | (with_reducible refine w_itF ?_)
  | ((with_reducible refine w_spI1 ?hc ?_); (case hc => walk_at "side"))
  | ((with_reducible refine w_spI2 ?hc ?_); (case hc => walk_at "side")))
local macro_rules | `(tactic| walk_at "ws") => `(tactic| repeat (walk_at "w1"))
local macro_rules | `(tactic| walk_at "wd") => `(tactic| repeat (first | walk_at "w1" | (refine w_decT ?hd ?_; (case hd => decide)) | (refine w_decF ?hd ?_; (case hd => decide))))
local macro_rules | `(tactic| walk_at "wr") => `(tactic| repeat (first | walk_at "w1" | (refine w_ndecF rfl ?_)))

namespace K03
def topS (i : Nat) : Stmt := PySem.Challenge.pw_restitch_k03_accesses_of_memory.main.body.getD i (.Pass ⟨0, 0, 0, 0⟩)
abbrev s_find_segment : Stmt := topS 1
abbrev s_can_load : Stmt := topS 2
abbrev s_can_store : Stmt := topS 3
abbrev s_can_fetch : Stmt := topS 4
abbrev s_load_word : Stmt := topS 5
abbrev s_store_word : Stmt := topS 6
abbrev s_put_bytes : Stmt := topS 7
abbrev s_first_memory : Stmt := topS 8
abbrev s_word_at : Stmt := topS 9
abbrev s_law_draw : Stmt := topS 11
abbrev s_law_take : Stmt := topS 12
abbrev s_law_ops : Stmt := topS 13
abbrev s_law_word : Stmt := topS 14
abbrev s_law_bytes : Stmt := topS 15
abbrev s_law_label : Stmt := topS 16
abbrev s_law_here : Stmt := topS 17
abbrev s_law_put_word : Stmt := topS 18
abbrev s_law_some : Stmt := topS 19
abbrev s_law_register : Stmt := topS 20
abbrev s_law_set : Stmt := topS 21
abbrev s_law_alu : Stmt := topS 22
abbrev s_law_memory : Stmt := topS 23
abbrev s_law_if : Stmt := topS 24
abbrev s_law_loop : Stmt := topS 25
abbrev s_law_call : Stmt := topS 26
abbrev s_law_switch : Stmt := topS 27
abbrev s_law_rows : Stmt := topS 28
abbrev s_law_odd : Stmt := topS 29
abbrev s_law_code_words : Stmt := topS 30
abbrev s_law_values : Stmt := topS 31
abbrev s_law_image : Stmt := topS 32
abbrev s_law_home : Stmt := topS 33
abbrev s_law_address : Stmt := topS 34
abbrev s_law_access_right : Stmt := topS 35
abbrev s_law : Stmt := topS 36
theorem sc_law_draw : FnScope ["script", "seed", "cell"] ["script"] (defScope s_law_draw) := ⟨rfl, rfl, rfl, by decide +kernel, rfl, by decide +kernel, by decide +kernel⟩
theorem sc_law_take : FnScope ["draw", "many", "found"] ["draw", "many"] (defScope s_law_take) := ⟨rfl, rfl, rfl, by decide +kernel, rfl, by decide +kernel, by decide +kernel⟩
/-! drawing -/
def mabs (n : Int) : Int := if n < 0 then -n else n
theorem mabs_nn (n : Int) : 0 ≤ mabs n := by unfold mabs; split <;> omega
def DrawC (H : Hp) (d c : Addr) : Prop := ∃ (cs : List Int) (i cur seed : Int), H d = some (.lst [.ref c, .int i, .int cur, .int seed]) ∧ H c = some (.lst (cs.map V.int)) ∧ c ≠ d ∧ -1 ≤ i ∧ 0 ≤ cur ∧ 0 ≤ seed ∧ seed < 2147483647 ∧ ∀ x ∈ cs, 0 ≤ x
theorem DrawC.keep {H H' : Hp} {d c : Addr} (h : DrawC H d c) (s1 : ∀ o, H d = some o → H' d = some o) (s2 : ∀ o, H c = some o → H' c = some o) : DrawC H' d c := by
  obtain ⟨cs, i, cur, seed, hd, hc, r⟩ := h
  exact ⟨cs, i, cur, seed, s1 _ hd, s2 _ hc, r⟩
theorem DrawC.same {H H' : Hp} {d c : Addr} (h : DrawC H d c) (s : Same H H') : DrawC H' d c := h.keep (s d) (s c)
theorem DrawC.ne {H : Hp} {d c p : Addr} (h : DrawC H d c) (np : H p = none) : p ≠ d := by
  obtain ⟨cs, i, cur, seed, e, _⟩ := h
  exact (ne_of_none e np).symm
theorem DrawC.nec {H : Hp} {d c p : Addr} (h : DrawC H d c) (np : H p = none) : p ≠ c := by
  obtain ⟨cs, i, cur, seed, _, e, _⟩ := h
  exact (ne_of_none e np).symm
def spDraw (K : PySem.W.Frag) : Sp := fun vs H Q _ => ∃ (a : Addr) (ns : List Int), vs = [.ref a] ∧ SqL K H a (ns.map V.int) ∧ ns.length ≤ 63 ∧ ∀ (d c : Addr) H', H d = none → H c = none → Same H H' → DrawC H' d c → Q (.ref d) H'
def spTake : Sp := fun vs H Q _ => ∃ (d c : Addr) (m : Int), vs = [.ref d, .int m] ∧ DrawC H d c ∧ 0 < m ∧ m ≤ 4294967296 ∧ ∀ (r : Int) H', 0 ≤ r → r < m → DrawC H' d c → But d H H' → Q (.int r) H'
theorem w_take {H : Hp} {Q : VK} {E : XK} {d c : Addr} {m : Int} (hd : DrawC H d c) (h0 : 0 < m) (h1 : m ≤ 4294967296) (q : ∀ (r : Int) H', 0 ≤ r → r < m → DrawC H' d c → But d H H' → Q (.int r) H') : spTake [.ref d, .int m] H Q E := ⟨d, c, m, rfl, hd, h0, h1, q⟩
section
variable {P : Program} {w : World} {K : PySem.W.Frag} {mg : Str → Option Value} {base : Heap}
theorem ok_take (b_int : mg "int" = none) (b_abs : mg "abs" = none) (b_len : mg "len" = none) (Z : St1 K mg "_law_take" s_law_take ["draw", "many"]) : Cd P w K mg base 1 "_law_take" spTake := by
  refine Z.cd sc_law_take (fun vs H Q E h => by obtain ⟨d, c, m, rfl, _⟩ := h; rfl) (fun f cdv A outer s H vs Q E hr h => ?_)
  obtain ⟨d, c, m, rfl, ⟨cs, i, cur, seed, hd, hc, ncd, hi, hcur, hs0, hs1, hcs⟩, hm0, hm1, q⟩ := h
  refine ⟨_, (Evl.pss_cut (ps_if (pt_cmpR op_eq (pe_ix ix_list (pv 0) pe_int (fun _ _ => rfl)) pe_int (nomark _)) (pss_cons (ps_asg (pe_op op_add (pe_ix ix_list (pv 0) pe_int (fun _ _ => rfl)) pe_int) (pg_sub (pv 0) pe_int set_list))
      (Evl.pss_cut (ps_if (pt_cmpR op_lt (pe_ix ix_list (pv 0) pe_int (fun _ _ => rfl)) (pe_callB call_lenQ (by rfl) b_len PySem.boot_len (pa_cons (pe_ix ix_list (pv 0) pe_int (fun _ _ => rfl)) pa_nil)) (nomark _)) (pss_one (ps_asg (pe_ix ix_list (pe_ix ix_list (pv 0) pe_int (fun _ _ => rfl)) (pe_ix ix_list (pv 0) pe_int (fun _ _ => rfl)) (fun _ _ => rfl)) (pg_sub (pv 0) pe_int set_list))) pss_nil)
      (pss_one (ps_if (pt_cmpR op_eq (pe_ix ix_list (pv 0) pe_int (fun _ _ => rfl)) pe_int (nomark _)) (pss_cons (ps_asg (pe_op op_mod (pe_callTy call_intQ (by rfl) b_int (by decide +kernel) (pa_cons (pe_op op_add (pe_op op_mul (pe_ix ix_list (pv 0) pe_int (fun _ _ => rfl)) pe_int) pe_int) pa_nil)) pe_int) (pg_sub (pv 0) pe_int set_list))
      (pss_one (ps_asg (pe_ix ix_list (pv 0) pe_int (fun _ _ => rfl)) (pg_sub (pv 0) pe_int set_list)))) pss_nil)))) pss_nil)
      (pss_cons (ps_set (i := 2) sc_law_take.nd rfl (.inl rfl) (pe_op op_mod (pe_callTy call_intQ (by rfl) b_int (by decide +kernel) (pa_cons (pe_ix ix_list (pv 0) pe_int (fun _ _ => rfl)) pa_nil)) (pv 1)))
      (pss_cons (ps_asg (pe_op op_fdivW (pe_ix ix_list (pv 0) pe_int (fun _ _ => rfl)) (pv 1)) (pg_sub (pv 0) pe_int set_list))
      (pss_one (ps_ret (pv 2)))))), ?_⟩
  refine Evl.q_cut (M := fun σ' H' => σ' = [some (.ref d), some (.int m), none] ∧ But d H H' ∧ ∃ i' cur' seed', H' d = some (.lst [.ref c, .int i', .int cur', .int seed']) ∧ H' c = some (.lst (cs.map V.int)) ∧ -1 ≤ i' ∧ 0 ≤ cur' ∧ 0 ≤ seed' ∧ seed' < 2147483647) ?_ ?_
  · walk_at "ws"
    refine w_dec (fun e => ?_) (fun e => ?_)
    · walk_at "ws"
      intro H1 hd1 bt1
      replace hd1 : H1 d = some (.lst [.ref c, .int (i + 1), .int cur, .int seed]) := hd1
      have hc1 : H1 c = some (.lst (cs.map V.int)) := bt1 c _ ncd hc
      walk_at "ws"
      refine Evl.q_cut (M := fun σ' H' => σ' = [some (.ref d), some (.int m), none] ∧ But d H H' ∧ ∃ cur', H' d = some (.lst [.ref c, .int (i + 1), .int cur', .int seed]) ∧ 0 ≤ cur') ?_ ?_
      · walk_at "ws"
        refine w_dec (fun e2 => ?_) (fun e2 => ?_)
        · walk_at "ws"
          have l1 : (cs.map V.int).length = cs.length := List.length_map ..
          have hlt : (i + 1).toNat < cs.length := by omega
          refine w_ixL (v := .int cs[(i + 1).toNat]) hc1 (atI_of (by omega) ?_) ?_
          · rw [List.getElem?_map, List.getElem?_eq_getElem hlt]; rfl
          walk_at "ws"
          intro H2 hd2 bt2
          walk_at "ws"
          exact ⟨rfl, bt1.trans bt2, _, hd2, hcs _ (List.getElem_mem hlt)⟩
        · walk_at "ws"
          exact ⟨rfl, bt1, cur, hd1, hcur⟩
      · rintro σ' H2 ⟨rfl, bt2, cur2, hd2, hcur2⟩
        walk_at "ws"
        have hc2 : H2 c = some (.lst (cs.map V.int)) := bt2 c _ ncd hc
        refine w_dec (fun e2 => ?_) (fun e2 => ?_)
        · walk_at "ws"
          intro H3 hd3 bt3
          replace hd3 : H3 d = some (.lst [.ref c, .int (i + 1), .int cur2, .int ((seed * 48271 + 11) % 2147483647)]) := hd3
          walk_at "ws"
          intro H4 hd4 bt4
          replace hd4 : H4 d = some (.lst [.ref c, .int (i + 1), .int ((seed * 48271 + 11) % 2147483647), .int ((seed * 48271 + 11) % 2147483647)]) := hd4
          have g1 : 0 ≤ (seed * 48271 + 11) % 2147483647 := Int.emod_nonneg _ (by omega)
          have g2 : (seed * 48271 + 11) % 2147483647 < 2147483647 := Int.emod_lt_of_pos _ (by omega)
          exact ⟨rfl, bt2.trans (bt3.trans bt4), _, _, _, hd4, bt4 c _ ncd (bt3 c _ ncd hc2), by omega, g1, g1, g2⟩
        · walk_at "ws"
          exact ⟨rfl, bt2, _, _, _, hd2, hc2, by omega, hcur2, hs0, hs1⟩
    · walk_at "ws"
      exact ⟨rfl, But.refl _ _, i, cur, seed, hd, hc, hi, hcur, hs0, hs1⟩
  · rintro σ' H' ⟨rfl, bt, i', cur', seed', hd', hc', hi', hcur', hs0', hs1'⟩
    walk_at "ws"
    intro H1 hd1 bt1
    replace hd1 : H1 d = some (.lst [.ref c, .int i', .int (cur' / m), .int seed']) := hd1
    walk_at "ws"
    refine q (cur' % m) H1 (Int.emod_nonneg _ (by omega)) (Int.emod_lt_of_pos _ hm0) ⟨cs, i', cur' / m, seed', hd1, bt1 c _ ncd hc', ncd, hi', Int.ediv_nonneg hcur' (by omega), hs0', hs1', hcs⟩ (bt.trans bt1)
theorem ok_draw (b_int : mg "int" = none) (b_abs : mg "abs" = none) (b_len : mg "len" = none) (Z : St1 K mg "_law_draw" s_law_draw ["script"]) : Cd P w K mg base 1 "_law_draw" (spDraw K) := by
  refine Z.cd sc_law_draw (fun vs H Q E h => by obtain ⟨d, m, rfl, _⟩ := h; rfl) (fun f cdv A outer s H vs Q E hr h => ?_)
  obtain ⟨a, ns, rfl, hS, hlen, q⟩ := h
  refine ⟨_, (pss_cons (ps_set (i := 1) sc_law_draw.nd rfl (.inl rfl) pe_int)
      (pss_cons (ps_for PassesOwn.never rfl (pi_list (pv 0)) (pg_name (i := 2) sc_law_draw.nd rfl (.inl rfl))
      (pss_one (ps_set (i := 1) sc_law_draw.nd rfl (.inl rfl) (pe_op op_mod (pe_callTy call_intQ (by rfl) b_int (by decide +kernel) (pa_cons (pe_op op_add (pe_op op_add (pe_op op_mul (pv 1) pe_int) (pe_op op_mod (pe_callB call_absQ (by rfl) b_abs (by decide +kernel) (pa_cons (pe_callTy call_intQ (by rfl) b_int (by decide +kernel) (pa_cons (pv 2) pa_nil)) pa_nil)) pe_int)) pe_int) pa_nil)) pe_int))))
      (pss_one (ps_ret (pe_lst (pa_cons (pe_lc (own := [("cell", 2)]) rfl sc_law_draw.nd (pi_list (pv 0)) (blkOk_by (own := [("cell", 2)]) (N := ["script", "seed", "cell"]) (sc := (defScope s_law_draw)) (by decide +kernel)) (fun _ _ _ _ _ => (pg_name (i := 2) sc_law_draw.nd rfl (.inl rfl))) (fun _ _ _ _ _ => pts_nil) (fun _ _ _ _ _ => (pe_callB call_absQ (by rfl) b_abs (by decide +kernel) (pa_cons (pe_callTy call_intQ (by rfl) b_int (by decide +kernel) (pa_cons (pv 2) pa_nil)) pa_nil)))) (pa_cons (pe_un un_neg pe_int) (pa_cons pe_int (pa_cons (pv 1) pa_nil))))))))), ?_⟩
  walk_at "ws"
  refine w_forL (ns.map V.int) (fun i σ' H' => H' = H ∧ ∃ (y : Option V) (seed : Int), σ' = [some (.ref a), some (.int seed), y] ∧ 0 ≤ seed ∧ seed < 2147483647) hS ⟨rfl, none, 7, rfl, by decide, by decide⟩ (fun i σ' H' _ ⟨e, _⟩ => by rw [e]; exact hS) ?_ ?_
  · rintro i x σ' H' hx ⟨rfl, y, seed, rfl, h0, h1⟩
    obtain ⟨n, _, rfl⟩ := map_get hx
    walk_at "ws"
    refine ⟨rfl, _, _, rfl, Int.emod_nonneg _ (by omega), Int.emod_lt_of_pos _ (by omega)⟩
  · rintro σ' H' ⟨rfl, y, seed, rfl, h0, h1⟩
    walk_at "ws"
    refine w_lcL (ns.map V.int) (fun c i H2 => H' c = none ∧ Same H' H2 ∧ H2 c = some (.lst (((ns.take i).map mabs).map V.int))) hS (fun c nc => ⟨nc, Same.new nc, upd_same⟩) (fun c i H2 _ ⟨_, e, _⟩ => e.seq hS) ?_ ?_
    · rintro c i x H2 hx ⟨nc, sm, hc⟩
      obtain ⟨n, hn, rfl⟩ := map_get hx
      walk_at "ws"
      refine ⟨rfl, ?_⟩
      walk_at "ws"
      have hi : i < ns.length := (List.getElem?_eq_some_iff.mp hn).1
      refine ⟨_, hc, by simp only [List.length_map, List.length_take]; exact small1000 (by omega), nc, ?_, ?_⟩
      · exact fun b o e => by rw [upd_ne (ne_of_none e nc)]; exact sm b o e
      · rw [upd_same, take_more hn, List.map_append, List.map_append]; rfl
    · rintro c H2 nc ⟨_, sm, hc⟩
      walk_at "ws"
      refine w_kLst (by show 4 ≤ sizeLine; decide) fun d H3 nd sm3 hd => ?_
      have hdc : c ≠ d := ne_of_none hc nd
      rw [List.length_map, List.take_length] at hc
      refine q d c _ (sm.free nd) nc (sm.trans sm3) ⟨ns.map mabs, -1, 0, seed, hd, sm3 _ _ hc, hdc, by decide, by decide, h0, h1, fun x hx => ?_⟩
      obtain ⟨n, _, rfl⟩ := List.mem_map.mp hx
      exact mabs_nn n
end
end K03

namespace K03
def opsT : List (Str × Str) := [(("add" : Str), ("dss" : Str)), (("sub" : Str), ("dss" : Str)), (("mul" : Str), ("dss" : Str)), (("and" : Str), ("dss" : Str)), (("or" : Str), ("dss" : Str)), (("xor" : Str), ("dss" : Str)), (("shl" : Str), ("dss" : Str)), (("shr" : Str), ("dss" : Str)), (("sar" : Str), ("dss" : Str)), (("slt" : Str), ("dss" : Str)), (("sltu" : Str), ("dss" : Str)), (("divu" : Str), ("dss" : Str)), (("remu" : Str), ("dss" : Str)),
  (("addi" : Str), ("dsi" : Str)), (("andi" : Str), ("dsi" : Str)), (("ori" : Str), ("dsi" : Str)), (("xori" : Str), ("dsi" : Str)), (("shli" : Str), ("dsi" : Str)), (("shri" : Str), ("dsi" : Str)), (("sari" : Str), ("dsi" : Str)), (("slti" : Str), ("dsi" : Str)), (("lui" : Str), ("du" : Str)), (("lw" : Str), ("dsi" : Str)), (("lb" : Str), ("dsi" : Str)), (("lbu" : Str), ("dsi" : Str)), (("sw" : Str), ("ssi" : Str)), (("sb" : Str), ("ssi" : Str)),
  (("beq" : Str), ("ssi" : Str)), (("bne" : Str), ("ssi" : Str)), (("blt" : Str), ("ssi" : Str)), (("bge" : Str), ("ssi" : Str)), (("bltu" : Str), ("ssi" : Str)), (("bgeu" : Str), ("ssi" : Str)), (("jal" : Str), ("dj" : Str)), (("jalr" : Str), ("dsi" : Str)), (("get" : Str), ("d" : Str)), (("put" : Str), ("s" : Str)), (("exit" : Str), ("s" : Str))]
def R16 (x : Int) : Prop := 0 ≤ x ∧ x < 16
inductive Fits : Str → List Int → Prop
  | dss {a b c : Int} (ha : R16 a) (hb : R16 b) (hc : R16 c) : Fits "dss" [a, b, c]
  | dsi {a b c : Int} (ha : R16 a) (hb : R16 b) (hc : -8192 ≤ c ∧ c ≤ 8191) : Fits "dsi" [a, b, c]
  | ssi {a b c : Int} (ha : R16 a) (hb : R16 b) (hc : -8192 ≤ c ∧ c ≤ 8191) : Fits "ssi" [a, b, c]
  | du {a c : Int} (ha : R16 a) (hc : 0 ≤ c ∧ c < 262144) : Fits "du" [a, c]
  | dj {a c : Int} (ha : R16 a) (hc : -131072 ≤ c ∧ c ≤ 131071) : Fits "dj" [a, c]
  | d {a : Int} (ha : R16 a) : Fits "d" [a]
  | s {a : Int} (ha : R16 a) : Fits "s" [a]
def stepE (s : Int × Int) (p : Nat × Int) : Int × Int := if p.1 = 100 ∨ p.1 = 115 then (s.1 + p.2 * 2 ^ s.2.toNat, s.2 - 4) else if p.1 = 105 then (s.1 + p.2 % 16384, s.2) else (s.1 + p.2 % 262144, s.2)
def goE (l : List (Nat × Int)) (w : Int) : Int × Int := l.foldl stepE (w, 22)
def encW (n : Nat) (fm : Str) (xs : List Int) : Int := (goE (fm.cps.toList.zip xs) (((n : Int) + 1) * 67108864)).1
def sg (b h : Int) : Int := if h ≤ b then b - 2 * h else b
def imm (c : Nat) (w : Int) : Int := if c = 105 then sg (w % 16384) 8192 else if c = 106 then sg (w % 262144) 131072 else w % 262144
def stepD (w : Int) (s : List Int × Int) (c : Nat) : List Int × Int := if c = 100 ∨ c = 115 then (s.1 ++ [w / 2 ^ s.2.toNat % 16], s.2 - 4) else (s.1 ++ [imm c w], s.2)
def goD (w : Int) (l : List Nat) : List Int × Int := l.foldl (stepD w) ([], 22)
def fieldsOf (fm : Str) (w : Int) : List Int := (goD w fm.cps.toList).1
theorem cps_dss : (("dss" : Str).cps.toList) = [100, 115, 115] := rfl
theorem cps_dsi : (("dsi" : Str).cps.toList) = [100, 115, 105] := rfl
theorem cps_ssi : (("ssi" : Str).cps.toList) = [115, 115, 105] := rfl
theorem cps_du : (("du" : Str).cps.toList) = [100, 117] := rfl
theorem cps_dj : (("dj" : Str).cps.toList) = [100, 106] := rfl
theorem cps_d : (("d" : Str).cps.toList) = [100] := rfl
theorem cps_s : (("s" : Str).cps.toList) = [115] := rfl
section
variable {n : Nat} {a b c : Int}
local macro_rules | `(tactic| walk_at "enc") => `(tactic| (simp only [encW, goE, cps_dss, cps_dsi, cps_ssi, cps_du, cps_dj, cps_d, cps_s, List.zip_cons_cons, List.zip_nil_left, List.foldl_cons, List.foldl_nil, stepE]; simp))
theorem enc_dss : encW n "dss" [a, b, c] = ((n : Int) + 1) * 67108864 + a * 4194304 + b * 262144 + c * 16384 := by walk_at "enc"
theorem enc_dsi : encW n "dsi" [a, b, c] = ((n : Int) + 1) * 67108864 + a * 4194304 + b * 262144 + c % 16384 := by walk_at "enc"
theorem enc_ssi : encW n "ssi" [a, b, c] = ((n : Int) + 1) * 67108864 + a * 4194304 + b * 262144 + c % 16384 := by walk_at "enc"
theorem enc_du : encW n "du" [a, c] = ((n : Int) + 1) * 67108864 + a * 4194304 + c % 262144 := by walk_at "enc"
theorem enc_dj : encW n "dj" [a, c] = ((n : Int) + 1) * 67108864 + a * 4194304 + c % 262144 := by walk_at "enc"
theorem enc_d : encW n "d" [a] = ((n : Int) + 1) * 67108864 + a * 4194304 := by walk_at "enc"
theorem enc_s : encW n "s" [a] = ((n : Int) + 1) * 67108864 + a * 4194304 := by walk_at "enc"
end
section
variable {w : Int}
local macro_rules | `(tactic| walk_at "fld") => `(tactic| (simp only [fieldsOf, goD, cps_dss, cps_dsi, cps_ssi, cps_du, cps_dj, cps_d, cps_s, List.foldl_cons, List.foldl_nil, stepD, imm]; simp))
theorem fld_dss : fieldsOf "dss" w = [w / 4194304 % 16, w / 262144 % 16, w / 16384 % 16] := by walk_at "fld"
theorem fld_dsi : fieldsOf "dsi" w = [w / 4194304 % 16, w / 262144 % 16, sg (w % 16384) 8192] := by walk_at "fld"
theorem fld_ssi : fieldsOf "ssi" w = [w / 4194304 % 16, w / 262144 % 16, sg (w % 16384) 8192] := by walk_at "fld"
theorem fld_du : fieldsOf "du" w = [w / 4194304 % 16, w % 262144] := by walk_at "fld"
theorem fld_dj : fieldsOf "dj" w = [w / 4194304 % 16, sg (w % 262144) 131072] := by walk_at "fld"
theorem fld_d : fieldsOf "d" w = [w / 4194304 % 16] := by walk_at "fld"
theorem fld_s : fieldsOf "s" w = [w / 4194304 % 16] := by walk_at "fld"
end
theorem Fits.enc {n : Nat} {fm : Str} {xs : List Int} (h : Fits fm xs) : fieldsOf fm (encW n fm xs) = xs ∧ encW n fm xs / 67108864 = (n : Int) + 1 ∧ 0 ≤ encW n fm xs := by
  cases h with
  | dss ha hb hc => rw [enc_dss, fld_dss]; unfold R16 at ha hb hc; refine ⟨?_, by omega, by omega⟩; congr 1; omega; congr 1; omega; congr 1; omega
  | dsi ha hb hc => rw [enc_dsi, fld_dsi]; unfold R16 at ha hb; refine ⟨?_, by omega, by omega⟩; congr 1; omega; congr 1; omega; congr 1; unfold sg; split <;> omega
  | ssi ha hb hc => rw [enc_ssi, fld_ssi]; unfold R16 at ha hb; refine ⟨?_, by omega, by omega⟩; congr 1; omega; congr 1; omega; congr 1; unfold sg; split <;> omega
  | du ha hc => rw [enc_du, fld_du]; unfold R16 at ha; refine ⟨?_, by omega, by omega⟩; congr 1; omega; congr 1; omega
  | dj ha hc => rw [enc_dj, fld_dj]; unfold R16 at ha; refine ⟨?_, by omega, by omega⟩; congr 1; omega; congr 1; unfold sg; split <;> omega
  | d ha => rw [enc_d, fld_d]; unfold R16 at ha; refine ⟨?_, by omega, by omega⟩; congr 1; omega
  | s ha => rw [enc_s, fld_s]; unfold R16 at ha; refine ⟨?_, by omega, by omega⟩; congr 1; omega
def forms : List Str := ["dss", "dsi", "ssi", "du", "dj", "d", "s"]
theorem r16m (x : Int) : R16 (x % 16) := ⟨Int.emod_nonneg _ (by decide), Int.emod_lt_of_pos _ (by decide)⟩
theorem fits_of {fm : Str} (h : fm ∈ forms) (w : Int) : Fits fm (fieldsOf fm w) := by
  simp only [forms, List.mem_cons, List.not_mem_nil, or_false] at h
  rcases h with rfl | rfl | rfl | rfl | rfl | rfl | rfl
  · rw [fld_dss]; exact .dss (r16m _) (r16m _) (r16m _)
  · rw [fld_dsi]; exact .dsi (r16m _) (r16m _) (by unfold sg; split <;> omega)
  · rw [fld_ssi]; exact .ssi (r16m _) (r16m _) (by unfold sg; split <;> omega)
  · rw [fld_du]; exact .du (r16m _) (by omega)
  · rw [fld_dj]; exact .dj (r16m _) (by unfold sg; split <;> omega)
  · rw [fld_d]; exact .d (r16m _)
  · rw [fld_s]; exact .s (r16m _)
theorem ops_forms : ∀ p ∈ opsT, p.2 ∈ forms := by decide +kernel
theorem ops_nodup : ∀ m, m < 38 → ∀ n, n < 38 → (opsT[m]?.map (·.1)) = (opsT[n]?.map (·.1)) → m = n := by decide +kernel
/-- the n-th op with its form and fields that fit -/
structure Ins (n : Nat) (op fm : Str) (xs : List Int) : Prop where
  at_ : opsT[n]? = some (op, fm)
  fits : Fits fm xs
theorem Ins.inj {n n' : Nat} {op op' fm fm' : Str} {xs xs' : List Int} (h : Ins n op fm xs) (h' : Ins n' op' fm' xs') (e : encW n fm xs = encW n' fm' xs') : op = op' ∧ fm = fm' ∧ xs = xs' ∧ n = n' := by
  have a1 := h.fits.enc (n := n)
  have a2 := h'.fits.enc (n := n')
  have en : n = n' := by rw [e] at a1; omega
  subst en
  have q := Option.some.inj (h.at_.symm.trans h'.at_)
  cases q
  refine ⟨rfl, rfl, ?_, rfl⟩
  rw [← a1.1, e, a2.1]
end K03

namespace K03
theorem sc_law_ops : FnScope [] [] (defScope s_law_ops) := ⟨rfl, rfl, rfl, by decide +kernel, rfl, by decide +kernel, by decide +kernel⟩
theorem sc_law_label : FnScope ["p"] ["p"] (defScope s_law_label) := ⟨rfl, rfl, rfl, by decide +kernel, rfl, by decide +kernel, by decide +kernel⟩
theorem sc_law_here : FnScope ["p", "label"] ["p", "label"] (defScope s_law_here) := ⟨rfl, rfl, rfl, by decide +kernel, rfl, by decide +kernel, by decide +kernel⟩
theorem sc_law_put_word : FnScope ["p", "row"] ["p", "row"] (defScope s_law_put_word) := ⟨rfl, rfl, rfl, by decide +kernel, rfl, by decide +kernel, by decide +kernel⟩
theorem sc_law_some : FnScope ["p", "many"] ["p", "many"] (defScope s_law_some) := ⟨rfl, rfl, rfl, by decide +kernel, rfl, by decide +kernel, by decide +kernel⟩
theorem sc_law_register : FnScope ["p"] ["p"] (defScope s_law_register) := ⟨rfl, rfl, rfl, by decide +kernel, rfl, by decide +kernel, by decide +kernel⟩
theorem sc_law_set : FnScope ["p", "number", "value", "high"] ["p", "number", "value"] (defScope s_law_set) := ⟨rfl, rfl, rfl, by decide +kernel, rfl, by decide +kernel, by decide +kernel⟩
abbrev kS (s : Str) : Key := Sum.inr s
def pD (d c a cl tb l : V) : List (Key × V) := [(kS "draw", d), (kS "code", c), (kS "at", a), (kS "calls", cl), (kS "table", tb), (kS "left", l)]
/-- fields that fit, the immediate any int -/
inductive RFits : Str → List Int → Prop
  | dss {a b c : Int} (ha : R16 a) (hb : R16 b) (hc : R16 c) : RFits "dss" [a, b, c]
  | dsi {a b c : Int} (ha : R16 a) (hb : R16 b) : RFits "dsi" [a, b, c]
  | ssi {a b c : Int} (ha : R16 a) (hb : R16 b) : RFits "ssi" [a, b, c]
  | du {a c : Int} (ha : R16 a) : RFits "du" [a, c]
  | dj {a c : Int} (ha : R16 a) : RFits "dj" [a, c]
  | d {a : Int} (ha : R16 a) : RFits "d" [a]
  | s {a : Int} (ha : R16 a) : RFits "s" [a]
def insV (op : Str) (xs : List Int) : List V := .str op :: xs.map V.int
def RowOk (L : Nat) (H : Hp) (v : V) : Prop := ∃ t, v = .ref t ∧
  ((∃ (n : Nat) (op fm : Str) (xs : List Int), opsT[n]? = some (op, fm) ∧ RFits fm xs ∧ H t = some (.tup (insV op xs))) ∨
   (∃ (n : Nat) (op fm : Str) (xs : List Int) (t2 : Addr) (lb : Int), opsT[n]? = some (op, fm) ∧ (∀ z, RFits fm (xs ++ [z])) ∧ H t = some (.tup (insV op xs ++ [.ref t2])) ∧ H t2 = some (.tup [.str "to", .int lb]) ∧ 0 ≤ lb ∧ lb < L) ∨
   (∃ w : Int, 0 ≤ w ∧ w < 4294967296 ∧ H t = some (.tup [.str "word", .int w])))
def TK (H H' : Hp) : Prop := ∀ a xs, H a = some (.tup xs) → H' a = some (.tup xs)
theorem TK.same {H H' : Hp} (s : Same H H') : TK H H' := fun a xs h => s a _ h
theorem TK.lst {H H' : Hp} {c : Addr} {xs : List V} (b : But c H H') (h : H c = some (.lst xs)) : TK H H' := fun a ys q => b a _ (ne_of q h (by intro z; cases z)) q
theorem TK.dic {H H' : Hp} {c : Addr} {xs : List (Key × V)} (b : But c H H') (h : H c = some (.dK xs)) : TK H H' := fun a ys q => b a _ (ne_of q h (by intro z; cases z)) q
theorem RowOk.keep {L L' : Nat} {H H' : Hp} {v : V} (h : RowOk L H v) (k : TK H H') (l : L ≤ L') : RowOk L' H' v := by
  obtain ⟨t, rfl, h⟩ := h
  refine ⟨t, rfl, ?_⟩
  rcases h with ⟨n, op, fm, xs, h1, h2, h3⟩ | ⟨n, op, fm, xs, t2, lb, h1, h2, h3, h4, h5, h6⟩ | ⟨w, h1, h2, h3⟩
  · exact .inl ⟨n, op, fm, xs, h1, h2, k _ _ h3⟩
  · exact .inr (.inl ⟨n, op, fm, xs, t2, lb, h1, h2, k _ _ h3, k _ _ h4, h5, by omega⟩)
  · exact .inr (.inr ⟨w, h1, h2, k _ _ h3⟩)
/-- what p holds -/
structure PS where
  d : Addr
  cc : Addr
  c : Addr
  a : Addr
  cl : Addr
  tb : Addr
  code : List V
  at_ : List Int
  calls : List Int
  tbl : List Int
  left : Int
structure PAt (H : Hp) (p : Addr) (S : PS) : Prop where
  hp : H p = some (.dK (pD (.ref S.d) (.ref S.c) (.ref S.a) (.ref S.cl) (.ref S.tb) (.int S.left)))
  hd : DrawC H S.d S.cc
  hc : H S.c = some (.lst S.code)
  ha : H S.a = some (.lst (S.at_.map V.int))
  hcl : H S.cl = some (.lst (S.calls.map V.int))
  htb : H S.tb = some (.lst (S.tbl.map V.int))
  dc : S.d ≠ S.c
  da : S.d ≠ S.a
  ca : S.c ≠ S.a
  ec : S.cc ≠ S.c
  ea : S.cc ≠ S.a
  ld : S.cl ≠ S.d
  lc : S.cl ≠ S.c
  la : S.cl ≠ S.a
  td : S.tb ≠ S.d
  tc : S.tb ≠ S.c
  ta : S.tb ≠ S.a
  rows : ∀ v ∈ S.code, RowOk S.at_.length H v
  cls : ∀ l ∈ S.calls, 0 ≤ l ∧ l < S.at_.length
  tls : ∀ l ∈ S.tbl, 0 ≤ l ∧ l < S.at_.length
  ats : ∀ x ∈ S.at_, -1 ≤ x ∧ x ≤ 100000
  lf : 0 ≤ S.left
/-- all but p and its three lists stay -/
def FrP (p : Addr) (S : PS) (H H' : Hp) : Prop := ∀ b o, b ≠ p → b ≠ S.d → b ≠ S.c → b ≠ S.a → H b = some o → H' b = some o
theorem FrP.trans {p : Addr} {S S' : PS} {H H1 H2 : Hp} (f : FrP p S H H1) (g : FrP p S' H1 H2) (e1 : S'.d = S.d) (e2 : S'.c = S.c) (e3 : S'.a = S.a) : FrP p S H H2 := fun b o h1 h2 h3 h4 h => g b o h1 (by rw [e1]; exact h2) (by rw [e2]; exact h3) (by rw [e3]; exact h4) (f b o h1 h2 h3 h4 h)
theorem FrP.same {p : Addr} {S : PS} {H H' : Hp} (s : Same H H') : FrP p S H H' := fun b o _ _ _ _ h => s b o h
theorem PAt.nep {H : Hp} {p x : Addr} {S : PS} (h : PAt H p S) {xs : List V} (hx : H x = some (.lst xs)) : x ≠ p := ne_of hx h.hp (by intro z; cases z)
theorem PAt.hdl {H : Hp} {p : Addr} {S : PS} (h : PAt H p S) : ∃ xs, H S.d = some (.lst xs) := by
  obtain ⟨cs, i, cur, seed, hd, _⟩ := h.hd
  exact ⟨_, hd⟩
theorem PAt.hccl {H : Hp} {p : Addr} {S : PS} (h : PAt H p S) : ∃ xs, H S.cc = some (.lst xs) := by
  obtain ⟨cs, i, cur, seed, hd, hc, _⟩ := h.hd
  exact ⟨_, hc⟩
theorem PAt.same {H H' : Hp} {p : Addr} {S : PS} (h : PAt H p S) (s : Same H H') : PAt H' p S :=
  { h with hp := s _ _ h.hp, hd := h.hd.same s, hc := s _ _ h.hc, ha := s _ _ h.ha, hcl := s _ _ h.hcl, htb := s _ _ h.htb, rows := fun v hv => (h.rows v hv).keep (.same s) (Nat.le_refl _) }
theorem PAt.draw {H H' : Hp} {p : Addr} {S : PS} (h : PAt H p S) (b : But S.d H H') (hd : DrawC H' S.d S.cc) : PAt H' p S ∧ FrP p S H H' := by
  obtain ⟨xs, hx⟩ := h.hdl
  refine ⟨{ h with hp := b _ _ (h.nep hx).symm h.hp, hd := hd, hc := b _ _ h.dc.symm h.hc, ha := b _ _ h.da.symm h.ha, hcl := b _ _ h.ld h.hcl, htb := b _ _ h.td h.htb, rows := fun v hv => (h.rows v hv).keep (.lst b hx) (Nat.le_refl _) }, fun q o _ h2 _ _ e => b q o h2 e⟩
theorem PAt.put {H H' : Hp} {p : Addr} {S : PS} {v : V} (h : PAt H p S) (b : But S.c H H') (hc : H' S.c = some (.lst (S.code ++ [v]))) (hv : RowOk S.at_.length H v) : PAt H' p { S with code := S.code ++ [v] } ∧ FrP p S H H' := by
  have k : TK H H' := .lst b h.hc
  refine ⟨{ h with hp := b _ _ (h.nep h.hc).symm h.hp, hd := h.hd.keep (fun o => b _ o h.dc) (fun o => b _ o h.ec), hc := hc, ha := b _ _ h.ca.symm h.ha, hcl := b _ _ h.lc h.hcl, htb := b _ _ h.tc h.htb, rows := fun u hu => ?_ }, fun q o _ _ h3 _ e => b q o h3 e⟩
  rcases List.mem_append.mp hu with hu | hu
  · exact (h.rows u hu).keep k (Nat.le_refl _)
  · rw [List.mem_singleton.mp hu]; exact hv.keep k (Nat.le_refl _)
theorem PAt.lab {H H' : Hp} {p : Addr} {S : PS} {ls : List Int} (h : PAt H p S) (b : But S.a H H') (ha : H' S.a = some (.lst (ls.map V.int))) (hl : S.at_.length ≤ ls.length) (hv : ∀ x ∈ ls, -1 ≤ x ∧ x ≤ 100000) : PAt H' p { S with at_ := ls } ∧ FrP p S H H' := by
  have k : TK H H' := .lst b h.ha
  refine ⟨{ h with hp := b _ _ (h.nep h.ha).symm h.hp, hd := h.hd.keep (fun o => b _ o h.da) (fun o => b _ o h.ea), hc := b _ _ h.ca h.hc, ha := ha, hcl := b _ _ h.la h.hcl, htb := b _ _ h.ta h.htb, rows := fun u hu => (h.rows u hu).keep k hl, ats := hv, cls := fun l q => ?_, tls := fun l q => ?_ }, fun q o _ _ _ h4 e => b q o h4 e⟩
  · have := h.cls l q; show 0 ≤ l ∧ l < (ls.length : Int); omega
  · have := h.tls l q; show 0 ≤ l ∧ l < (ls.length : Int); omega
/-! the dict read and written -/
def kDG (Q : VK) : V → V → Hp → Prop := fun x y H2 => ∃ a v, x = .ref a ∧ DGet H2 a y (some v) ∧ Q v H2
theorem w_dget {td ty : TE} {σ : L2.St} {H : Hp} {Q : VK} (q : td σ H fun x H1 => ty σ H1 fun y H2 => kDG Q x y H2) : tDGet td ty σ H Q := q
theorem w_kDG {p : Addr} {kvs : List (Key × V)} {z : Str} {v : V} {H : Hp} {Q : VK} (h : H p = some (.dK kvs)) (e : valV kvs (kS z) = some v) (q : Q v H) : kDG Q (.ref p) (.str z) H := ⟨p, v, rfl, by have := DGet.k (k := kS z) h; rw [e] at this; exact this, q⟩
def kDP (D : Ends) (σ : L2.St) (v : V) : V → V → Hp → Prop := fun x y H3 => ∃ a H4, x = .ref a ∧ DPut H3 a y v H4 ∧ D.nx σ H4
theorem w_dput {td ty tv : TE} {D : Ends} {σ : L2.St} {H : Hp} (q : tv σ H fun v H1 => td σ H1 fun x H2 => ty σ H2 fun y H3 => kDP D σ v x y H3) : sDPut td ty tv D σ H := q
theorem w_kDP {p : Addr} {kvs kvs' : List (Key × V)} {z : Str} {v : V} {D : Ends} {σ : L2.St} {H : Hp} (h : H p = some (.dK kvs)) (hl : kvs.length < 1000) (e : putK kvs (kS z) v = kvs') (q : ∀ H', H' p = some (.dK kvs') → But p H H' → D.nx σ H') : kDP D σ v (.ref p) (.str z) H :=
  ⟨p, _, rfl, DPut.k (k := kS z) h (Nat.lt_of_lt_of_le hl (by decide)), q _ (by rw [e]; exact upd_same) But.set⟩
local macro_rules | `(tactic| walk_at "w1") => `(tactic| first
  | (with_reducible refine w_dget ?_)
  | (with_reducible refine w_dput ?_))
section
variable {P : Program} {w : World} {K : PySem.W.Frag} {mg : Str → Option Value} {base : Heap}
def spOps : Sp := fun vs H Q _ => vs = [] ∧ ∀ p H', H p = none → Same H H' → H' p = some (.lst ((opsT.map (·.1)).map V.str)) → Q (.ref p) H'
theorem ok_law_ops (Z : St1 K mg "_law_ops" s_law_ops []) : Cd P w K mg base 1 "_law_ops" spOps := by
  refine Z.cd sc_law_ops (fun vs H Q E h => by obtain ⟨rfl, _⟩ := h; rfl) (fun f cdv A outer s H vs Q E hr h => ?_)
  obtain ⟨rfl, q⟩ := h
  refine ⟨_, (pss_one (ps_ret (pe_lst (pa_cons pe_str (pa_cons pe_str (pa_cons pe_str (pa_cons pe_str (pa_cons pe_str (pa_cons pe_str (pa_cons pe_str (pa_cons pe_str (pa_cons pe_str (pa_cons pe_str (pa_cons pe_str (pa_cons pe_str (pa_cons pe_str (pa_cons pe_str (pa_cons pe_str (pa_cons pe_str (pa_cons pe_str (pa_cons pe_str (pa_cons pe_str (pa_cons pe_str (pa_cons pe_str (pa_cons pe_str (pa_cons pe_str (pa_cons pe_str (pa_cons pe_str (pa_cons pe_str (pa_cons pe_str (pa_cons pe_str (pa_cons pe_str (pa_cons pe_str (pa_cons pe_str (pa_cons pe_str (pa_cons pe_str (pa_cons pe_str (pa_cons pe_str (pa_cons pe_str (pa_cons pe_str (pa_cons pe_str pa_nil))))))))))))))))))))))))))))))))))))))))), ?_⟩
  walk_at "ws"
  refine w_kLst (by show 38 ≤ sizeLine; decide) fun p H' np sm hp => ?_
  exact q p H' np sm hp
def spLabel : Sp := fun vs H Q _ => ∃ (p : Addr) (S : PS), vs = [.ref p] ∧ PAt H p S ∧ S.at_.length ≤ 100000 ∧ ∀ H', PAt H' p { S with at_ := S.at_ ++ [-1] } → FrP p S H H' → Q (.int S.at_.length) H'
theorem ok_law_label (b_len : mg "len" = none) (Z : St1 K mg "_law_label" s_law_label ["p"]) : Cd P w K mg base 1 "_law_label" spLabel := by
  refine Z.cd sc_law_label (fun vs H Q E h => by obtain ⟨p, S, rfl, _⟩ := h; rfl) (fun f cdv A outer s H vs Q E hr h => ?_)
  obtain ⟨p, S, rfl, hP, hl, q⟩ := h
  have hu := hu_of hr
  refine ⟨_, (pss_cons (ps_expr (pe_bm PySem.F.plainAttrs_list PySem.F.slot_list_append PySem.F.type_list_append mt_append (pe_dget hu (pv 0) pe_str (fun _ _ => rfl)) (pa_cons (pe_un un_neg pe_int) pa_nil)))
      (pss_one (ps_ret (pe_op op_sub (pe_callB call_lenQ (by rfl) b_len PySem.boot_len (pa_cons (pe_dget hu (pv 0) pe_str (fun _ _ => rfl)) pa_nil)) pe_int)))), ?_⟩
  walk_at "ws"
  refine w_kDG hP.hp rfl ?_
  have ha := hP.ha
  walk_at "ws"
  refine w_append ha (by rw [List.length_map]; exact Nat.lt_of_le_of_lt hl (by decide)) fun H1 ha1 b1 => ?_
  obtain ⟨hP1, f1⟩ := hP.lab (ls := S.at_ ++ [-1]) b1 (by rw [ha1, List.map_append]; rfl) (by rw [List.length_append]; omega) (fun x hx => by
    rcases List.mem_append.mp hx with hx | hx
    · exact hP.ats x hx
    · rw [List.mem_singleton.mp hx]; decide)
  walk_at "ws"
  refine w_kDG hP1.hp rfl ?_
  walk_at "ws"
  have e : (((S.at_.map V.int) ++ [V.int (-1)]).length : Int) - 1 = (S.at_.length : Int) := by rw [List.length_append, List.length_map]; simp
  rw [e]
  exact q H1 hP1 f1
def spHere : Sp := fun vs H Q _ => ∃ (p : Addr) (S : PS) (l : Int), vs = [.ref p, .int l] ∧ PAt H p S ∧ S.code.length ≤ 100000 ∧ 0 ≤ l ∧ l < S.at_.length ∧ ∀ (ls : List Int) H', ls.length = S.at_.length → PAt H' p { S with at_ := ls } → FrP p S H H' → Q .non H'
theorem ok_law_here (b_len : mg "len" = none) (Z : St1 K mg "_law_here" s_law_here ["p", "label"]) : Cd P w K mg base 1 "_law_here" spHere := by
  refine Z.cd sc_law_here (fun vs H Q E h => by obtain ⟨p, S, l, rfl, _⟩ := h; rfl) (fun f cdv A outer s H vs Q E hr h => ?_)
  obtain ⟨p, S, l, rfl, hP, hcl, l0, l1, q⟩ := h
  have hu := hu_of hr
  refine ⟨_, (pss_one (ps_asg (pe_callB call_lenQ (by rfl) b_len PySem.boot_len (pa_cons (pe_dget hu (pv 0) pe_str (fun _ _ => rfl)) pa_nil)) (pg_sub (pe_dget hu (pv 0) pe_str (fun _ _ => rfl)) (pv 1) set_list))), ?_⟩
  walk_at "ws"
  refine w_kDG hP.hp rfl ?_
  have hc := hP.hc
  have ha := hP.ha
  walk_at "ws"
  refine w_kDG hP.hp rfl ?_
  walk_at "ws"
  obtain ⟨n, rfl⟩ := Int.eq_ofNat_of_zero_le l0
  have hn : n < (S.at_.map V.int).length := by rw [List.length_map]; omega
  refine w_setL (j := n) ha (ixN_lit hn) fun H1 ha1 b1 => ?_
  obtain ⟨hP1, f1⟩ := hP.lab (ls := S.at_.set n (S.code.length : Int)) b1 (by rw [ha1, List.map_set]) (by rw [List.length_set]; exact Nat.le_refl _) (fun x hx => by
    rcases List.mem_or_eq_of_mem_set hx with hx | hx
    · exact hP.ats x hx
    · rw [hx]; omega)
  walk_at "ws"
  exact q _ H1 (by rw [List.length_set]) hP1 f1
def spPut : Sp := fun vs H Q _ => ∃ (p : Addr) (S : PS) (v : V), vs = [.ref p, v] ∧ PAt H p S ∧ S.code.length ≤ 100000 ∧ RowOk S.at_.length H v ∧ ∀ H', PAt H' p { S with code := S.code ++ [v] } → FrP p S H H' → Q .non H'
theorem ok_law_put_word (Z : St1 K mg "_law_put_word" s_law_put_word ["p", "row"]) : Cd P w K mg base 1 "_law_put_word" spPut := by
  refine Z.cd sc_law_put_word (fun vs H Q E h => by obtain ⟨p, S, l, rfl, _⟩ := h; rfl) (fun f cdv A outer s H vs Q E hr h => ?_)
  obtain ⟨p, S, v, rfl, hP, hl, hv, q⟩ := h
  have hu := hu_of hr
  refine ⟨_, (pss_one (ps_expr (pe_bm PySem.F.plainAttrs_list PySem.F.slot_list_append PySem.F.type_list_append mt_append (pe_dget hu (pv 0) pe_str (fun _ _ => rfl)) (pa_cons (pv 1) pa_nil)))), ?_⟩
  walk_at "ws"
  refine w_kDG hP.hp rfl ?_
  have hc := hP.hc
  walk_at "ws"
  refine w_append hc (Nat.lt_of_le_of_lt hl (by decide)) fun H1 hc1 b1 => ?_
  obtain ⟨hP1, f1⟩ := hP.put b1 hc1 hv
  walk_at "ws"
  exact q H1 hP1 f1
def spSome : Sp := fun vs H Q _ => ∃ (p : Addr) (S : PS) (m : Int), vs = [.ref p, .int m] ∧ PAt H p S ∧ 0 < m ∧ m ≤ 4294967296 ∧ ∀ (r : Int) H', 0 ≤ r → r < m → PAt H' p S → FrP p S H H' → Q (.int r) H'
theorem w_some {p : Addr} {S : PS} {m : Int} {H : Hp} {Q : VK} {E : XK} (hP : PAt H p S) (h0 : 0 < m) (h1 : m ≤ 4294967296) (q : ∀ (r : Int) H', 0 ≤ r → r < m → PAt H' p S → FrP p S H H' → Q (.int r) H') : spSome [.ref p, .int m] H Q E := ⟨p, S, m, rfl, hP, h0, h1, q⟩
theorem ok_law_some (c_law_take : Cd P w K mg base 1 "_law_take" spTake) (Z : St1 K mg "_law_some" s_law_some ["p", "many"]) : Cd P w K mg base 2 "_law_some" spSome := by
  refine Z.cd sc_law_some (fun vs H Q E h => by obtain ⟨p, S, l, rfl, _⟩ := h; rfl) (fun f cdv A outer s H vs Q E hr h => ?_)
  obtain ⟨p, S, m, rfl, hP, h0, h1, q⟩ := h
  have hu := hu_of hr
  refine ⟨_, (pss_one (ps_ret (pe_cd c_law_take hr (by first | decide | omega) (by rfl) (pa_cons (pe_dget hu (pv 0) pe_str (fun _ _ => rfl)) (pa_cons (pv 1) pa_nil))))), ?_⟩
  walk_at "ws"
  refine w_kDG hP.hp rfl ?_
  walk_at "ws"
  refine w_take hP.hd h0 h1 fun r H1 r0 r1 hd1 b1 => ?_
  obtain ⟨hP1, f1⟩ := hP.draw b1 hd1
  exact q r H1 r0 r1 hP1 f1
def spReg : Sp := fun vs H Q _ => ∃ (p : Addr) (S : PS), vs = [.ref p] ∧ PAt H p S ∧ ∀ (r : Int) H', R16 r → PAt H' p S → FrP p S H H' → Q (.int r) H'
theorem w_reg {p : Addr} {S : PS} {H : Hp} {Q : VK} {E : XK} (hP : PAt H p S) (q : ∀ (r : Int) H', R16 r → PAt H' p S → FrP p S H H' → Q (.int r) H') : spReg [.ref p] H Q E := ⟨p, S, rfl, hP, q⟩
theorem ok_law_register (c_law_some : Cd P w K mg base 2 "_law_some" spSome) (Z : St1 K mg "_law_register" s_law_register ["p"]) : Cd P w K mg base 3 "_law_register" spReg := by
  refine Z.cd sc_law_register (fun vs H Q E h => by obtain ⟨p, S, rfl, _⟩ := h; rfl) (fun f cdv A outer s H vs Q E hr h => ?_)
  obtain ⟨p, S, rfl, hP, q⟩ := h
  refine ⟨_, (pss_one (ps_ret (pe_op op_add pe_int (pe_cd c_law_some hr (by first | decide | omega) (by rfl) (pa_cons (pv 0) (pa_cons pe_int pa_nil)))))), ?_⟩
  walk_at "ws"
  refine w_some hP (by decide) (by decide) fun r H1 r0 r1 hP1 f1 => ?_
  walk_at "ws"
  exact q _ H1 ⟨by omega, by omega⟩ hP1 f1
theorem w_put {p : Addr} {S : PS} {v : V} {H : Hp} {Q : VK} {E : XK} (hP : PAt H p S) (hl : S.code.length ≤ 100000) (hv : RowOk S.at_.length H v) (q : ∀ H', PAt H' p { S with code := S.code ++ [v] } → FrP p S H H' → Q .non H') : spPut [.ref p, v] H Q E := ⟨p, S, v, rfl, hP, hl, hv, q⟩
def spSet : Sp := fun vs H Q _ => ∃ (p : Addr) (S : PS) (n v : Int), vs = [.ref p, .int n, .int v] ∧ PAt H p S ∧ S.code.length ≤ 99990 ∧ R16 n ∧ ∀ (v1 v2 : V) H', PAt H' p { S with code := S.code ++ [v1, v2] } → FrP p S H H' → Q .non H'
theorem rowIns {L : Nat} {H : Hp} {t : Addr} {op fm : Str} {xs : List Int} (n : Nat) (h1 : opsT[n]? = some (op, fm)) (h2 : RFits fm xs) (h3 : H t = some (.tup (insV op xs))) : RowOk L H (.ref t) := ⟨t, rfl, .inl ⟨n, op, fm, xs, h1, h2, h3⟩⟩
theorem ok_law_set (c_law_put_word : Cd P w K mg base 1 "_law_put_word" spPut) (Z : St1 K mg "_law_set" s_law_set ["p", "number", "value"]) : Cd P w K mg base 2 "_law_set" spSet := by
  refine Z.cd sc_law_set (fun vs H Q E h => by obtain ⟨p, S, n, v, rfl, _⟩ := h; rfl) (fun f cdv A outer s H vs Q E hr h => ?_)
  obtain ⟨p, S, n, v, rfl, hP, hl, hn, q⟩ := h
  refine ⟨_, (pss_cons (ps_set (i := 3) sc_law_set.nd rfl (.inl rfl) (pe_op op_fdiv (pe_op op_add (pv 2) pe_int) pe_int))
      (pss_cons (ps_expr (pe_cd c_law_put_word hr (by first | decide | omega) (by rfl) (pa_cons (pv 0) (pa_cons (pe_tup (pa_cons pe_str (pa_cons (pv 1) (pa_cons (pv 3) pa_nil)))) pa_nil))))
      (pss_one (ps_expr (pe_cd c_law_put_word hr (by first | decide | omega) (by rfl) (pa_cons (pv 0) (pa_cons (pe_tup (pa_cons pe_str (pa_cons (pv 1) (pa_cons (pv 1) (pa_cons (pe_op op_sub (pv 2) (pe_op op_mul (pv 3) pe_int)) pa_nil))))) pa_nil))))))), ?_⟩
  walk_at "ws"
  refine w_kTup (by show 3 ≤ sizeLine; decide) fun t H1 nt s1 ht => ?_
  walk_at "ws"
  refine w_put (hP.same s1) (by omega) (rowIns (xs := [n, (v + 8192) / 16384]) 21 rfl (.du hn) ht) fun H2 hP2 f2 => ?_
  walk_at "ws"
  refine w_kTup (by show 4 ≤ sizeLine; decide) fun t2 H3 nt2 s3 ht2 => ?_
  walk_at "ws"
  refine w_put (hP2.same s3) (by show (S.code ++ [_]).length ≤ 100000; rw [List.length_append]; simp; omega) (rowIns (xs := [n, n, v - (v + 8192) / 16384 * 16384]) 13 rfl (.dsi hn hn) ht2) fun H4 hP4 f4 => ?_
  walk_at "ws"
  refine q (.ref t) (.ref t2) H4 ?_ (((FrP.same s1).trans f2 rfl rfl rfl).trans ((FrP.same s3 : FrP p _ H2 H3).trans f4 rfl rfl rfl) rfl rfl rfl)
  simpa using hP4
end
end K03

namespace K03
local macro_rules | `(tactic| walk_at "w1") => `(tactic| first
  | (with_reducible refine w_dget ?_)
  | (with_reducible refine w_dput ?_))
theorem sc_law_alu : FnScope ["p", "k", "rd", "ra", "imm"] ["p"] (defScope s_law_alu) := ⟨rfl, rfl, rfl, by decide +kernel, rfl, by decide +kernel, by decide +kernel⟩
theorem pick_any (l : List V) {k : Int} (h0 : 0 ≤ k) (h1 : k < l.length) : ∃ v, v ∈ l ∧ atI l k = some v := by
  obtain ⟨n, rfl⟩ := Int.eq_ofNat_of_zero_le h0
  have hn : n < l.length := by omega
  exact ⟨l[n], List.getElem_mem hn, atI_nat (List.getElem?_eq_getElem hn)⟩
theorem PAt.kept {H H1 H2 : Hp} {p x : Addr} {S : PS} {o : HO} (hP : PAt H p S) (nx : H x = none) (hx : H1 x = some o) (f : FrP p S H1 H2) : H2 x = some o := by
  obtain ⟨xs, hd⟩ := hP.hdl
  exact f x o (ne_of_none hP.hp nx).symm (ne_of_none hd nx).symm (ne_of_none hP.hc nx).symm (ne_of_none hP.ha nx).symm hx
/-- a row is put -/
def spOne : Sp := fun vs H Q _ => ∃ (p : Addr) (S : PS), vs = [.ref p] ∧ PAt H p S ∧ S.code.length ≤ 99990 ∧ ∀ (v : V) H', PAt H' p { S with code := S.code ++ [v] } → FrP p S H H' → Q .non H'
theorem alu_facts : ∀ n, n < 21 → ∀ p : Str × Str, opsT[n]? = some p → p.2 = if n < 13 then ("dss" : Str) else "dsi" := by
  have h : ∀ n, n < 21 → (match opsT[n]? with | some p => decide (p.2 = if n < 13 then ("dss" : Str) else "dsi") | none => true) = true := by decide +kernel
  intro n hn p e
  have := h n hn
  rw [e] at this
  exact of_decide_eq_true this
section
variable {P : Program} {w : World} {K : PySem.W.Frag} {mg : Str → Option Value} {base : Heap}
theorem ok_law_alu (c_law_ops : Cd P w K mg base 1 "_law_ops" spOps) (c_law_some : Cd P w K mg base 2 "_law_some" spSome) (c_law_register : Cd P w K mg base 3 "_law_register" spReg) (c_law_put_word : Cd P w K mg base 1 "_law_put_word" spPut) (Z : St1 K mg "_law_alu" s_law_alu ["p"]) : Cd P w K mg base 4 "_law_alu" spOne := by
  refine Z.cd sc_law_alu (fun vs H Q E h => by obtain ⟨p, S, rfl, _⟩ := h; rfl) (fun f cdv A outer s H vs Q E hr h => ?_)
  obtain ⟨p, S, rfl, hP, hl, q⟩ := h
  refine ⟨_, (pss_cons (ps_set (i := 1) sc_law_alu.nd rfl (.inl rfl) (pe_cd c_law_some hr (by first | decide | omega) (by rfl) (pa_cons (pv 0) (pa_cons pe_int pa_nil))))
      (Evl.pss_cut (ps_set (i := 2) sc_law_alu.nd rfl (.inl rfl) (pe_ifExp (pt_cmpR op_gt (pe_cd c_law_some hr (by first | decide | omega) (by rfl) (pa_cons (pv 0) (pa_cons pe_int pa_nil))) pe_int (nomark _)) (pe_cd c_law_register hr (by first | decide | omega) (by rfl) (pa_cons (pv 0) pa_nil)) pe_int))
      (Evl.pss_cut (ps_set (i := 3) sc_law_alu.nd rfl (.inl rfl) (pe_ifExp (pt_cmpR op_gt (pe_cd c_law_some hr (by first | decide | omega) (by rfl) (pa_cons (pv 0) (pa_cons pe_int pa_nil))) pe_int (nomark _)) (pe_cd c_law_register hr (by first | decide | omega) (by rfl) (pa_cons (pv 0) pa_nil)) pe_int))
      (pss_one (ps_if (pt_cmpR op_lt (pv 1) pe_int (nomark _)) (pss_one (ps_expr (pe_cd c_law_put_word hr (by first | decide | omega) (by rfl) (pa_cons (pv 0) (pa_cons (pe_tup (pa_cons (pe_ix ix_list (pe_cd0 c_law_ops hr (by first | decide | omega) (by rfl)) (pv 1) (fun _ _ => rfl)) (pa_cons (pv 2) (pa_cons (pv 3) (pa_cons (pe_cd c_law_register hr (by first | decide | omega) (by rfl) (pa_cons (pv 0) pa_nil)) pa_nil))))) pa_nil))))) (pss_one (ps_if (pt_cmpR op_lt (pv 1) pe_int (nomark _)) (pss_cons (ps_set (i := 4) sc_law_alu.nd rfl (.inl rfl) (pe_ix ix_list (pe_lst (pa_cons pe_int (pa_cons pe_int (pa_cons (pe_un un_neg pe_int) (pa_cons pe_int (pa_cons pe_int (pa_cons pe_int (pa_cons pe_int (pa_cons pe_int (pa_cons (pe_un un_neg pe_int) (pa_cons pe_int pa_nil))))))))))) (pe_cd c_law_some hr (by first | decide | omega) (by rfl) (pa_cons (pv 0) (pa_cons pe_int pa_nil))) (fun _ _ => rfl)))
      (pss_one (ps_expr (pe_cd c_law_put_word hr (by first | decide | omega) (by rfl) (pa_cons (pv 0) (pa_cons (pe_tup (pa_cons (pe_ix ix_list (pe_cd0 c_law_ops hr (by first | decide | omega) (by rfl)) (pv 1) (fun _ _ => rfl)) (pa_cons (pv 2) (pa_cons (pv 3) (pa_cons (pv 4) pa_nil))))) pa_nil)))))) (pss_one (ps_expr (pe_cd c_law_put_word hr (by first | decide | omega) (by rfl) (pa_cons (pv 0) (pa_cons (pe_tup (pa_cons pe_str (pa_cons (pv 2) (pa_cons (pe_ix ix_list (pe_lst (pa_cons pe_int (pa_cons pe_int (pa_cons (pe_op op_sub (pe_op op_pow pe_int pe_int) pe_int) (pa_cons pe_int pa_nil))))) (pe_cd c_law_some hr (by first | decide | omega) (by rfl) (pa_cons (pv 0) (pa_cons pe_int pa_nil))) (fun _ _ => rfl)) pa_nil)))) pa_nil)))))))))))), ?_⟩
  walk_at "ws"
  refine w_some hP (by decide) (by decide) fun k H1 k0 k1 hP1 f1 => ?_
  obtain ⟨n, rfl⟩ := Int.eq_ofNat_of_zero_le k0
  walk_at "ws"
  refine Evl.q_cut (M := fun σ' H' => PAt H' p S ∧ FrP p S H H' ∧ ∃ rd, R16 rd ∧ σ' = [some (.ref p), some (.int (n : Nat)), some (.int rd), none, none]) ?_ ?_
  · walk_at "ws"
    refine w_some hP1 (by decide) (by decide) fun r H2 _ _ hP2 f2 => ?_
    walk_at "ws"
    refine w_dec (fun e => ?_) (fun e => ?_)
    · walk_at "ws"
      refine w_reg hP2 fun rd H3 hr3 hP3 f3 => ?_
      walk_at "ws"
      exact ⟨hP3, (f1.trans f2 rfl rfl rfl).trans f3 rfl rfl rfl, rd, hr3, rfl⟩
    · walk_at "ws"
      exact ⟨hP2, f1.trans f2 rfl rfl rfl, 0, ⟨by decide, by decide⟩, rfl⟩
  · rintro σ' H1' ⟨hP1', f1', rd, hrd, rfl⟩
    refine Evl.q_cut (M := fun σ' H' => PAt H' p S ∧ FrP p S H H' ∧ ∃ ra, R16 ra ∧ σ' = [some (.ref p), some (.int (n : Nat)), some (.int rd), some (.int ra), none]) ?_ ?_
    · walk_at "ws"
      refine w_some hP1' (by decide) (by decide) fun r H2 _ _ hP2 f2 => ?_
      walk_at "ws"
      refine w_dec (fun e => ?_) (fun e => ?_)
      · walk_at "ws"
        refine w_reg hP2 fun rd H3 hr3 hP3 f3 => ?_
        walk_at "ws"
        exact ⟨hP3, (f1'.trans f2 rfl rfl rfl).trans f3 rfl rfl rfl, rd, hr3, rfl⟩
      · walk_at "ws"
        exact ⟨hP2, f1'.trans f2 rfl rfl rfl, 0, ⟨by decide, by decide⟩, rfl⟩
    · rintro σ' H2 ⟨hP2, f2, ra, hra, rfl⟩
      walk_at "ws"
      refine w_dec (fun e => ?_) (fun e => ?_)
      · have hn : n < 13 := by omega
        obtain ⟨⟨op, fm⟩, hop⟩ : ∃ p, opsT[n]? = some p := ⟨_, List.getElem?_eq_getElem (show n < 38 by omega)⟩
        have efm := alu_facts n (by omega) _ hop
        rw [if_pos hn] at efm
        walk_at "ws"
        refine ⟨rfl, fun l H3 nl s3 hl3 => ?_⟩
        walk_at "ws"
        refine w_ixL (v := .str op) hl3 (atI_nat (by rw [List.getElem?_map, List.getElem?_map, hop]; rfl)) ?_
        walk_at "ws"
        refine w_reg (hP2.same s3) fun rb H4 hrb hP4 f4 => ?_
        walk_at "ws"
        refine w_kTup (by show 4 ≤ sizeLine; decide) fun t H5 nt s5 ht => ?_
        walk_at "ws"
        refine w_put (hP4.same s5) (by omega) (rowIns (xs := [rd, ra, rb]) n hop (by rw [show fm = _ from efm]; exact .dss hrd hra hrb) ht) fun H6 hP6 f6 => ?_
        walk_at "ws"
        exact q _ H6 hP6 (((f2.trans (.same s3 : FrP p S H2 H3) rfl rfl rfl).trans f4 rfl rfl rfl).trans ((FrP.same s5 : FrP p S H4 H5).trans f6 rfl rfl rfl) rfl rfl rfl)
      · walk_at "ws"
        refine w_dec (fun e2 => ?_) (fun e2 => ?_)
        · have hn : n < 21 := by omega
          obtain ⟨⟨op, fm⟩, hop⟩ : ∃ p, opsT[n]? = some p := ⟨_, List.getElem?_eq_getElem (show n < 38 by omega)⟩
          have efm := alu_facts n hn _ hop
          rw [if_neg (by omega)] at efm
          walk_at "ws"
          refine w_kLst (by show 10 ≤ sizeLine; decide) fun l H3 nl s3 hl3 => ?_
          walk_at "ws"
          refine w_some (hP2.same s3) (by decide) (by decide) fun k H4 k0' k1' hP4 f4 => ?_
          obtain ⟨v, hv, hat⟩ := pick_any [V.int 0, V.int 1, V.int (-1), V.int 2, V.int 4, V.int 7, V.int 31, V.int 8191, V.int (-8192), V.int 255] k0' k1'
          obtain ⟨im, rfl⟩ : ∃ i, v = .int i := by
            simp only [List.mem_cons, List.not_mem_nil, or_false] at hv
            rcases hv with rfl | rfl | rfl | rfl | rfl | rfl | rfl | rfl | rfl | rfl <;> exact ⟨_, rfl⟩
          refine w_ixL (hP2.kept nl hl3 f4) hat ?_
          walk_at "ws"
          refine ⟨rfl, fun l2 H5 nl2 s5 hl5 => ?_⟩
          walk_at "ws"
          refine w_ixL (v := .str op) hl5 (atI_nat (by rw [List.getElem?_map, List.getElem?_map, hop]; rfl)) ?_
          walk_at "ws"
          refine w_kTup (by show 4 ≤ sizeLine; decide) fun t H6 nt s6 ht => ?_
          walk_at "ws"
          refine w_put ((hP4.same s5).same s6) (by omega) (rowIns (xs := [rd, ra, im]) n hop (by rw [show fm = _ from efm]; exact .dsi hrd hra) ht) fun H7 hP7 f7 => ?_
          walk_at "ws"
          exact q _ H7 hP7 (((f2.trans (.same s3 : FrP p S H2 H3) rfl rfl rfl).trans f4 rfl rfl rfl).trans ((FrP.same (s5.trans s6) : FrP p S H4 H6).trans f7 rfl rfl rfl) rfl rfl rfl)
        · walk_at "ws"
          refine w_kLst (by show 4 ≤ sizeLine; decide) fun l H3 nl s3 hl3 => ?_
          walk_at "ws"
          refine w_some (hP2.same s3) (by decide) (by decide) fun k H4 k0' k1' hP4 f4 => ?_
          obtain ⟨v, hv, hat⟩ := pick_any [V.int 0, V.int 1, V.int (262144 - 1), V.int 77] k0' k1'
          obtain ⟨im, rfl⟩ : ∃ i, v = .int i := by
            simp only [List.mem_cons, List.not_mem_nil, or_false] at hv
            rcases hv with rfl | rfl | rfl | rfl <;> exact ⟨_, rfl⟩
          refine w_ixL (hP2.kept nl hl3 f4) hat ?_
          walk_at "ws"
          refine w_kTup (by show 3 ≤ sizeLine; decide) fun t H6 nt s6 ht => ?_
          walk_at "ws"
          refine w_put (hP4.same s6) (by omega) (rowIns (xs := [rd, im]) 21 rfl (.du hrd) ht) fun H7 hP7 f7 => ?_
          walk_at "ws"
          exact q _ H7 hP7 (((f2.trans (.same s3 : FrP p S H2 H3) rfl rfl rfl).trans f4 rfl rfl rfl).trans ((FrP.same s6 : FrP p S H4 H6).trans f7 rfl rfl rfl) rfl rfl rfl)
end
end K03

namespace K03
local macro_rules | `(tactic| walk_at "w1") => `(tactic| first
  | (with_reducible refine w_dget ?_)
  | (with_reducible refine w_dput ?_))
theorem sc_law_memory : FnScope ["p", "k", "size", "offset", "base", "word"] ["p"] (defScope s_law_memory) := ⟨rfl, rfl, rfl, by decide +kernel, rfl, by decide +kernel, by decide +kernel⟩
theorem sc_law_odd : FnScope ["p", "k"] ["p"] (defScope s_law_odd) := ⟨rfl, rfl, rfl, by decide +kernel, rfl, by decide +kernel, by decide +kernel⟩
theorem sc_law_call : FnScope ["p"] ["p"] (defScope s_law_call) := ⟨rfl, rfl, rfl, by decide +kernel, rfl, by decide +kernel, by decide +kernel⟩
def MemW (s : Str) : Prop := ∃ (n : Nat) (fm : Str), opsT[n]? = some (s, fm) ∧ ∀ a b c, R16 a → R16 b → RFits fm [a, b, c]
theorem mw_lb : MemW "lb" := ⟨23, "dsi", rfl, fun _ _ _ h1 h2 => .dsi h1 h2⟩
theorem mw_lbu : MemW "lbu" := ⟨24, "dsi", rfl, fun _ _ _ h1 h2 => .dsi h1 h2⟩
theorem mw_lw : MemW "lw" := ⟨22, "dsi", rfl, fun _ _ _ h1 h2 => .dsi h1 h2⟩
theorem mw_sw : MemW "sw" := ⟨25, "ssi", rfl, fun _ _ _ h1 h2 => .ssi h1 h2⟩
theorem mw_sb : MemW "sb" := ⟨26, "ssi", rfl, fun _ _ _ h1 h2 => .ssi h1 h2⟩
theorem rowTo {L : Nat} {H : Hp} {t t2 : Addr} {op fm : Str} {xs : List Int} {lb : Int} (n : Nat) (h1 : opsT[n]? = some (op, fm)) (h2 : ∀ z, RFits fm (xs ++ [z])) (h3 : H t = some (.tup (insV op xs ++ [.ref t2]))) (h4 : H t2 = some (.tup [.str "to", .int lb])) (h5 : 0 ≤ lb) (h6 : lb < L) : RowOk L H (.ref t) := ⟨t, rfl, .inr (.inl ⟨n, op, fm, xs, t2, lb, h1, h2, h3, h4, h5, h6⟩)⟩
/-- a row is put, the calls not too many -/
def spCall : Sp := fun vs H Q _ => ∃ (p : Addr) (S : PS), vs = [.ref p] ∧ PAt H p S ∧ S.code.length ≤ 99990 ∧ S.calls.length ≤ 100000 ∧ ∀ (v : V) H', PAt H' p { S with code := S.code ++ [v] } → FrP p S H H' → Q .non H'
section
variable {P : Program} {w : World} {K : PySem.W.Frag} {mg : Str → Option Value} {base : Heap}
theorem ok_law_memory (b_int : mg "int" = none) (c_law_some : Cd P w K mg base 2 "_law_some" spSome) (c_law_register : Cd P w K mg base 3 "_law_register" spReg) (c_law_put_word : Cd P w K mg base 1 "_law_put_word" spPut) (Z : St1 K mg "_law_memory" s_law_memory ["p"]) : Cd P w K mg base 4 "_law_memory" spOne := by
  refine Z.cd sc_law_memory (fun vs H Q E h => by obtain ⟨p, S, rfl, _⟩ := h; rfl) (fun f cdv A outer s H vs Q E hr h => ?_)
  obtain ⟨p, S, rfl, hP, hl, q⟩ := h
  refine ⟨_, (pss_cons (ps_set (i := 1) sc_law_memory.nd rfl (.inl rfl) (pe_cd c_law_some hr (by first | decide | omega) (by rfl) (pa_cons (pv 0) (pa_cons pe_int pa_nil))))
      (pss_cons (ps_set (i := 2) sc_law_memory.nd rfl (.inl rfl) (pe_cd c_law_some hr (by first | decide | omega) (by rfl) (pa_cons (pv 0) (pa_cons pe_int pa_nil))))
      (pss_cons (ps_set (i := 3) sc_law_memory.nd rfl (.inl rfl) (pe_op op_mul pe_int (pe_cd c_law_some hr (by first | decide | omega) (by rfl) (pa_cons (pv 0) (pa_cons pe_int pa_nil)))))
      (Evl.pss_cut (ps_if (pt_cmpR op_gt (pv 2) pe_int (nomark _)) (pss_one (ps_set (i := 3) sc_law_memory.nd rfl (.inl rfl) (pe_cd c_law_some hr (by first | decide | omega) (by rfl) (pa_cons (pv 0) (pa_cons pe_int pa_nil))))) pss_nil)
      (pss_cons (ps_set (i := 4) sc_law_memory.nd rfl (.inl rfl) pe_int)
      (Evl.pss_cut (ps_if (pt_cmpR op_gt (pv 1) pe_int (nomark _)) (pss_cons (ps_set (i := 4) sc_law_memory.nd rfl (.inl rfl) pe_int)
      (pss_one (ps_set (i := 3) sc_law_memory.nd rfl (.inl rfl) (pe_op op_mod (pe_callTy call_intQ (by rfl) b_int (by decide +kernel) (pa_cons (pv 3) pa_nil)) pe_int)))) pss_nil)
      (Evl.pss_cut (ps_if (pt_cmpR op_eq (pv 1) pe_int (nomark _)) (pss_one (ps_set (i := 4) sc_law_memory.nd rfl (.inl rfl) (pe_cd c_law_register hr (by first | decide | omega) (by rfl) (pa_cons (pv 0) pa_nil)))) pss_nil)
      (Evl.pss_cut (ps_if (pt_cmpR op_gt (pv 2) pe_int (nomark _)) (pss_one (ps_set (i := 5) sc_law_memory.nd rfl (.inl rfl) (pe_ix ix_list (pe_lst (pa_cons pe_str (pa_cons pe_str (pa_cons pe_str pa_nil)))) (pe_cd c_law_some hr (by first | decide | omega) (by rfl) (pa_cons (pv 0) (pa_cons pe_int pa_nil))) (fun _ _ => rfl)))) (pss_one (ps_set (i := 5) sc_law_memory.nd rfl (.inl rfl) (pe_ix ix_list (pe_lst (pa_cons pe_str (pa_cons pe_str pa_nil))) (pe_cd c_law_some hr (by first | decide | omega) (by rfl) (pa_cons (pv 0) (pa_cons pe_int pa_nil))) (fun _ _ => rfl)))))
      (Evl.pss_cut (ps_if (PW.pt (pw_and (pt_cmpR op_eq (pv 4) pe_int (nomark _)) (pw_and (pt_cmpR op_in_seq (pv 5) (pe_lst (pa_cons pe_str (pa_cons pe_str pa_nil))) rfl) (pw_and1 (pt_cmpR op_gt (pe_cd c_law_some hr (by first | decide | omega) (by rfl) (pa_cons (pv 0) (pa_cons pe_int pa_nil))) pe_int (nomark _)))))) (pss_one (ps_set (i := 5) sc_law_memory.nd rfl (.inl rfl) pe_str)) pss_nil)
      (Evl.pss_cut (ps_if (PW.pt (pw_and (pt_cmpR op_eq (pv 4) pe_int (nomark _)) (pw_and1 (pt_cmpR op_eq (pv 5) pe_str (nomark _))))) (pss_one (ps_set (i := 3) sc_law_memory.nd rfl (.inl rfl) (pe_op op_mul (pe_op op_fdiv (pv 3) pe_int) pe_int))) pss_nil)
      (pss_one (ps_expr (pe_cd c_law_put_word hr (by first | decide | omega) (by rfl) (pa_cons (pv 0) (pa_cons (pe_tup (pa_cons (pv 5) (pa_cons (pe_cd c_law_register hr (by first | decide | omega) (by rfl) (pa_cons (pv 0) pa_nil)) (pa_cons (pv 4) (pa_cons (pv 3) pa_nil))))) pa_nil))))))))))))))), ?_⟩
  walk_at "ws"
  refine w_some hP (by decide) (by decide) fun k H1 k0 k1 hP1 f1 => ?_
  walk_at "ws"
  refine w_some hP1 (by decide) (by decide) fun size H2 z0 z1 hP2 f2 => ?_
  walk_at "ws"
  refine w_some hP2 (by decide) (by decide) fun off H3 o0 o1 hP3 f3 => ?_
  have f123 := (f1.trans f2 rfl rfl rfl).trans f3 rfl rfl rfl
  walk_at "ws"
  refine Evl.q_cut (M := fun σ' H' => PAt H' p S ∧ FrP p S H H' ∧ ∃ o : Int, σ' = [some (.ref p), some (.int k), some (.int size), some (.int o), none, none]) ?_ ?_
  · walk_at "ws"
    refine w_dec (fun e => ?_) (fun e => ?_)
    · walk_at "ws"
      refine w_some hP3 (by decide) (by decide) fun off H4 o0 o1 hP4 f4 => ?_
      walk_at "ws"
      exact ⟨hP4, f123.trans f4 rfl rfl rfl, _, rfl⟩
    · walk_at "ws"
      exact ⟨hP3, f123, _, rfl⟩
  · rintro σ' H4 ⟨hP4, f4, o, rfl⟩
    walk_at "ws"
    refine Evl.q_cut (M := fun σ' H' => PAt H' p S ∧ FrP p S H H' ∧ ∃ o b : Int, R16 b ∧ σ' = [some (.ref p), some (.int k), some (.int size), some (.int o), some (.int b), none]) ?_ ?_
    · refine w_ifS ?_
      walk_at "ws"
      refine w_dec (fun e => ?_) (fun e => ?_)
      · walk_at "ws"
        exact ⟨hP4, f4, _, _, ⟨by decide, by decide⟩, rfl⟩
      · walk_at "ws"
        exact ⟨hP4, f4, _, _, ⟨by decide, by decide⟩, rfl⟩
    · rintro σ' H5 ⟨hP5, f5, o2, b, hb, rfl⟩
      walk_at "ws"
      refine Evl.q_cut (M := fun σ' H' => PAt H' p S ∧ FrP p S H H' ∧ ∃ o b : Int, R16 b ∧ σ' = [some (.ref p), some (.int k), some (.int size), some (.int o), some (.int b), none]) ?_ ?_
      · walk_at "ws"
        refine w_dec (fun e => ?_) (fun e => ?_)
        · walk_at "ws"
          refine w_reg hP5 fun r H6 hr6 hP6 f6 => ?_
          walk_at "ws"
          exact ⟨hP6, f5.trans f6 rfl rfl rfl, _, _, hr6, rfl⟩
        · walk_at "ws"
          exact ⟨hP5, f5, _, _, hb, rfl⟩
      · rintro σ' H6 ⟨hP6, f6, o3, b2, hb2, rfl⟩
        walk_at "ws"
        refine Evl.q_cut (M := fun σ' H' => PAt H' p S ∧ FrP p S H H' ∧ ∃ wd : Str, MemW wd ∧ σ' = [some (.ref p), some (.int k), some (.int size), some (.int o3), some (.int b2), some (.str wd)]) ?_ ?_
        · walk_at "ws"
          refine w_dec (fun e => ?_) (fun e => ?_)
          · walk_at "ws"
            refine w_kLst (by show 3 ≤ sizeLine; decide) fun l H7 nl s7 hl7 => ?_
            walk_at "ws"
            refine w_some (hP6.same s7) (by decide) (by decide) fun j H8 j0 j1 hP8 f8 => ?_
            obtain ⟨v, hv, hat⟩ := pick_any [V.str "lb", V.str "lbu", V.str "sb"] j0 j1
            obtain ⟨wd, hwd, rfl⟩ : ∃ i, MemW i ∧ v = .str i := by
              simp only [List.mem_cons, List.not_mem_nil, or_false] at hv
              rcases hv with rfl | rfl | rfl <;> first | exact ⟨_, mw_lb, rfl⟩ | exact ⟨_, mw_lbu, rfl⟩ | exact ⟨_, mw_sb, rfl⟩
            refine w_ixL (hP6.kept nl hl7 f8) hat ?_
            walk_at "ws"
            exact ⟨hP8, (f6.trans (.same s7 : FrP p S H6 H7) rfl rfl rfl).trans f8 rfl rfl rfl, _, hwd, rfl⟩
          · walk_at "ws"
            refine w_kLst (by show 2 ≤ sizeLine; decide) fun l H7 nl s7 hl7 => ?_
            walk_at "ws"
            refine w_some (hP6.same s7) (by decide) (by decide) fun j H8 j0 j1 hP8 f8 => ?_
            obtain ⟨v, hv, hat⟩ := pick_any [V.str "lw", V.str "sw"] j0 j1
            obtain ⟨wd, hwd, rfl⟩ : ∃ i, MemW i ∧ v = .str i := by
              simp only [List.mem_cons, List.not_mem_nil, or_false] at hv
              rcases hv with rfl | rfl <;> first | exact ⟨_, mw_lw, rfl⟩ | exact ⟨_, mw_sw, rfl⟩
            refine w_ixL (hP6.kept nl hl7 f8) hat ?_
            walk_at "ws"
            exact ⟨hP8, (f6.trans (.same s7 : FrP p S H6 H7) rfl rfl rfl).trans f8 rfl rfl rfl, _, hwd, rfl⟩
        · rintro σ' H7 ⟨hP7, f7, wd, hwd, rfl⟩
          walk_at "ws"
          refine Evl.q_cut (M := fun σ' H' => PAt H' p S ∧ FrP p S H H' ∧ ∃ wd : Str, MemW wd ∧ σ' = [some (.ref p), some (.int k), some (.int size), some (.int o3), some (.int b2), some (.str wd)]) ?_ ?_
          · walk_at "ws"
            refine w_dec (fun e => ?_) (fun e => ?_)
            · walk_at "ws"
              refine w_kLst (by show 2 ≤ sizeLine; decide) fun l H8 nl s8 hl8 => ?_
              refine w_inL (b := inV (.str wd) [.str "sw", .str "sb"]) hl8 rfl rfl rfl ?_
              walk_at "ws"
              refine w_bool (fun e => ?_) (fun e => ?_)
              · walk_at "ws"
                refine w_some (hP7.same s8) (by decide) (by decide) fun j H9 j0 j1 hP9 f9 => ?_
                have f79 := f7.trans ((FrP.same s8 : FrP p S H7 H8).trans f9 rfl rfl rfl) rfl rfl rfl
                walk_at "ws"
                refine w_dec (fun e => ?_) (fun e => ?_)
                · walk_at "ws"
                  exact ⟨hP9, f79, _, mw_lbu, rfl⟩
                · walk_at "ws"
                  exact ⟨hP9, f79, _, hwd, rfl⟩
              · walk_at "ws"
                exact ⟨hP7.same s8, f7.trans (.same s8 : FrP p S H7 H8) rfl rfl rfl, _, hwd, rfl⟩
            · walk_at "ws"
              exact ⟨hP7, f7, _, hwd, rfl⟩
          · rintro σ' H8 ⟨hP8, f8, wd2, hwd2, rfl⟩
            walk_at "ws"
            refine Evl.q_cut (M := fun σ' H' => PAt H' p S ∧ FrP p S H H' ∧ ∃ o : Int, σ' = [some (.ref p), some (.int k), some (.int size), some (.int o), some (.int b2), some (.str wd2)]) ?_ ?_
            · walk_at "ws"
              refine w_dec (fun e => ?_) (fun e => ?_)
              · walk_at "ws"
                refine w_bool (fun e => ?_) (fun e => ?_)
                · walk_at "ws"
                  exact ⟨hP8, f8, _, rfl⟩
                · walk_at "ws"
                  exact ⟨hP8, f8, _, rfl⟩
              · walk_at "ws"
                exact ⟨hP8, f8, _, rfl⟩
            · rintro σ' H9 ⟨hP9, f9, o4, rfl⟩
              walk_at "ws"
              refine w_reg hP9 fun r H10 hr10 hP10 f10 => ?_
              walk_at "ws"
              refine w_kTup (by show 4 ≤ sizeLine; decide) fun t H11 nt s11 ht => ?_
              walk_at "ws"
              obtain ⟨n, fm, e1, e2⟩ := hwd2
              refine w_put (hP10.same s11) (by omega) (rowIns (xs := [r, b2, o4]) n e1 (e2 _ _ _ hr10 hb2) ht) fun H12 hP12 f12 => ?_
              walk_at "ws"
              exact q _ H12 hP12 ((f9.trans f10 rfl rfl rfl).trans ((FrP.same s11 : FrP p S H10 H11).trans f12 rfl rfl rfl) rfl rfl rfl)
theorem ok_law_odd (c_law_some : Cd P w K mg base 2 "_law_some" spSome) (c_law_register : Cd P w K mg base 3 "_law_register" spReg) (c_law_put_word : Cd P w K mg base 1 "_law_put_word" spPut) (Z : St1 K mg "_law_odd" s_law_odd ["p"]) : Cd P w K mg base 4 "_law_odd" spOne := by
  refine Z.cd sc_law_odd (fun vs H Q E h => by obtain ⟨p, S, rfl, _⟩ := h; rfl) (fun f cdv A outer s H vs Q E hr h => ?_)
  obtain ⟨p, S, rfl, hP, hl, q⟩ := h
  refine ⟨_, (pss_cons (ps_set (i := 1) sc_law_odd.nd rfl (.inl rfl) (pe_cd c_law_some hr (by first | decide | omega) (by rfl) (pa_cons (pv 0) (pa_cons pe_int pa_nil))))
      (pss_one (ps_if (pt_cmpR op_eq (pv 1) pe_int (nomark _)) (pss_one (ps_expr (pe_cd c_law_put_word hr (by first | decide | omega) (by rfl) (pa_cons (pv 0) (pa_cons (pe_tup (pa_cons pe_str (pa_cons (pe_ix ix_list (pe_lst (pa_cons pe_int (pa_cons (pe_op op_sub (pe_op op_pow pe_int pe_int) pe_int) (pa_cons (pe_op op_add (pe_op op_pow pe_int pe_int) pe_int) pa_nil)))) (pe_cd c_law_some hr (by first | decide | omega) (by rfl) (pa_cons (pv 0) (pa_cons pe_int pa_nil))) (fun _ _ => rfl)) pa_nil))) pa_nil))))) (pss_one (ps_if (pt_cmpR op_eq (pv 1) pe_int (nomark _)) (pss_one (ps_expr (pe_cd c_law_put_word hr (by first | decide | omega) (by rfl) (pa_cons (pv 0) (pa_cons (pe_tup (pa_cons pe_str (pa_cons (pe_ix ix_list (pe_lst (pa_cons pe_int (pa_cons pe_int (pa_cons pe_int pa_nil)))) (pe_cd c_law_some hr (by first | decide | omega) (by rfl) (pa_cons (pv 0) (pa_cons pe_int pa_nil))) (fun _ _ => rfl)) (pa_cons (pe_cd c_law_register hr (by first | decide | omega) (by rfl) (pa_cons (pv 0) pa_nil)) (pa_cons (pe_op op_mul pe_int (pe_cd c_law_some hr (by first | decide | omega) (by rfl) (pa_cons (pv 0) (pa_cons pe_int pa_nil)))) pa_nil))))) pa_nil))))) (pss_one (ps_if (pt_cmpR op_eq (pv 1) pe_int (nomark _)) (pss_one (ps_expr (pe_cd c_law_put_word hr (by first | decide | omega) (by rfl) (pa_cons (pv 0) (pa_cons (pe_tup (pa_cons pe_str (pa_cons (pe_cd c_law_register hr (by first | decide | omega) (by rfl) (pa_cons (pv 0) pa_nil)) pa_nil))) pa_nil))))) (pss_one (ps_expr (pe_cd c_law_put_word hr (by first | decide | omega) (by rfl) (pa_cons (pv 0) (pa_cons (pe_tup (pa_cons pe_str (pa_cons (pe_cd c_law_register hr (by first | decide | omega) (by rfl) (pa_cons (pv 0) pa_nil)) (pa_cons pe_int pa_nil)))) pa_nil)))))))))))), ?_⟩
  walk_at "ws"
  refine w_some hP (by decide) (by decide) fun k H1 k0 k1 hP1 f1 => ?_
  walk_at "ws"
  refine w_dec (fun e => ?_) (fun e => ?_)
  · walk_at "ws"
    refine w_kLst (by show 3 ≤ sizeLine; decide) fun l H3 nl s3 hl3 => ?_
    walk_at "ws"
    refine w_some (hP1.same s3) (by decide) (by decide) fun k H4 k0' k1' hP4 f4 => ?_
    obtain ⟨v, hv, hat⟩ := pick_any [V.int 0, V.int (4294967296 - 1), V.int (67108864 + 1)] k0' k1'
    obtain ⟨im, h0, h1, rfl⟩ : ∃ i : Int, 0 ≤ i ∧ i < 4294967296 ∧ v = .int i := by
      simp only [List.mem_cons, List.not_mem_nil, or_false] at hv
      rcases hv with rfl | rfl | rfl <;> exact ⟨_, by decide, by decide, rfl⟩
    refine w_ixL (hP1.kept nl hl3 f4) hat ?_
    walk_at "ws"
    refine w_kTup (by show 2 ≤ sizeLine; decide) fun t H6 nt s6 ht => ?_
    walk_at "ws"
    refine w_put (hP4.same s6) (by omega) ⟨t, rfl, .inr (.inr ⟨im, h0, h1, ht⟩)⟩ fun H7 hP7 f7 => ?_
    walk_at "ws"
    exact q _ H7 hP7 (((f1.trans (.same s3 : FrP p S H1 H3) rfl rfl rfl).trans f4 rfl rfl rfl).trans ((FrP.same s6 : FrP p S H4 H6).trans f7 rfl rfl rfl) rfl rfl rfl)
  · walk_at "ws"
    refine w_dec (fun e => ?_) (fun e => ?_)
    · walk_at "ws"
      refine w_kLst (by show 3 ≤ sizeLine; decide) fun l H3 nl s3 hl3 => ?_
      walk_at "ws"
      refine w_some (hP1.same s3) (by decide) (by decide) fun k H4 k0' k1' hP4 f4 => ?_
      obtain ⟨v, hv, hat⟩ := pick_any [V.int 0, V.int 15, V.int 3] k0' k1'
      obtain ⟨im, h0, rfl⟩ : ∃ i : Int, R16 i ∧ v = .int i := by
        simp only [List.mem_cons, List.not_mem_nil, or_false] at hv
        rcases hv with rfl | rfl | rfl <;> exact ⟨_, ⟨by decide, by decide⟩, rfl⟩
      refine w_ixL (hP1.kept nl hl3 f4) hat ?_
      walk_at "ws"
      refine w_reg hP4 fun r H5 hr5 hP5 f5 => ?_
      walk_at "ws"
      refine w_some hP5 (by decide) (by decide) fun o H6 _ _ hP6 f6 => ?_
      walk_at "ws"
      refine w_kTup (by show 4 ≤ sizeLine; decide) fun t H7 nt s7 ht => ?_
      walk_at "ws"
      refine w_put (hP6.same s7) (by omega) (rowIns (xs := [im, r, 4 * o]) 34 rfl (.dsi h0 hr5) ht) fun H8 hP8 f8 => ?_
      walk_at "ws"
      exact q _ H8 hP8 (((((f1.trans (.same s3 : FrP p S H1 H3) rfl rfl rfl).trans f4 rfl rfl rfl).trans f5 rfl rfl rfl).trans f6 rfl rfl rfl).trans ((FrP.same s7 : FrP p S H6 H7).trans f8 rfl rfl rfl) rfl rfl rfl)
    · walk_at "ws"
      refine w_dec (fun e => ?_) (fun e => ?_)
      · walk_at "ws"
        refine w_reg hP1 fun r H5 hr5 hP5 f5 => ?_
        walk_at "ws"
        refine w_kTup (by show 2 ≤ sizeLine; decide) fun t H7 nt s7 ht => ?_
        walk_at "ws"
        refine w_put (hP5.same s7) (by omega) (rowIns (xs := [r]) 37 rfl (.s hr5) ht) fun H8 hP8 f8 => ?_
        walk_at "ws"
        exact q _ H8 hP8 ((f1.trans f5 rfl rfl rfl).trans ((FrP.same s7 : FrP p S H5 H7).trans f8 rfl rfl rfl) rfl rfl rfl)
      · walk_at "ws"
        refine w_reg hP1 fun r H5 hr5 hP5 f5 => ?_
        walk_at "ws"
        refine w_kTup (by show 3 ≤ sizeLine; decide) fun t H7 nt s7 ht => ?_
        walk_at "ws"
        refine w_put (hP5.same s7) (by omega) (rowIns (xs := [r, 1]) 33 rfl (.dj hr5) ht) fun H8 hP8 f8 => ?_
        walk_at "ws"
        exact q _ H8 hP8 ((f1.trans f5 rfl rfl rfl).trans ((FrP.same s7 : FrP p S H5 H7).trans f8 rfl rfl rfl) rfl rfl rfl)
theorem ok_law_call (b_len : mg "len" = none) (c_law_some : Cd P w K mg base 2 "_law_some" spSome) (c_law_alu : Cd P w K mg base 4 "_law_alu" spOne) (c_law_put_word : Cd P w K mg base 1 "_law_put_word" spPut) (Z : St1 K mg "_law_call" s_law_call ["p"]) : Cd P w K mg base 5 "_law_call" spCall := by
  refine Z.cd sc_law_call (fun vs H Q E h => by obtain ⟨p, S, rfl, _⟩ := h; rfl) (fun f cdv A outer s H vs Q E hr h => ?_)
  obtain ⟨p, S, rfl, hP, hl, hcl, q⟩ := h
  have hu := hu_of hr
  refine ⟨_, (pss_one (ps_if (pt_cmpR op_eq (pe_callB call_lenQ (by rfl) b_len PySem.boot_len (pa_cons (pe_dget hu (pv 0) pe_str (fun _ _ => rfl)) pa_nil)) pe_int (nomark _)) (pss_one (ps_expr (pe_cd c_law_alu hr (by first | decide | omega) (by rfl) (pa_cons (pv 0) pa_nil)))) (pss_one (ps_expr (pe_cd c_law_put_word hr (by first | decide | omega) (by rfl) (pa_cons (pv 0) (pa_cons (pe_tup (pa_cons pe_str (pa_cons pe_int (pa_cons (pe_tup (pa_cons pe_str (pa_cons (pe_ix ix_list (pe_dget hu (pv 0) pe_str (fun _ _ => rfl)) (pe_cd c_law_some hr (by first | decide | omega) (by rfl) (pa_cons (pv 0) (pa_cons (pe_callB call_lenQ (by rfl) b_len PySem.boot_len (pa_cons (pe_dget hu (pv 0) pe_str (fun _ _ => rfl)) pa_nil)) pa_nil))) (fun _ _ => rfl)) pa_nil))) pa_nil)))) pa_nil))))))), ?_⟩
  walk_at "ws"
  refine w_kDG hP.hp rfl ?_
  have hc := hP.hcl
  walk_at "ws"
  refine w_dec (fun e => ?_) (fun e => ?_)
  · walk_at "ws"
    refine ⟨p, S, rfl, hP, hl, fun v H1 hP1 f1 => ?_⟩
    walk_at "ws"
    exact q _ H1 hP1 f1
  · walk_at "ws"
    refine w_kDG hP.hp rfl ?_
    walk_at "ws"
    refine w_kDG hP.hp rfl ?_
    walk_at "ws"
    refine w_some hP (by rw [List.length_map] at e ⊢; omega) (by rw [List.length_map]; omega) fun j H4 j0 j1 hP4 f4 => ?_
    obtain ⟨v, hv, hat⟩ := pick_any _ j0 j1
    obtain ⟨lb, hlb, rfl⟩ := List.mem_map.mp hv
    refine w_ixL (hP4.hcl) hat ?_
    walk_at "ws"
    refine w_kTup (by show 2 ≤ sizeLine; decide) fun t H6 nt s6 ht => ?_
    walk_at "ws"
    refine w_kTup (by show 3 ≤ sizeLine; decide) fun t2 H7 nt2 s7 ht2 => ?_
    walk_at "ws"
    refine w_put ((hP4.same s6).same s7) (by omega) (rowTo (xs := [15]) 33 rfl (fun z => .dj ⟨by decide, by decide⟩) ht2 (s7 _ _ ht) (hP.cls _ hlb).1 (hP.cls _ hlb).2) fun H8 hP8 f8 => ?_
    walk_at "ws"
    exact q _ H8 hP8 (f4.trans ((FrP.same (s6.trans s7) : FrP p S H4 H7).trans f8 rfl rfl rfl) rfl rfl rfl)
end
end K03

namespace K03
local macro_rules | `(tactic| walk_at "w1") => `(tactic| first
  | (with_reducible refine w_dget ?_)
  | (with_reducible refine w_dput ?_))
theorem sc_law_if : FnScope ["p", "depth", "word", "rb", "other", "last"] ["p", "depth"] (defScope s_law_if) := ⟨rfl, rfl, rfl, by decide +kernel, rfl, by decide +kernel, by decide +kernel⟩
theorem sc_law_loop : FnScope ["p", "depth", "counter", "top"] ["p", "depth"] (defScope s_law_loop) := ⟨rfl, rfl, rfl, by decide +kernel, rfl, by decide +kernel, by decide +kernel⟩
theorem sc_law_switch : FnScope ["p", "depth", "first", "second", "last", "index"] ["p", "depth"] (defScope s_law_switch) := ⟨rfl, rfl, rfl, by decide +kernel, rfl, by decide +kernel, by decide +kernel⟩
theorem sc_law_rows : FnScope ["p", "depth", "k", "what"] ["p", "depth"] (defScope s_law_rows) := ⟨rfl, rfl, rfl, by decide +kernel, rfl, by decide +kernel, by decide +kernel⟩
theorem w_cat {l b : Addr} {xs zs : List V} {H : Hp} {Q : VK} (h1 : H l = some (.lst xs)) (h2 : H b = some (.lst zs)) (hl : xs.length + zs.length ≤ sizeLine) (q : ∀ p H', H p = none → Same H H' → H' p = some (.lst (xs ++ zs)) → Q (.ref p) H') : rCat (.ref l) (.ref b) H Q :=
  ⟨l, b, xs, zs, rfl, rfl, h1, h2, hl, fun p np => q p _ np (fun b x e => by rw [upd_ne (ne_of_none e np)]; exact e) upd_same⟩
theorem PAt.table {H H' : Hp} {p t : Addr} {S : PS} {ts : List Int} (h : PAt H p S) (b : But p H H') (hp : H' p = some (.dK (pD (.ref S.d) (.ref S.c) (.ref S.a) (.ref S.cl) (.ref t) (.int S.left)))) (ht : H t = some (.lst (ts.map V.int))) (n1 : t ≠ S.d) (n2 : t ≠ S.c) (n3 : t ≠ S.a) (hts : ∀ l ∈ ts, 0 ≤ l ∧ l < S.at_.length) : PAt H' p { S with tb := t, tbl := ts } ∧ FrP p S H H' := by
  obtain ⟨xs, hx⟩ := h.hdl
  obtain ⟨ys, hy⟩ := h.hccl
  refine ⟨{ h with hp := hp, hd := h.hd.keep (fun o => b _ o (h.nep hx)) (fun o => b _ o (h.nep hy)), hc := b _ _ (h.nep h.hc) h.hc, ha := b _ _ (h.nep h.ha) h.ha, hcl := b _ _ (h.nep h.hcl) h.hcl, htb := b _ _ (h.nep ht) ht, td := n1, tc := n2, ta := n3, rows := fun v hv => (h.rows v hv).keep (.dic b h.hp) (Nat.le_refl _), tls := hts }, fun q o h1 _ _ _ e => b q o h1 e⟩
theorem PAt.lft {H H' : Hp} {p : Addr} {S : PS} {n : Int} (h : PAt H p S) (b : But p H H') (hp : H' p = some (.dK (pD (.ref S.d) (.ref S.c) (.ref S.a) (.ref S.cl) (.ref S.tb) (.int n)))) (hn : 0 ≤ n) : PAt H' p { S with left := n } ∧ FrP p S H H' := by
  obtain ⟨xs, hx⟩ := h.hdl
  obtain ⟨ys, hy⟩ := h.hccl
  refine ⟨{ h with hp := hp, hd := h.hd.keep (fun o => b _ o (h.nep hx)) (fun o => b _ o (h.nep hy)), hc := b _ _ (h.nep h.hc) h.hc, ha := b _ _ (h.nep h.ha) h.ha, hcl := b _ _ (h.nep h.hcl) h.hcl, htb := b _ _ (h.nep h.htb) h.htb, rows := fun v hv => (h.rows v hv).keep (.dic b h.hp) (Nat.le_refl _), lf := hn }, fun q o h1 _ _ _ e => b q o h1 e⟩
/-- what is reached from S, with so much more code, labels, table -/
structure Rch (p : Addr) (S : PS) (H : Hp) (c a t : Nat) (S' : PS) (H' : Hp) : Prop where
  pt : PAt H' p S'
  fr : FrP p S H H'
  ed : S'.d = S.d
  ec : S'.c = S.c
  ea : S'.a = S.a
  ek : S'.cc = S.cc
  el : S'.cl = S.cl
  eq : S'.calls = S.calls
  al : S.at_.length ≤ S'.at_.length
  cg : S.code.length ≤ S'.code.length
  lf : S'.left ≤ S.left
  c6 : (S'.code.length : Int) + 6 * S'.left ≤ S.code.length + 6 * S.left + c
  a6 : (S'.at_.length : Int) + 6 * S'.left ≤ S.at_.length + 6 * S.left + a
  t6 : (S'.tbl.length : Int) + 6 * S'.left ≤ S.tbl.length + 6 * S.left + t
structure Tot (S : PS) (m : Int) : Prop where
  c : (S.code.length : Int) + 6 * S.left ≤ m
  a : (S.at_.length : Int) + 6 * S.left ≤ m
  t : (S.tbl.length : Int) + 6 * S.left ≤ m
  l : S.calls.length ≤ 90000
theorem Rch.refl {p : Addr} {S : PS} {H : Hp} (h : PAt H p S) : Rch p S H 0 0 0 S H := ⟨h, fun _ _ _ _ _ _ e => e, rfl, rfl, rfl, rfl, rfl, rfl, Nat.le_refl _, Nat.le_refl _, Int.le_refl _, by omega, by omega, by omega⟩
theorem Rch.trans {p : Addr} {S S1 S2 : PS} {H H1 H2 : Hp} {c a t c' a' t' : Nat} (x : Rch p S H c a t S1 H1) (y : Rch p S1 H1 c' a' t' S2 H2) : Rch p S H (c + c') (a + a') (t + t') S2 H2 := by
  have := x.al; have := x.lf; have := x.c6; have := x.a6; have := x.t6
  have := y.al; have := y.lf; have := y.c6; have := y.a6; have := y.t6
  exact ⟨y.pt, x.fr.trans y.fr x.ed x.ec x.ea, y.ed.trans x.ed, y.ec.trans x.ec, y.ea.trans x.ea, y.ek.trans x.ek, y.el.trans x.el, y.eq.trans x.eq, by omega, Nat.le_trans x.cg y.cg, by omega, by omega, by omega, by omega⟩
theorem Rch.weak {p : Addr} {S S1 : PS} {H H1 : Hp} {c a t c' a' t' : Nat} (x : Rch p S H c a t S1 H1) (h1 : c ≤ c') (h2 : a ≤ a') (h3 : t ≤ t') : Rch p S H c' a' t' S1 H1 := by
  have := x.al; have := x.lf; have := x.c6; have := x.a6; have := x.t6
  exact { x with c6 := by omega, a6 := by omega, t6 := by omega }
theorem Rch.tot {p : Addr} {S S1 : PS} {H H1 : Hp} {c a t : Nat} {m : Int} (n : Nat) (x : Rch p S H c a t S1 H1) (h : Tot S m) (h1 : c ≤ n) (h2 : a ≤ n) (h3 : t ≤ n) : Tot S1 (m + n) := by
  have := x.al; have := x.lf; have := x.c6; have := x.a6; have := x.t6
  have := h.c; have := h.a; have := h.t
  exact ⟨by omega, by omega, by omega, by rw [x.eq]; exact h.l⟩
theorem Rch.of {p : Addr} {S S1 : PS} {H H1 H2 : Hp} {c a t : Nat} (x : Rch p S H c a t S1 H1) (h : PAt H2 p S1) (f : FrP p S1 H1 H2) : Rch p S H c a t S1 H2 := { x with pt := h, fr := x.fr.trans f x.ed x.ec x.ea }
theorem Rch.sm {p : Addr} {S S1 : PS} {H H1 H2 : Hp} {c a t : Nat} (x : Rch p S H c a t S1 H1) (s : Same H1 H2) : Rch p S H c a t S1 H2 := x.of (x.pt.same s) (.same s)
theorem Rch.cod {p : Addr} {S S1 : PS} {H H1 H2 : Hp} {c a t : Nat} (x : Rch p S H c a t S1 H1) {v : V} (h : PAt H2 p { S1 with code := S1.code ++ [v] }) (f : FrP p S1 H1 H2) : Rch p S H (c + 1) a t { S1 with code := S1.code ++ [v] } H2 := by
  have := x.c6; have := x.cg
  exact { x with pt := h, fr := x.fr.trans f x.ed x.ec x.ea, cg := by show S.code.length ≤ (S1.code ++ [v]).length; rw [List.length_append]; omega, c6 := by show ((S1.code ++ [v]).length : Int) + _ ≤ _; rw [List.length_append]; simp only [List.length_cons, List.length_nil]; show ((S1.code.length + (0 + 1) : Nat) : Int) + 6 * S1.left ≤ _; omega }
theorem Rch.lab {p : Addr} {S S1 : PS} {H H1 H2 : Hp} {c a t : Nat} (x : Rch p S H c a t S1 H1) {ls : List Int} (n : Nat) (h : PAt H2 p { S1 with at_ := ls }) (f : FrP p S1 H1 H2) (e : ls.length = S1.at_.length + n) : Rch p S H c (a + n) t { S1 with at_ := ls } H2 := by
  have := x.a6; have := x.al
  exact { x with pt := h, fr := x.fr.trans f x.ed x.ec x.ea, al := by show S.at_.length ≤ ls.length; omega, a6 := by show (ls.length : Int) + 6 * S1.left ≤ _; omega }
theorem Rch.tab {p : Addr} {S S1 : PS} {H H1 H2 : Hp} {c a t : Nat} (x : Rch p S H c a t S1 H1) {u : Addr} {ts : List Int} (n : Nat) (h : PAt H2 p { S1 with tb := u, tbl := ts }) (f : FrP p S1 H1 H2) (e : ts.length = S1.tbl.length + n) : Rch p S H c a (t + n) { S1 with tb := u, tbl := ts } H2 := by
  have := x.t6
  exact { x with pt := h, fr := x.fr.trans f x.ed x.ec x.ea, t6 := by show (ts.length : Int) + 6 * S1.left ≤ _; omega }
theorem Rch.dec {p : Addr} {S S1 S3 : PS} {H H1 H2 H3 : Hp} (x : Rch p S H 0 0 0 S1 H1) (f : FrP p S1 H1 H2) (y : Rch p { S1 with left := S1.left - 1 } H2 6 6 6 S3 H3) : Rch p S H 0 0 0 S3 H3 := by
  have := x.al; have := x.lf; have := x.c6; have := x.a6; have := x.t6
  obtain ⟨y1, y2, y3, y4, y5, y6, y7, y8, y9, y14, y10, y11, y12, y13⟩ := y
  dsimp only at y3 y4 y5 y6 y7 y8 y9 y14 y10 y11 y12 y13
  exact ⟨y1, (x.fr.trans f x.ed x.ec x.ea).trans y2 x.ed x.ec x.ea, y3.trans x.ed, y4.trans x.ec, y5.trans x.ea, y6.trans x.ek, y7.trans x.el, y8.trans x.eq, by omega, Nat.le_trans x.cg y14, by omega, by omega, by omega, by omega⟩
section
variable {p : Addr} {S S1 : PS} {H H1 : Hp} {c a t : Nat} {Q : VK} {E : XK}
theorem x_some {m : Int} (R : Rch p S H c a t S1 H1) (h0 : 0 < m) (h1 : m ≤ 4294967296) (q : ∀ (r : Int) H2, 0 ≤ r → r < m → Rch p S H c a t S1 H2 → Q (.int r) H2) : spSome [.ref p, .int m] H1 Q E :=
  w_some R.pt h0 h1 fun r H2 r0 r1 hP f => q r H2 r0 r1 (R.of hP f)
theorem x_reg (R : Rch p S H c a t S1 H1) (q : ∀ (r : Int) H2, R16 r → Rch p S H c a t S1 H2 → Q (.int r) H2) : spReg [.ref p] H1 Q E :=
  w_reg R.pt fun r H2 r0 hP f => q r H2 r0 (R.of hP f)
theorem x_label {m : Int} (R : Rch p S H c a t S1 H1) (hT : Tot S m) (hm : m + a ≤ 100000) (q : ∀ (S2 : PS) (l : Int) H2, 0 ≤ l → l < S2.at_.length → S1.at_.length ≤ S2.at_.length → S2.tb = S1.tb → S2.tbl = S1.tbl → Rch p S H c (a + 1) t S2 H2 → Q (.int l) H2) : spLabel [.ref p] H1 Q E := by
  have := R.a6; have := hT.a; have := R.pt.lf
  refine ⟨p, S1, rfl, R.pt, by omega, fun H2 hP f => q { S1 with at_ := S1.at_ ++ [-1] } _ H2 (by omega) ?_ ?_ rfl rfl (R.lab 1 hP f (by rw [List.length_append]; rfl))⟩
  · show (S1.at_.length : Int) < ((S1.at_ ++ [-1]).length : Nat); rw [List.length_append]; simp only [List.length_cons, List.length_nil]; omega
  · show S1.at_.length ≤ (S1.at_ ++ [-1]).length; rw [List.length_append]; omega
theorem x_here {m l : Int} (R : Rch p S H c a t S1 H1) (hT : Tot S m) (hm : m + c ≤ 100000) (l0 : 0 ≤ l) (l1 : l < S1.at_.length) (q : ∀ (S2 : PS) H2, S1.at_.length ≤ S2.at_.length → Rch p S H c a t S2 H2 → Q .non H2) : spHere [.ref p, .int l] H1 Q E := by
  have := R.c6; have := hT.c; have := R.pt.lf
  exact ⟨p, S1, l, rfl, R.pt, by omega, l0, l1, fun ls H2 e hP f => q _ H2 (by show S1.at_.length ≤ ls.length; omega) (R.lab 0 hP f e)⟩
theorem x_put {m : Int} {v : V} (R : Rch p S H c a t S1 H1) (hT : Tot S m) (hm : m + c ≤ 100000) (hv : RowOk S1.at_.length H1 v) (q : ∀ (S2 : PS) H2, S1.at_.length ≤ S2.at_.length → S2.tb = S1.tb → S2.tbl = S1.tbl → Rch p S H (c + 1) a t S2 H2 → Q .non H2) : spPut [.ref p, v] H1 Q E := by
  have := R.c6; have := hT.c; have := R.pt.lf
  exact w_put R.pt (by omega) hv fun H2 hP f => q { S1 with code := S1.code ++ [v] } H2 (Nat.le_refl _) rfl rfl (R.cod hP f)
theorem x_one {m : Int} (R : Rch p S H c a t S1 H1) (hT : Tot S m) (hm : m + c ≤ 99990) (q : ∀ (S2 : PS) H2, Rch p S H (c + 1) a t S2 H2 → Q .non H2) : spOne [.ref p] H1 Q E := by
  have := R.c6; have := hT.c; have := R.pt.lf
  exact ⟨p, S1, rfl, R.pt, by omega, fun v H2 hP f => q _ H2 (R.cod hP f)⟩
theorem x_call {m : Int} (R : Rch p S H c a t S1 H1) (hT : Tot S m) (hm : m + c ≤ 99990) (q : ∀ (S2 : PS) H2, Rch p S H (c + 1) a t S2 H2 → Q .non H2) : spCall [.ref p] H1 Q E := by
  have := R.c6; have := hT.c; have := R.pt.lf; have := hT.l
  exact ⟨p, S1, rfl, R.pt, by omega, by rw [R.eq]; omega, fun v H2 hP f => q _ H2 (R.cod hP f)⟩
/-- rows of a depth of at most d -/
def spRows (d : Int) : Sp := fun vs H Q _ => ∃ (p : Addr) (S : PS) (e : Int), vs = [.ref p, .int e] ∧ e ≤ d ∧ PAt H p S ∧ Tot S 90000 ∧ ∀ S' H', Rch p S H 0 0 0 S' H' → Q .non H'
/-- a block of a depth of at most d -/
def spBlk (d : Int) : Sp := fun vs H Q _ => ∃ (p : Addr) (S : PS) (e : Int), vs = [.ref p, .int e] ∧ 0 < e ∧ e ≤ d ∧ PAt H p S ∧ Tot S 89994 ∧ ∀ S' H', Rch p S H 6 6 6 S' H' → Q .non H'
theorem x_rows {d e m : Int} (R : Rch p S H c a t S1 H1) (hT : Tot S m) (h1 : m + c ≤ 90000) (h2 : m + a ≤ 90000) (h3 : m + t ≤ 90000) (he : e ≤ d) (q : ∀ (S2 : PS) H2, S1.at_.length ≤ S2.at_.length → Rch p S H c a t S2 H2 → Q .non H2) : spRows d [.ref p, .int e] H1 Q E := by
  have := R.c6; have := R.a6; have := R.t6; have := hT.c; have := hT.a; have := hT.t
  exact ⟨p, S1, e, rfl, he, R.pt, ⟨by omega, by omega, by omega, by rw [R.eq]; exact hT.l⟩, fun S' H' y => q S' H' y.al (R.trans y)⟩
end
def OneW (s : Str) : Prop := ∃ (n : Nat) (fm : Str), opsT[n]? = some (s, fm) ∧ ∀ a, R16 a → RFits fm [a]
def BrW (s : Str) : Prop := ∃ n : Nat, opsT[n]? = some (s, ("ssi" : Str))
section
variable {P : Program} {w : World} {K : PySem.W.Frag} {mg : Str → Option Value} {base : Heap}
theorem ok_law_if {k : Nat} {d : Int} (hk : 5 ≤ k) (c_law_rows : Cd P w K mg base k "_law_rows" (spRows (d - 1))) (c_law_label : Cd P w K mg base 1 "_law_label" spLabel) (c_law_here : Cd P w K mg base 1 "_law_here" spHere) (c_law_some : Cd P w K mg base 2 "_law_some" spSome) (c_law_register : Cd P w K mg base 3 "_law_register" spReg) (c_law_put_word : Cd P w K mg base 1 "_law_put_word" spPut) (Z : St1 K mg "_law_if" s_law_if ["p", "depth"]) : Cd P w K mg base (k + 1) "_law_if" (spBlk d) := by
  refine Z.cd sc_law_if (fun vs H Q E h => by obtain ⟨p, S, e, rfl, _⟩ := h; rfl) (fun f cdv A outer s H vs Q E hr h => ?_)
  obtain ⟨p, S, e, rfl, e0, ed, hP, hT, q⟩ := h
  refine ⟨_, (pss_cons (ps_set (i := 2) sc_law_if.nd rfl (.inl rfl) (pe_ix ix_list (pe_lst (pa_cons pe_str (pa_cons pe_str (pa_cons pe_str (pa_cons pe_str (pa_cons pe_str (pa_cons pe_str pa_nil))))))) (pe_cd c_law_some hr (by first | decide | omega) (by rfl) (pa_cons (pv 0) (pa_cons pe_int pa_nil))) (fun _ _ => rfl)))
      (Evl.pss_cut (ps_set (i := 3) sc_law_if.nd rfl (.inl rfl) (pe_ifExp (pt_cmpR op_gt (pe_cd c_law_some hr (by first | decide | omega) (by rfl) (pa_cons (pv 0) (pa_cons pe_int pa_nil))) pe_int (nomark _)) (pe_cd c_law_register hr (by first | decide | omega) (by rfl) (pa_cons (pv 0) pa_nil)) pe_int))
      (pss_cons (ps_set (i := 4) sc_law_if.nd rfl (.inl rfl) (pe_cd c_law_label hr (by first | decide | omega) (by rfl) (pa_cons (pv 0) pa_nil)))
      (pss_cons (ps_set (i := 5) sc_law_if.nd rfl (.inl rfl) (pe_cd c_law_label hr (by first | decide | omega) (by rfl) (pa_cons (pv 0) pa_nil)))
      (pss_cons (ps_expr (pe_cd c_law_put_word hr (by first | decide | omega) (by rfl) (pa_cons (pv 0) (pa_cons (pe_tup (pa_cons (pv 2) (pa_cons (pe_cd c_law_register hr (by first | decide | omega) (by rfl) (pa_cons (pv 0) pa_nil)) (pa_cons (pv 3) (pa_cons (pe_tup (pa_cons pe_str (pa_cons (pv 4) pa_nil))) pa_nil))))) pa_nil))))
      (pss_cons (ps_expr (pe_cd c_law_rows hr (by first | decide | omega) (by rfl) (pa_cons (pv 0) (pa_cons (pe_op op_sub (pv 1) pe_int) pa_nil))))
      (pss_cons (ps_if (pt_cmpR op_eq (pe_cd c_law_some hr (by first | decide | omega) (by rfl) (pa_cons (pv 0) (pa_cons pe_int pa_nil))) pe_int (nomark _)) (pss_cons (ps_expr (pe_cd c_law_put_word hr (by first | decide | omega) (by rfl) (pa_cons (pv 0) (pa_cons (pe_tup (pa_cons pe_str (pa_cons pe_int (pa_cons (pe_tup (pa_cons pe_str (pa_cons (pv 5) pa_nil))) pa_nil)))) pa_nil))))
      (pss_cons (ps_expr (pe_cd c_law_here hr (by first | decide | omega) (by rfl) (pa_cons (pv 0) (pa_cons (pv 4) pa_nil))))
      (pss_one (ps_expr (pe_cd c_law_rows hr (by first | decide | omega) (by rfl) (pa_cons (pv 0) (pa_cons (pe_op op_sub (pv 1) pe_int) pa_nil))))))) (pss_one (ps_expr (pe_cd c_law_here hr (by first | decide | omega) (by rfl) (pa_cons (pv 0) (pa_cons (pv 4) pa_nil))))))
      (pss_one (ps_expr (pe_cd c_law_here hr (by first | decide | omega) (by rfl) (pa_cons (pv 0) (pa_cons (pv 5) pa_nil)))))))))))), ?_⟩
  walk_at "ws"
  refine w_kLst (by show 6 ≤ sizeLine; decide) fun l H1 nl s1 hl1 => ?_
  walk_at "ws"
  refine w_some (hP.same s1) (by decide) (by decide) fun j H2 j0 j1 hP2 f2 => ?_
  obtain ⟨v, hv, hat⟩ := pick_any [V.str "beq", V.str "bne", V.str "blt", V.str "bge", V.str "bltu", V.str "bgeu"] j0 j1
  obtain ⟨wd, ⟨n, hn⟩, rfl⟩ : ∃ i, BrW i ∧ v = .str i := by
    simp only [List.mem_cons, List.not_mem_nil, or_false] at hv
    rcases hv with rfl | rfl | rfl | rfl | rfl | rfl
    · exact ⟨_, ⟨27, rfl⟩, rfl⟩
    · exact ⟨_, ⟨28, rfl⟩, rfl⟩
    · exact ⟨_, ⟨29, rfl⟩, rfl⟩
    · exact ⟨_, ⟨30, rfl⟩, rfl⟩
    · exact ⟨_, ⟨31, rfl⟩, rfl⟩
    · exact ⟨_, ⟨32, rfl⟩, rfl⟩
  refine w_ixL (hP.kept nl hl1 f2) hat ?_
  have R2 : Rch p S H 0 0 0 S H2 := ((Rch.refl hP).sm s1).of hP2 f2
  walk_at "ws"
  refine Evl.q_cut (M := fun σ' H' => Rch p S H 0 0 0 S H' ∧ ∃ rb, R16 rb ∧ σ' = [some (.ref p), some (.int e), some (.str wd), some (.int rb), none, none]) ?_ ?_
  · walk_at "ws"
    refine x_some R2 (by decide) (by decide) fun r H3 _ _ R3 => ?_
    walk_at "ws"
    refine w_dec (fun e => ?_) (fun e => ?_)
    · walk_at "ws"
      refine x_reg R3 fun rb H4 hrb R4 => ?_
      walk_at "ws"
      exact ⟨R4, rb, hrb, rfl⟩
    · walk_at "ws"
      exact ⟨R3, 0, ⟨by decide, by decide⟩, rfl⟩
  · rintro σ' H3 ⟨R3, rb, hrb, rfl⟩
    walk_at "ws"
    refine x_label R3 hT (by omega) fun S4 other H4 o0 o1 _ _ _ R4 => ?_
    walk_at "ws"
    refine x_label R4 hT (by omega) fun S5 last H5 l0 l1 g5 _ _ R5 => ?_
    walk_at "ws"
    refine x_reg R5 fun ra H6 hra R6 => ?_
    walk_at "ws"
    refine w_kTup (by show 2 ≤ sizeLine; decide) fun t H7 nt s7 ht => ?_
    walk_at "ws"
    refine w_kTup (by show 4 ≤ sizeLine; decide) fun t2 H8 nt2 s8 ht2 => ?_
    walk_at "ws"
    refine x_put ((R6.sm s7).sm s8) hT (by omega) (rowTo (xs := [ra, rb]) n hn (fun z => .ssi hra hrb) ht2 (s8 _ _ ht) o0 (by omega)) fun S9 H9 g9 _ _ R9 => ?_
    walk_at "ws"
    refine x_rows R9 hT (by omega) (by omega) (by omega) (by omega) fun S10 H10 g10 R10 => ?_
    walk_at "ws"
    refine x_some R10 (by decide) (by decide) fun r H11 _ _ R11 => ?_
    walk_at "ws"
    refine w_dec (fun e => ?_) (fun e => ?_)
    · walk_at "ws"
      refine w_kTup (by show 2 ≤ sizeLine; decide) fun t H12 nt s12 ht => ?_
      walk_at "ws"
      refine w_kTup (by show 3 ≤ sizeLine; decide) fun t2 H13 nt2 s13 ht2 => ?_
      walk_at "ws"
      refine x_put ((R11.sm s12).sm s13) hT (by omega) (rowTo (xs := [0]) 33 rfl (fun z => .dj ⟨by decide, by decide⟩) ht2 (s13 _ _ ht) l0 (by omega)) fun S14 H14 g14 _ _ R14 => ?_
      walk_at "ws"
      refine x_here R14 hT (by omega) o0 (by omega) fun S15 H15 g15 R15 => ?_
      walk_at "ws"
      refine x_rows R15 hT (by omega) (by omega) (by omega) (by omega) fun S16 H16 g16 R16 => ?_
      walk_at "ws"
      refine x_here R16 hT (by omega) l0 (by omega) fun S17 H17 g17 R17 => ?_
      walk_at "ws"
      exact q _ _ (R17.weak (by omega) (by omega) (by omega))
    · walk_at "ws"
      refine x_here R11 hT (by omega) o0 (by omega) fun S15 H15 g15 R15 => ?_
      walk_at "ws"
      refine x_here R15 hT (by omega) l0 (by omega) fun S17 H17 g17 R17 => ?_
      walk_at "ws"
      exact q _ _ (R17.weak (by omega) (by omega) (by omega))
theorem ok_law_loop {k : Nat} {d : Int} (hk : 5 ≤ k) (c_law_rows : Cd P w K mg base k "_law_rows" (spRows (d - 1))) (c_law_label : Cd P w K mg base 1 "_law_label" spLabel) (c_law_here : Cd P w K mg base 1 "_law_here" spHere) (c_law_some : Cd P w K mg base 2 "_law_some" spSome) (c_law_put_word : Cd P w K mg base 1 "_law_put_word" spPut) (Z : St1 K mg "_law_loop" s_law_loop ["p", "depth"]) : Cd P w K mg base (k + 1) "_law_loop" (spBlk d) := by
  refine Z.cd sc_law_loop (fun vs H Q E h => by obtain ⟨p, S, e, rfl, _⟩ := h; rfl) (fun f cdv A outer s H vs Q E hr h => ?_)
  obtain ⟨p, S, e, rfl, e0, ed, hP, hT, q⟩ := h
  refine ⟨_, (Evl.pss_cut (ps_set (i := 2) sc_law_loop.nd rfl (.inl rfl) (pe_ifExp (pt_cmpR op_gt (pv 1) pe_int (nomark _)) pe_int pe_int))
      (pss_cons (ps_set (i := 3) sc_law_loop.nd rfl (.inl rfl) (pe_cd c_law_label hr (by first | decide | omega) (by rfl) (pa_cons (pv 0) pa_nil)))
      (pss_cons (ps_expr (pe_cd c_law_put_word hr (by first | decide | omega) (by rfl) (pa_cons (pv 0) (pa_cons (pe_tup (pa_cons pe_str (pa_cons (pv 2) (pa_cons pe_int (pa_cons (pe_op op_add pe_int (pe_cd c_law_some hr (by first | decide | omega) (by rfl) (pa_cons (pv 0) (pa_cons pe_int pa_nil)))) pa_nil))))) pa_nil))))
      (pss_cons (ps_expr (pe_cd c_law_here hr (by first | decide | omega) (by rfl) (pa_cons (pv 0) (pa_cons (pv 3) pa_nil))))
      (pss_cons (ps_expr (pe_cd c_law_rows hr (by first | decide | omega) (by rfl) (pa_cons (pv 0) (pa_cons (pe_op op_sub (pv 1) pe_int) pa_nil))))
      (pss_cons (ps_expr (pe_cd c_law_put_word hr (by first | decide | omega) (by rfl) (pa_cons (pv 0) (pa_cons (pe_tup (pa_cons pe_str (pa_cons (pv 2) (pa_cons (pv 2) (pa_cons (pe_un un_neg pe_int) pa_nil))))) pa_nil))))
      (pss_one (ps_expr (pe_cd c_law_put_word hr (by first | decide | omega) (by rfl) (pa_cons (pv 0) (pa_cons (pe_tup (pa_cons (pe_ix ix_list (pe_lst (pa_cons pe_str (pa_cons pe_str pa_nil))) (pe_cd c_law_some hr (by first | decide | omega) (by rfl) (pa_cons (pv 0) (pa_cons pe_int pa_nil))) (fun _ _ => rfl)) (pa_cons pe_int (pa_cons (pv 2) (pa_cons (pe_tup (pa_cons pe_str (pa_cons (pv 3) pa_nil))) pa_nil))))) pa_nil))))))))))), ?_⟩
  walk_at "ws"
  refine Evl.q_cut (M := fun σ' H' => H' = H ∧ ∃ cn, R16 cn ∧ σ' = [some (.ref p), some (.int e), some (.int cn), none]) ?_ ?_
  · walk_at "ws"
    refine w_dec (fun e => ?_) (fun e => ?_)
    · walk_at "ws"
      exact ⟨rfl, 9, ⟨by decide, by decide⟩, rfl⟩
    · walk_at "ws"
      exact ⟨rfl, 12, ⟨by decide, by decide⟩, rfl⟩
  · rintro σ' H1 ⟨rfl, cn, hcn, rfl⟩
    walk_at "ws"
    refine x_label (Rch.refl hP) hT (by omega) fun S4 top H4 o0 o1 _ _ _ R4 => ?_
    walk_at "ws"
    refine x_some R4 (by decide) (by decide) fun r H5 _ _ R5 => ?_
    walk_at "ws"
    refine w_kTup (by show 4 ≤ sizeLine; decide) fun t H6 nt s6 ht => ?_
    walk_at "ws"
    refine x_put (R5.sm s6) hT (by omega) (rowIns (xs := [cn, 0, 1 + r]) 13 rfl (.dsi hcn ⟨by decide, by decide⟩) ht) fun S7 H7 g7 _ _ R7 => ?_
    walk_at "ws"
    refine x_here R7 hT (by omega) o0 (by omega) fun S8 H8 g8 R8 => ?_
    walk_at "ws"
    refine x_rows R8 hT (by omega) (by omega) (by omega) (by omega) fun S9 H9 g9 R9 => ?_
    walk_at "ws"
    refine w_kTup (by show 4 ≤ sizeLine; decide) fun t H10 nt s10 ht => ?_
    walk_at "ws"
    refine x_put (R9.sm s10) hT (by omega) (rowIns (xs := [cn, cn, -1]) 13 rfl (.dsi hcn hcn) ht) fun S11 H11 g11 _ _ R11 => ?_
    walk_at "ws"
    refine w_kLst (by show 2 ≤ sizeLine; decide) fun l H12 nl s12 hl12 => ?_
    walk_at "ws"
    refine w_some (R11.pt.same s12) (by decide) (by decide) fun j H13 j0 j1 hP13 f13 => ?_
    obtain ⟨v, hv, hat⟩ := pick_any [V.str "bne", V.str "bltu"] j0 j1
    obtain ⟨wd, ⟨n, hn⟩, rfl⟩ : ∃ i, BrW i ∧ v = .str i := by
      simp only [List.mem_cons, List.not_mem_nil, or_false] at hv
      rcases hv with rfl | rfl
      · exact ⟨_, ⟨28, rfl⟩, rfl⟩
      · exact ⟨_, ⟨31, rfl⟩, rfl⟩
    refine w_ixL (R11.pt.kept nl hl12 f13) hat ?_
    have R13 := (R11.sm s12).of hP13 f13
    walk_at "ws"
    refine w_kTup (by show 2 ≤ sizeLine; decide) fun t H14 nt s14 ht => ?_
    walk_at "ws"
    refine w_kTup (by show 4 ≤ sizeLine; decide) fun t2 H15 nt2 s15 ht2 => ?_
    walk_at "ws"
    refine x_put ((R13.sm s14).sm s15) hT (by omega) (rowTo (xs := [0, cn]) n hn (fun z => .ssi ⟨by decide, by decide⟩ hcn) ht2 (s15 _ _ ht) o0 (by omega)) fun S16 H16 g16 _ _ R16 => ?_
    walk_at "ws"
    exact q _ _ (R16.weak (by omega) (by omega) (by omega))
theorem ok_law_switch {k : Nat} {d : Int} (hk : 5 ≤ k) (b_len : mg "len" = none) (c_law_rows : Cd P w K mg base k "_law_rows" (spRows (d - 1))) (c_law_label : Cd P w K mg base 1 "_law_label" spLabel) (c_law_here : Cd P w K mg base 1 "_law_here" spHere) (c_law_register : Cd P w K mg base 3 "_law_register" spReg) (c_law_put_word : Cd P w K mg base 1 "_law_put_word" spPut) (Z : St1 K mg "_law_switch" s_law_switch ["p", "depth"]) : Cd P w K mg base (k + 1) "_law_switch" (spBlk d) := by
  refine Z.cd sc_law_switch (fun vs H Q E h => by obtain ⟨p, S, e, rfl, _⟩ := h; rfl) (fun f cdv A outer s H vs Q E hr h => ?_)
  obtain ⟨p, S, e, rfl, e0, ed, hP, hT, q⟩ := h
  have hu := hu_of hr
  refine ⟨_, (pss_cons (ps_set (i := 2) sc_law_switch.nd rfl (.inl rfl) (pe_cd c_law_label hr (by first | decide | omega) (by rfl) (pa_cons (pv 0) pa_nil)))
      (pss_cons (ps_set (i := 3) sc_law_switch.nd rfl (.inl rfl) (pe_cd c_law_label hr (by first | decide | omega) (by rfl) (pa_cons (pv 0) pa_nil)))
      (pss_cons (ps_set (i := 4) sc_law_switch.nd rfl (.inl rfl) (pe_cd c_law_label hr (by first | decide | omega) (by rfl) (pa_cons (pv 0) pa_nil)))
      (pss_cons (ps_set (i := 5) sc_law_switch.nd rfl (.inl rfl) (pe_callB call_lenQ (by rfl) b_len PySem.boot_len (pa_cons (pe_dget hu (pv 0) pe_str (fun _ _ => rfl)) pa_nil)))
      (pss_cons (ps_dput hu (pv 0) pe_str (pe_op op_cat (pe_dget hu (pv 0) pe_str (fun _ _ => rfl)) (pe_lst (pa_cons (pv 2) (pa_cons (pv 3) pa_nil)))) rfl)
      (pss_cons (ps_expr (pe_cd c_law_put_word hr (by first | decide | omega) (by rfl) (pa_cons (pv 0) (pa_cons (pe_tup (pa_cons pe_str (pa_cons pe_int (pa_cons (pe_cd c_law_register hr (by first | decide | omega) (by rfl) (pa_cons (pv 0) pa_nil)) (pa_cons pe_int pa_nil))))) pa_nil))))
      (pss_cons (ps_expr (pe_cd c_law_put_word hr (by first | decide | omega) (by rfl) (pa_cons (pv 0) (pa_cons (pe_tup (pa_cons pe_str (pa_cons pe_int (pa_cons pe_int (pa_cons pe_int pa_nil))))) pa_nil))))
      (pss_cons (ps_expr (pe_cd c_law_put_word hr (by first | decide | omega) (by rfl) (pa_cons (pv 0) (pa_cons (pe_tup (pa_cons pe_str (pa_cons pe_int (pa_cons pe_int (pa_cons pe_int pa_nil))))) pa_nil))))
      (pss_cons (ps_expr (pe_cd c_law_put_word hr (by first | decide | omega) (by rfl) (pa_cons (pv 0) (pa_cons (pe_tup (pa_cons pe_str (pa_cons pe_int (pa_cons pe_int (pa_cons (pe_op op_mul pe_int (pv 5)) pa_nil))))) pa_nil))))
      (pss_cons (ps_expr (pe_cd c_law_put_word hr (by first | decide | omega) (by rfl) (pa_cons (pv 0) (pa_cons (pe_tup (pa_cons pe_str (pa_cons pe_int (pa_cons pe_int (pa_cons pe_int pa_nil))))) pa_nil))))
      (pss_cons (ps_expr (pe_cd c_law_here hr (by first | decide | omega) (by rfl) (pa_cons (pv 0) (pa_cons (pv 2) pa_nil))))
      (pss_cons (ps_expr (pe_cd c_law_rows hr (by first | decide | omega) (by rfl) (pa_cons (pv 0) (pa_cons (pe_op op_sub (pv 1) pe_int) pa_nil))))
      (pss_cons (ps_expr (pe_cd c_law_put_word hr (by first | decide | omega) (by rfl) (pa_cons (pv 0) (pa_cons (pe_tup (pa_cons pe_str (pa_cons pe_int (pa_cons (pe_tup (pa_cons pe_str (pa_cons (pv 4) pa_nil))) pa_nil)))) pa_nil))))
      (pss_cons (ps_expr (pe_cd c_law_here hr (by first | decide | omega) (by rfl) (pa_cons (pv 0) (pa_cons (pv 3) pa_nil))))
      (pss_cons (ps_expr (pe_cd c_law_rows hr (by first | decide | omega) (by rfl) (pa_cons (pv 0) (pa_cons (pe_op op_sub (pv 1) pe_int) pa_nil))))
      (pss_one (ps_expr (pe_cd c_law_here hr (by first | decide | omega) (by rfl) (pa_cons (pv 0) (pa_cons (pv 4) pa_nil)))))))))))))))))))), ?_⟩
  walk_at "ws"
  refine x_label (Rch.refl hP) hT (by omega) fun S1 first H1 f0 f1 _ _ _ R1 => ?_
  walk_at "ws"
  refine x_label R1 hT (by omega) fun S2 second H2 s0 s1 g2 _ _ R2 => ?_
  walk_at "ws"
  refine x_label R2 hT (by omega) fun S3 last H3 l0 l1 g3 _ _ R3 => ?_
  walk_at "ws"
  refine w_kDG R3.pt.hp rfl ?_
  have htb := R3.pt.htb
  walk_at "ws"
  refine w_kDG R3.pt.hp rfl ?_
  walk_at "ws"
  refine w_kLst (by show 2 ≤ sizeLine; decide) fun l H4 nl s4 hl4 => ?_
  walk_at "ws"
  have ht6 := R3.t6
  have hTt := hT.t
  have hlf := R3.pt.lf
  refine w_cat (s4 _ _ htb) hl4 (by show (S3.tbl.map V.int).length + 2 ≤ sizeLine; rw [List.length_map]; exact Nat.le_trans (show S3.tbl.length + 2 ≤ 100000 by omega) (by decide)) fun u H5 nu s5 hu5 => ?_
  walk_at "ws"
  refine w_kDP (s5 _ _ (s4 _ _ R3.pt.hp)) (by show 6 < 1000; decide) rfl fun H6 hp6 b6 => ?_
  have hP5 := (R3.pt.same s4).same s5
  obtain ⟨xs, hx⟩ := (R3.pt.same s4).hdl
  obtain ⟨hP6, f6⟩ := PAt.table (ts := S3.tbl ++ [first, second]) hP5 b6 hp6 (by rw [List.map_append]; exact hu5) (ne_of_none hx nu).symm (ne_of_none (R3.pt.same s4).hc nu).symm (ne_of_none (R3.pt.same s4).ha nu).symm (fun x hx => by
    rcases List.mem_append.mp hx with hx | hx
    · exact hP5.tls x hx
    · simp only [List.mem_cons, List.not_mem_nil, or_false] at hx
      rcases hx with rfl | rfl
      · exact ⟨f0, by omega⟩
      · exact ⟨s0, by omega⟩)
  have R6 := ((R3.sm s4).sm s5).tab 2 hP6 f6 (by rw [List.length_append]; rfl)
  walk_at "ws"
  refine x_reg R6 fun ra H7 hra R7 => ?_
  walk_at "ws"
  refine w_kTup (by show 4 ≤ sizeLine; decide) fun t H8 nt s8 ht => ?_
  walk_at "ws"
  refine x_put (R7.sm s8) hT (by omega) (rowIns (xs := [13, ra, 1]) 14 rfl (.dsi ⟨by decide, by decide⟩ hra) ht) fun S9 H9 g9 _ _ R9 => ?_
  walk_at "ws"
  refine w_kTup (by show 4 ≤ sizeLine; decide) fun t H10 nt s10 ht => ?_
  walk_at "ws"
  refine x_put (R9.sm s10) hT (by omega) (rowIns (xs := [13, 13, 2]) 17 rfl (.dsi ⟨by decide, by decide⟩ ⟨by decide, by decide⟩) ht) fun S11 H11 g11 _ _ R11 => ?_
  walk_at "ws"
  refine w_kTup (by show 4 ≤ sizeLine; decide) fun t H12 nt s12 ht => ?_
  walk_at "ws"
  refine x_put (R11.sm s12) hT (by omega) (rowIns (xs := [13, 13, 11]) 0 rfl (.dss ⟨by decide, by decide⟩ ⟨by decide, by decide⟩ ⟨by decide, by decide⟩) ht) fun S13 H13 g13 _ _ R13 => ?_
  walk_at "ws"
  refine w_kTup (by show 4 ≤ sizeLine; decide) fun t H14 nt s14 ht => ?_
  walk_at "ws"
  refine x_put (R13.sm s14) hT (by omega) (rowIns (xs := [14, 13, 4 * ((S3.tbl.map V.int).length : Nat)]) 22 rfl (.dsi ⟨by decide, by decide⟩ ⟨by decide, by decide⟩) ht) fun S15 H15 g15 _ _ R15 => ?_
  walk_at "ws"
  refine w_kTup (by show 4 ≤ sizeLine; decide) fun t H16 nt s16 ht => ?_
  walk_at "ws"
  refine x_put (R15.sm s16) hT (by omega) (rowIns (xs := [0, 14, 0]) 34 rfl (.dsi ⟨by decide, by decide⟩ ⟨by decide, by decide⟩) ht) fun S17 H17 g17 _ _ R17 => ?_
  walk_at "ws"
  have g6 : S3.at_.length ≤ S9.at_.length := g9
  refine x_here R17 hT (by omega) f0 (by omega) fun S18 H18 g18 R18 => ?_
  walk_at "ws"
  refine x_rows R18 hT (by omega) (by omega) (by omega) (by omega) fun S19 H19 g19 R19 => ?_
  walk_at "ws"
  refine w_kTup (by show 2 ≤ sizeLine; decide) fun t H20 nt s20 ht => ?_
  walk_at "ws"
  refine w_kTup (by show 3 ≤ sizeLine; decide) fun t2 H21 nt2 s21 ht2 => ?_
  walk_at "ws"
  refine x_put ((R19.sm s20).sm s21) hT (by omega) (rowTo (xs := [0]) 33 rfl (fun z => .dj ⟨by decide, by decide⟩) ht2 (s21 _ _ ht) l0 (by omega)) fun S22 H22 g22 _ _ R22 => ?_
  walk_at "ws"
  refine x_here R22 hT (by omega) s0 (by omega) fun S23 H23 g23 R23 => ?_
  walk_at "ws"
  refine x_rows R23 hT (by omega) (by omega) (by omega) (by omega) fun S24 H24 g24 R24 => ?_
  walk_at "ws"
  refine x_here R24 hT (by omega) l0 (by omega) fun S25 H25 g25 R25 => ?_
  walk_at "ws"
  exact q _ _ (R25.weak (by omega) (by omega) (by omega))
theorem ok_law_rows {k : Nat} {d : Int} (hk : 5 ≤ k) (b_range : mg "range" = none) (c_law_if : Cd P w K mg base k "_law_if" (spBlk d)) (c_law_loop : Cd P w K mg base k "_law_loop" (spBlk d)) (c_law_switch : Cd P w K mg base k "_law_switch" (spBlk d)) (c_law_alu : Cd P w K mg base 4 "_law_alu" spOne) (c_law_memory : Cd P w K mg base 4 "_law_memory" spOne) (c_law_odd : Cd P w K mg base 4 "_law_odd" spOne) (c_law_call : Cd P w K mg base 5 "_law_call" spCall) (c_law_some : Cd P w K mg base 2 "_law_some" spSome) (c_law_register : Cd P w K mg base 3 "_law_register" spReg) (c_law_put_word : Cd P w K mg base 1 "_law_put_word" spPut) (Z : St1 K mg "_law_rows" s_law_rows ["p", "depth"]) : Cd P w K mg base (k + 1) "_law_rows" (spRows d) := by
  refine Z.cd sc_law_rows (fun vs H Q E h => by obtain ⟨p, S, e, rfl, _⟩ := h; rfl) (fun f cdv A outer s H vs Q E hr h => ?_)
  obtain ⟨p, S, e, rfl, ed, hP, hT, q⟩ := h
  have hu := hu_of hr
  refine ⟨_, (pss_one (ps_for PassesOwn.never rfl (pi_range1 (by rfl) b_range (pa_cons (pe_op op_add pe_int (pe_cd c_law_some hr (by first | decide | omega) (by rfl) (pa_cons (pv 0) (pa_cons pe_int pa_nil)))) pa_nil)) (pg_name (i := 2) sc_law_rows.nd rfl (.inl rfl))
      (pss_one (ps_if (pt_cmpR op_gt (pe_dget hu (pv 0) pe_str (fun _ _ => rfl)) pe_int (nomark _)) (pss_cons (ps_dput hu (pv 0) pe_str (pe_op op_sub (pe_dget hu (pv 0) pe_str (fun _ _ => rfl)) pe_int) rfl)
      (pss_cons (ps_set (i := 3) sc_law_rows.nd rfl (.inl rfl) (pe_cd c_law_some hr (by first | decide | omega) (by rfl) (pa_cons (pv 0) (pa_cons pe_int pa_nil))))
      (pss_one (ps_if (pt_cmpR op_lt (pv 3) pe_int (nomark _)) (pss_one (ps_expr (pe_cd c_law_alu hr (by first | decide | omega) (by rfl) (pa_cons (pv 0) pa_nil)))) (pss_one (ps_if (pt_cmpR op_lt (pv 3) pe_int (nomark _)) (pss_one (ps_expr (pe_cd c_law_memory hr (by first | decide | omega) (by rfl) (pa_cons (pv 0) pa_nil)))) (pss_one (ps_if (pt_cmpR op_lt (pv 3) pe_int (nomark _)) (pss_one (ps_expr (pe_cd c_law_put_word hr (by first | decide | omega) (by rfl) (pa_cons (pv 0) (pa_cons (pe_tup (pa_cons (pe_ix ix_list (pe_lst (pa_cons pe_str (pa_cons pe_str pa_nil))) (pe_cd c_law_some hr (by first | decide | omega) (by rfl) (pa_cons (pv 0) (pa_cons pe_int pa_nil))) (fun _ _ => rfl)) (pa_cons (pe_cd c_law_register hr (by first | decide | omega) (by rfl) (pa_cons (pv 0) pa_nil)) pa_nil))) pa_nil))))) (pss_one (ps_if (PW.pt (pw_and (pt_cmpR op_eq (pv 3) pe_int (nomark _)) (pw_and1 (pt_cmpR op_eq (pe_cd c_law_some hr (by first | decide | omega) (by rfl) (pa_cons (pv 0) (pa_cons pe_int pa_nil))) pe_int (nomark _))))) (pss_one (ps_expr (pe_cd c_law_odd hr (by first | decide | omega) (by rfl) (pa_cons (pv 0) pa_nil)))) (pss_one (ps_if (pt_cmpR op_le (pv 1) pe_int (nomark _)) (pss_one (ps_expr (pe_cd c_law_alu hr (by first | decide | omega) (by rfl) (pa_cons (pv 0) pa_nil)))) (pss_one (ps_if (pt_cmpR op_lt (pv 3) pe_int (nomark _)) (pss_one (ps_expr (pe_cd c_law_if hr (by first | decide | omega) (by rfl) (pa_cons (pv 0) (pa_cons (pv 1) pa_nil))))) (pss_one (ps_if (pt_cmpR op_eq (pv 3) pe_int (nomark _)) (pss_one (ps_expr (pe_cd c_law_loop hr (by first | decide | omega) (by rfl) (pa_cons (pv 0) (pa_cons (pv 1) pa_nil))))) (pss_one (ps_if (pt_cmpR op_eq (pv 3) pe_int (nomark _)) (pss_one (ps_expr (pe_cd c_law_switch hr (by first | decide | omega) (by rfl) (pa_cons (pv 0) (pa_cons (pv 1) pa_nil))))) (pss_one (ps_expr (pe_cd c_law_call hr (by first | decide | omega) (by rfl) (pa_cons (pv 0) pa_nil)))))))))))))))))))))) pss_nil)))), ?_⟩
  walk_at "ws"
  refine x_some (Rch.refl hP) (by decide) (by decide) fun n H1 n0 n1 R1 => ?_
  walk_at "ws"
  refine w_forR (1 + n).toNat (fun i σ H' => ∃ S' a b, Rch p S H 0 0 0 S' H' ∧ σ = [some (.ref p), some (.int e), a, b]) rfl (by omega) ⟨S, _, _, R1, rfl⟩ (fun i σ H2 hi h => ?_) (fun σ H2 h => ?_)
  · obtain ⟨S2, a, b, R2, rfl⟩ := h
    walk_at "ws"
    refine w_kDG R2.pt.hp rfl ?_
    walk_at "ws"
    refine w_dec (fun e2 => ?_) (fun e2 => ?_)
    · walk_at "ws"
      refine w_kDG R2.pt.hp rfl ?_
      walk_at "ws"
      refine w_kDP R2.pt.hp (by show 6 < 1000; decide) rfl fun H3 hp3 b3 => ?_
      obtain ⟨hP3, f3⟩ := R2.pt.lft b3 hp3 (n := S2.left - 1) (by omega)
      have hT3 : Tot { S2 with left := S2.left - 1 } 89994 := by
        have := R2.c6; have := R2.a6; have := R2.t6
        have := hT.c; have := hT.a; have := hT.t
        exact ⟨by show (S2.code.length : Int) + 6 * (S2.left - 1) ≤ _; omega, by show (S2.at_.length : Int) + 6 * (S2.left - 1) ≤ _; omega, by show (S2.tbl.length : Int) + 6 * (S2.left - 1) ≤ _; omega, by show S2.calls.length ≤ 90000; rw [R2.eq]; exact hT.l⟩
      have R3 := Rch.refl hP3
      walk_at "ws"
      refine x_some R3 (by decide) (by decide) fun wh H4 _ _ R4 => ?_
      walk_at "ws"
      refine w_dec (fun e3 => ?_) (fun e3 => ?_)
      · walk_at "ws"
        refine x_one R4 hT3 (by omega) fun S5 H5 R5 => ?_
        walk_at "ws"
        exact ⟨S5, _, _, R2.dec f3 (R5.weak (by omega) (by omega) (by omega)), rfl⟩
      · walk_at "ws"
        refine w_dec (fun e3 => ?_) (fun e3 => ?_)
        · walk_at "ws"
          refine x_one R4 hT3 (by omega) fun S5 H5 R5 => ?_
          walk_at "ws"
          exact ⟨S5, _, _, R2.dec f3 (R5.weak (by omega) (by omega) (by omega)), rfl⟩
        · walk_at "ws"
          refine w_dec (fun e3 => ?_) (fun e3 => ?_)
          · walk_at "ws"
            refine w_kLst (by show 2 ≤ sizeLine; decide) fun l H12 nl s12 hl12 => ?_
            walk_at "ws"
            refine w_some (R4.pt.same s12) (by decide) (by decide) fun j H13 j0 j1 hP13 f13 => ?_
            obtain ⟨v, hv, hat⟩ := pick_any [V.str "get", V.str "put"] j0 j1
            obtain ⟨wd, ⟨n, fm, hn, hfm⟩, rfl⟩ : ∃ i, OneW i ∧ v = .str i := by
              simp only [List.mem_cons, List.not_mem_nil, or_false] at hv
              rcases hv with rfl | rfl
              · exact ⟨_, ⟨35, "d", rfl, fun _ h => .d h⟩, rfl⟩
              · exact ⟨_, ⟨36, "s", rfl, fun _ h => .s h⟩, rfl⟩
            refine w_ixL (R4.pt.kept nl hl12 f13) hat ?_
            have R13 := (R4.sm s12).of hP13 f13
            walk_at "ws"
            refine x_reg R13 fun ra H14 hra R14 => ?_
            walk_at "ws"
            refine w_kTup (by show 2 ≤ sizeLine; decide) fun t H15 nt s15 ht => ?_
            walk_at "ws"
            refine x_put (R14.sm s15) hT3 (by omega) (rowIns (xs := [ra]) n hn (hfm _ hra) ht) fun S16 H16 g16 _ _ R16 => ?_
            walk_at "ws"
            exact ⟨S16, _, _, R2.dec f3 (R16.weak (by omega) (by omega) (by omega)), rfl⟩
          · walk_at "ws"
            refine w_dec (fun e5 => ?_) (fun e5 => ?_)
            · walk_at "ws"
              refine x_some R4 (by decide) (by decide) fun o H5 _ _ R5 => ?_
              walk_at "ws"
              refine w_dec (fun e6 => ?_) (fun e6 => ?_)
              · walk_at "ws"
                refine x_one R5 hT3 (by omega) fun S6 H6 R6 => ?_
                walk_at "ws"
                exact ⟨S6, _, _, R2.dec f3 (R6.weak (by omega) (by omega) (by omega)), rfl⟩
              · walk_at "ws"
                refine w_dec (fun e6 => ?_) (fun e6 => ?_)
                · walk_at "ws"
                  refine x_one R5 hT3 (by omega) fun S6 H6 R6 => ?_
                  walk_at "ws"
                  exact ⟨S6, _, _, R2.dec f3 (R6.weak (by omega) (by omega) (by omega)), rfl⟩
                · walk_at "ws"
                  refine w_dec (fun e7 => ?_) (fun e7 => ?_)
                  · walk_at "ws"
                    refine ⟨p, _, e, rfl, by omega, ed, R5.pt, hT3, fun S6 H6 R6 => ?_⟩
                    walk_at "ws"
                    exact ⟨S6, _, _, R2.dec f3 ((R5.trans R6).weak (by omega) (by omega) (by omega)), rfl⟩
                  · walk_at "ws"
                    refine w_dec (fun e8 => ?_) (fun e8 => ?_)
                    · walk_at "ws"
                      refine ⟨p, _, e, rfl, by omega, ed, R5.pt, hT3, fun S6 H6 R6 => ?_⟩
                      walk_at "ws"
                      exact ⟨S6, _, _, R2.dec f3 ((R5.trans R6).weak (by omega) (by omega) (by omega)), rfl⟩
                    · walk_at "ws"
                      refine w_dec (fun e9 => ?_) (fun e9 => ?_)
                      · walk_at "ws"
                        refine ⟨p, _, e, rfl, by omega, ed, R5.pt, hT3, fun S6 H6 R6 => ?_⟩
                        walk_at "ws"
                        exact ⟨S6, _, _, R2.dec f3 ((R5.trans R6).weak (by omega) (by omega) (by omega)), rfl⟩
                      · walk_at "ws"
                        refine x_call R5 hT3 (by omega) fun S6 H6 R6 => ?_
                        walk_at "ws"
                        exact ⟨S6, _, _, R2.dec f3 (R6.weak (by omega) (by omega) (by omega)), rfl⟩
            · have R5 := R4
              walk_at "ws"
              refine w_dec (fun e6 => ?_) (fun e6 => ?_)
              · walk_at "ws"
                refine x_one R5 hT3 (by omega) fun S6 H6 R6 => ?_
                walk_at "ws"
                exact ⟨S6, _, _, R2.dec f3 (R6.weak (by omega) (by omega) (by omega)), rfl⟩
              · walk_at "ws"
                refine w_dec (fun e7 => ?_) (fun e7 => ?_)
                · walk_at "ws"
                  refine ⟨p, _, e, rfl, by omega, ed, R5.pt, hT3, fun S6 H6 R6 => ?_⟩
                  walk_at "ws"
                  exact ⟨S6, _, _, R2.dec f3 ((R5.trans R6).weak (by omega) (by omega) (by omega)), rfl⟩
                · walk_at "ws"
                  refine w_dec (fun e8 => ?_) (fun e8 => ?_)
                  · walk_at "ws"
                    refine ⟨p, _, e, rfl, by omega, ed, R5.pt, hT3, fun S6 H6 R6 => ?_⟩
                    walk_at "ws"
                    exact ⟨S6, _, _, R2.dec f3 ((R5.trans R6).weak (by omega) (by omega) (by omega)), rfl⟩
                  · walk_at "ws"
                    refine w_dec (fun e9 => ?_) (fun e9 => ?_)
                    · walk_at "ws"
                      refine ⟨p, _, e, rfl, by omega, ed, R5.pt, hT3, fun S6 H6 R6 => ?_⟩
                      walk_at "ws"
                      exact ⟨S6, _, _, R2.dec f3 ((R5.trans R6).weak (by omega) (by omega) (by omega)), rfl⟩
                    · walk_at "ws"
                      refine x_call R5 hT3 (by omega) fun S6 H6 R6 => ?_
                      walk_at "ws"
                      exact ⟨S6, _, _, R2.dec f3 (R6.weak (by omega) (by omega) (by omega)), rfl⟩
    · walk_at "ws"
      exact ⟨S2, _, _, R2, rfl⟩
  · obtain ⟨S2, a, b, R2, rfl⟩ := h
    exact q _ _ R2
end
end K03

namespace K03
theorem sc_law_word : FnScope ["row", "word"] ["row"] (defScope s_law_word) := ⟨rfl, rfl, rfl, by decide +kernel, rfl, by decide +kernel, by decide +kernel⟩
theorem sc_law_bytes : FnScope ["word"] ["word"] (defScope s_law_bytes) := ⟨rfl, rfl, rfl, by decide +kernel, rfl, by decide +kernel, by decide +kernel⟩
theorem sc_law_values : FnScope ["words", "found", "word"] ["words"] (defScope s_law_values) := ⟨rfl, rfl, rfl, by decide +kernel, rfl, by decide +kernel, by decide +kernel⟩
theorem first_at {n : Nat} {op fm : Str} (h : opsT[n]? = some (op, fm)) : (opsT.map (·.1))[n]? = some op ∧ (∀ m, m < n → (opsT.map (·.1))[m]? ≠ some op) := by
  have hn : n < 38 := (List.getElem?_eq_some_iff.mp h).1
  have e : (opsT.map (·.1))[n]? = some op := by rw [List.getElem?_map, h]; rfl
  refine ⟨e, fun m hm z => ?_⟩
  have := ops_nodup m (by omega) n hn (by rw [← List.getElem?_map, ← List.getElem?_map, z, e])
  omega
theorem op_dss : ∀ n, n < 38 → ∀ p : Str × Str, opsT[n]? = some p → (((p.2 = ("dss" : Str)) ↔ n < 13) ∧ p.1 ≠ "word") := by
  have h : ∀ n, n < 38 → (match opsT[n]? with | some p => decide (((p.2 = "dss") ↔ n < 13) ∧ p.1 ≠ "word") | none => true) = true := by decide +kernel
  intro n hn p e
  have := h n hn
  rw [e] at this
  exact of_decide_eq_true this
section
variable {P : Program} {w : World} {K : PySem.W.Frag} {mg : Str → Option Value} {base : Heap}
theorem base_if (Z : St1 K mg "_law_if" s_law_if ["p", "depth"]) : Cd P w K mg base 5 "_law_if" (spBlk 0) :=
  Z.cd sc_law_if (fun vs H Q E h => by obtain ⟨p, S, e, rfl, _⟩ := h; rfl) (fun f cdv A outer s H vs Q E hr h => by obtain ⟨p, S, e, rfl, e0, ed, _⟩ := h; omega)
theorem base_loop (Z : St1 K mg "_law_loop" s_law_loop ["p", "depth"]) : Cd P w K mg base 5 "_law_loop" (spBlk 0) :=
  Z.cd sc_law_loop (fun vs H Q E h => by obtain ⟨p, S, e, rfl, _⟩ := h; rfl) (fun f cdv A outer s H vs Q E hr h => by obtain ⟨p, S, e, rfl, e0, ed, _⟩ := h; omega)
theorem base_switch (Z : St1 K mg "_law_switch" s_law_switch ["p", "depth"]) : Cd P w K mg base 5 "_law_switch" (spBlk 0) :=
  Z.cd sc_law_switch (fun vs H Q E h => by obtain ⟨p, S, e, rfl, _⟩ := h; rfl) (fun f cdv A outer s H vs Q E hr h => by obtain ⟨p, S, e, rfl, e0, ed, _⟩ := h; omega)
theorem ok_law_rows2 (b_range : mg "range" = none) (b_len : mg "len" = none) (Zi : St1 K mg "_law_if" s_law_if ["p", "depth"]) (Zl : St1 K mg "_law_loop" s_law_loop ["p", "depth"]) (Zs : St1 K mg "_law_switch" s_law_switch ["p", "depth"]) (Z : St1 K mg "_law_rows" s_law_rows ["p", "depth"])
    (c_law_alu : Cd P w K mg base 4 "_law_alu" spOne) (c_law_memory : Cd P w K mg base 4 "_law_memory" spOne) (c_law_odd : Cd P w K mg base 4 "_law_odd" spOne) (c_law_call : Cd P w K mg base 5 "_law_call" spCall) (c_law_some : Cd P w K mg base 2 "_law_some" spSome) (c_law_register : Cd P w K mg base 3 "_law_register" spReg) (c_law_put_word : Cd P w K mg base 1 "_law_put_word" spPut) (c_law_label : Cd P w K mg base 1 "_law_label" spLabel) (c_law_here : Cd P w K mg base 1 "_law_here" spHere) : Cd P w K mg base 10 "_law_rows" (spRows 2) := by
  have r0 : Cd P w K mg base 6 "_law_rows" (spRows 0) := ok_law_rows (by decide) b_range (base_if Zi) (base_loop Zl) (base_switch Zs) c_law_alu c_law_memory c_law_odd c_law_call c_law_some c_law_register c_law_put_word Z
  have i1 : Cd P w K mg base 7 "_law_if" (spBlk 1) := ok_law_if (by decide) r0 c_law_label c_law_here c_law_some c_law_register c_law_put_word Zi
  have l1 : Cd P w K mg base 7 "_law_loop" (spBlk 1) := ok_law_loop (by decide) r0 c_law_label c_law_here c_law_some c_law_put_word Zl
  have s1 : Cd P w K mg base 7 "_law_switch" (spBlk 1) := ok_law_switch (by decide) b_len r0 c_law_label c_law_here c_law_register c_law_put_word Zs
  have r1 : Cd P w K mg base 8 "_law_rows" (spRows 1) := ok_law_rows (by decide) b_range i1 l1 s1 c_law_alu c_law_memory c_law_odd c_law_call c_law_some c_law_register c_law_put_word Z
  have i2 : Cd P w K mg base 9 "_law_if" (spBlk 2) := ok_law_if (by decide) r1 c_law_label c_law_here c_law_some c_law_register c_law_put_word Zi
  have l2 : Cd P w K mg base 9 "_law_loop" (spBlk 2) := ok_law_loop (by decide) r1 c_law_label c_law_here c_law_some c_law_put_word Zl
  have s2 : Cd P w K mg base 9 "_law_switch" (spBlk 2) := ok_law_switch (by decide) b_len r1 c_law_label c_law_here c_law_register c_law_put_word Zs
  exact ok_law_rows (by decide) b_range i2 l2 s2 c_law_alu c_law_memory c_law_odd c_law_call c_law_some c_law_register c_law_put_word Z
theorem fresh {H H2 : Hp} {p : Addr} (s : Same H H2) (n : H2 p = none) : H p = none := by
  cases e : H p with
  | none => rfl
  | some o => have := s _ _ e; rw [n] at this; cases this
def W32 (x : Int) : Prop := 0 ≤ x ∧ x < 4294967296
def B8 (x : Int) : Prop := 0 ≤ x ∧ x < 256
def spWordR (K : PySem.W.Frag) : Sp := fun vs H Q _ => ∃ (t : Addr) (n : Nat) (op fm : Str) (xs : List Int), vs = [.ref t] ∧ SqT K H t (insV op xs) ∧ opsT[n]? = some (op, fm) ∧ RFits fm xs ∧ ∀ x H', W32 x → Same H H' → Q (.int x) H'
def spBytes : Sp := fun vs H Q _ => ∃ x : Int, vs = [.int x] ∧ W32 x ∧ ∀ (bs : List Int) p H', bs.length = 4 → (∀ b ∈ bs, B8 b) → H p = none → Same H H' → H' p = some (.lst (bs.map V.int)) → Q (.ref p) H'
theorem ok_law_bytes (b_int : mg "int" = none) (Z : St1 K mg "_law_bytes" s_law_bytes ["word"]) : Cd P w K mg base 1 "_law_bytes" spBytes := by
  refine Z.cd sc_law_bytes (fun vs H Q E h => by obtain ⟨x, rfl, _⟩ := h; rfl) (fun f cdv A outer s H vs Q E hr h => ?_)
  obtain ⟨x, rfl, ⟨x0, x1⟩, q⟩ := h
  refine ⟨_, (pss_one (ps_ret (pe_lst (pa_cons (pe_op op_mod (pe_callTy call_intQ (by rfl) b_int (by decide +kernel) (pa_cons (pv 0) pa_nil)) pe_int) (pa_cons (pe_op op_mod (pe_op op_fdiv (pv 0) pe_int) pe_int) (pa_cons (pe_op op_mod (pe_op op_fdiv (pv 0) pe_int) pe_int) (pa_cons (pe_op op_fdiv (pv 0) pe_int) pa_nil))))))), ?_⟩
  walk_at "ws"
  refine w_kLst (by show 4 ≤ sizeLine; decide) fun p H' np sm hp => ?_
  refine q [x % 256, x / 256 % 256, x / 65536 % 256, x / 16777216] p H' rfl (fun b hb => ?_) np sm hp
  simp only [List.mem_cons, List.not_mem_nil, or_false] at hb
  rcases hb with rfl | rfl | rfl | rfl <;> exact ⟨by omega, by omega⟩
theorem ok_law_word (b_len : mg "len" = none) (b_int : mg "int" = none) (c_law_ops : Cd P w K mg base 1 "_law_ops" spOps) (Z : St1 K mg "_law_word" s_law_word ["row"]) : Cd P w K mg base 2 "_law_word" (spWordR K) := by
  refine Z.cd sc_law_word (fun vs H Q E h => by obtain ⟨t, n, op, fm, xs, rfl, _⟩ := h; rfl) (fun f cdv A outer s H vs Q E hr h => ?_)
  obtain ⟨t, n, op, fm, xs, rfl, ht, hi, hf, q⟩ := h
  have hn : n < 38 := (List.getElem?_eq_some_iff.mp hi).1
  obtain ⟨at1, at2⟩ := first_at hi
  have of := (op_dss n hn _ hi).1
  refine ⟨_, (pss_cons (ps_set (i := 1) sc_law_word.nd rfl (.inl rfl) (pe_op op_add (pe_op op_mul (pe_op op_add (pe_bm PySem.F.plainAttrs_list PySem.F.slot_list_index PySem.F.type_list_index mt_index (pe_cd0 c_law_ops hr (by first | decide | omega) (by rfl)) (pa_cons (pe_ix ix_tup (pv 0) pe_int (fun _ _ => rfl)) pa_nil)) pe_int) (pe_op op_pow pe_int pe_int)) (pe_op op_mul (pe_ix ix_tup (pv 0) pe_int (fun _ _ => rfl)) (pe_op op_pow pe_int pe_int))))
      (pss_cons (ps_if (pt_cmpR op_eq (pe_callB call_lenQ (by rfl) b_len PySem.boot_len (pa_cons (pv 0) pa_nil)) pe_int (nomark _)) (pss_one (ps_ret (pv 1))) pss_nil)
      (pss_cons (ps_if (pt_cmpR op_eq (pe_callB call_lenQ (by rfl) b_len PySem.boot_len (pa_cons (pv 0) pa_nil)) pe_int (nomark _)) (pss_one (ps_ret (pe_op op_add (pv 1) (pe_op op_mod (pe_callTy call_intQ (by rfl) b_int (by decide +kernel) (pa_cons (pe_ix ix_tup (pv 0) pe_int (fun _ _ => rfl)) pa_nil)) (pe_op op_pow pe_int pe_int))))) pss_nil)
      (pss_cons (ps_if (pt_cmpR op_lt (pe_bm PySem.F.plainAttrs_list PySem.F.slot_list_index PySem.F.type_list_index mt_index (pe_cd0 c_law_ops hr (by first | decide | omega) (by rfl)) (pa_cons (pe_ix ix_tup (pv 0) pe_int (fun _ _ => rfl)) pa_nil)) pe_int (nomark _)) (pss_one (ps_ret (pe_op op_add (pe_op op_add (pv 1) (pe_op op_mul (pe_ix ix_tup (pv 0) pe_int (fun _ _ => rfl)) (pe_op op_pow pe_int pe_int))) (pe_op op_mul (pe_ix ix_tup (pv 0) pe_int (fun _ _ => rfl)) (pe_op op_pow pe_int pe_int))))) pss_nil)
      (pss_one (ps_ret (pe_op op_add (pe_op op_add (pv 1) (pe_op op_mul (pe_ix ix_tup (pv 0) pe_int (fun _ _ => rfl)) (pe_op op_pow pe_int pe_int))) (pe_op op_mod (pe_callTy call_intQ (by rfl) b_int (by decide +kernel) (pa_cons (pe_ix ix_tup (pv 0) pe_int (fun _ _ => rfl)) pa_nil)) (pe_op op_pow pe_int pe_int))))))))), ?_⟩
  walk_at "ws"
  refine ⟨rfl, fun p H1 np sm hp => ?_⟩
  walk_at "ws"
  refine w_ixTs (sm.sqT ht) (atI_of (v := .str op) (by decide) rfl) ?_
  walk_at "ws"
  refine w_lix hp at1 at2 ?_
  walk_at "ws"
  have key : ∀ (a : Int) (r : List Int), xs = a :: r → R16 a := by
    intro a r e
    cases hf <;> (cases e; assumption)
  cases hf with
  | dss ha hb hc =>
    rename_i a b c
    have hn13 := of.mp rfl
    unfold R16 at ha hb hc
    refine w_ixTs (sm.sqT ht) (atI_of (v := .int a) (by decide) rfl) ?_
    walk_at "ws"
    refine w_lenTn 4 (sm.sqT ht) rfl ?_
    walk_at "wd"
    refine w_lenTn 4 (sm.sqT ht) rfl ?_
    walk_at "wd"
    refine ⟨rfl, fun p2 H2 np2 sm2 hp2 => ?_⟩
    have ht2 := (sm.trans sm2).sqT ht
    walk_at "ws"
    refine w_ixTs ht2 (atI_of (v := .str op) (by decide) rfl) ?_
    walk_at "ws"
    refine w_lix hp2 at1 at2 ?_
    walk_at "ws"
    refine w_decT (by omega) ?_
    walk_at "ws"
    refine w_ixTs ht2 (atI_of (v := .int b) (by decide) rfl) ?_
    walk_at "ws"
    refine w_ixTs ht2 (atI_of (v := .int c) (by decide) rfl) ?_
    walk_at "ws"
    exact q _ H2 ⟨by omega, by omega⟩ (sm.trans sm2)
  | dsi ha hb =>
    rename_i a b c
    have hn13 : ¬ n < 13 := fun z => absurd (of.mpr z) (by show ¬ (("dsi" : Str) = "dss"); decide)
    unfold R16 at ha hb
    refine w_ixTs (sm.sqT ht) (atI_of (v := .int a) (by decide) rfl) ?_
    walk_at "ws"
    refine w_lenTn 4 (sm.sqT ht) rfl ?_
    walk_at "wd"
    refine w_lenTn 4 (sm.sqT ht) rfl ?_
    walk_at "wd"
    refine ⟨rfl, fun p2 H2 np2 sm2 hp2 => ?_⟩
    have ht2 := (sm.trans sm2).sqT ht
    walk_at "ws"
    refine w_ixTs ht2 (atI_of (v := .str op) (by decide) rfl) ?_
    walk_at "ws"
    refine w_lix hp2 at1 at2 ?_
    walk_at "ws"
    refine w_decF (by omega) ?_
    walk_at "ws"
    refine w_ixTs ht2 (atI_of (v := .int b) (by decide) rfl) ?_
    walk_at "ws"
    refine w_ixTs ht2 (atI_of (v := .int c) (by decide) rfl) ?_
    walk_at "ws"
    exact q _ H2 ⟨by omega, by omega⟩ (sm.trans sm2)
  | ssi ha hb =>
    rename_i a b c
    have hn13 : ¬ n < 13 := fun z => absurd (of.mpr z) (by show ¬ (("ssi" : Str) = "dss"); decide)
    unfold R16 at ha hb
    refine w_ixTs (sm.sqT ht) (atI_of (v := .int a) (by decide) rfl) ?_
    walk_at "ws"
    refine w_lenTn 4 (sm.sqT ht) rfl ?_
    walk_at "wd"
    refine w_lenTn 4 (sm.sqT ht) rfl ?_
    walk_at "wd"
    refine ⟨rfl, fun p2 H2 np2 sm2 hp2 => ?_⟩
    have ht2 := (sm.trans sm2).sqT ht
    walk_at "ws"
    refine w_ixTs ht2 (atI_of (v := .str op) (by decide) rfl) ?_
    walk_at "ws"
    refine w_lix hp2 at1 at2 ?_
    walk_at "ws"
    refine w_decF (by omega) ?_
    walk_at "ws"
    refine w_ixTs ht2 (atI_of (v := .int b) (by decide) rfl) ?_
    walk_at "ws"
    refine w_ixTs ht2 (atI_of (v := .int c) (by decide) rfl) ?_
    walk_at "ws"
    exact q _ H2 ⟨by omega, by omega⟩ (sm.trans sm2)
  | du ha =>
    rename_i a c
    unfold R16 at ha
    refine w_ixTs (sm.sqT ht) (atI_of (v := .int a) (by decide) rfl) ?_
    walk_at "ws"
    refine w_lenTn 3 (sm.sqT ht) rfl ?_
    walk_at "wd"
    refine w_lenTn 3 (sm.sqT ht) rfl ?_
    walk_at "wd"
    refine w_ixTs (sm.sqT ht) (atI_of (v := .int c) (by decide) rfl) ?_
    walk_at "ws"
    exact q _ H1 ⟨by omega, by omega⟩ sm
  | dj ha =>
    rename_i a c
    unfold R16 at ha
    refine w_ixTs (sm.sqT ht) (atI_of (v := .int a) (by decide) rfl) ?_
    walk_at "ws"
    refine w_lenTn 3 (sm.sqT ht) rfl ?_
    walk_at "wd"
    refine w_lenTn 3 (sm.sqT ht) rfl ?_
    walk_at "wd"
    refine w_ixTs (sm.sqT ht) (atI_of (v := .int c) (by decide) rfl) ?_
    walk_at "ws"
    exact q _ H1 ⟨by omega, by omega⟩ sm
  | d ha =>
    rename_i a
    unfold R16 at ha
    refine w_ixTs (sm.sqT ht) (atI_of (v := .int a) (by decide) rfl) ?_
    walk_at "ws"
    refine w_lenTn 2 (sm.sqT ht) rfl ?_
    walk_at "wd"
    exact q _ H1 ⟨by omega, by omega⟩ sm
  | s ha =>
    rename_i a
    unfold R16 at ha
    refine w_ixTs (sm.sqT ht) (atI_of (v := .int a) (by decide) rfl) ?_
    walk_at "ws"
    refine w_lenTn 2 (sm.sqT ht) rfl ?_
    walk_at "wd"
    exact q _ H1 ⟨by omega, by omega⟩ sm
def spValues : Sp := fun vs H Q _ => ∃ (l : Addr) (ws : List Int), vs = [.ref l] ∧ H l = some (.lst (ws.map V.int)) ∧ ws.length ≤ 20000 ∧ (∀ x ∈ ws, W32 x) ∧ ∀ (bs : List Int) p H', bs.length = 4 * ws.length → (∀ b ∈ bs, B8 b) → H p = none → Same H H' → H' p = some (.tup (bs.map V.int)) → Q (.ref p) H'
theorem w_cat' {l b : Addr} {xs zs : List Int} {H : Hp} {Q : VK} (h1 : H l = some (.lst (xs.map V.int))) (h2 : H b = some (.lst (zs.map V.int))) (hl : xs.length + zs.length ≤ 100000) (q : ∀ p H', H p = none → Same H H' → H' p = some (.lst ((xs ++ zs).map V.int)) → Q (.ref p) H') : rCat (.ref l) (.ref b) H Q :=
  w_cat h1 h2 (by rw [List.length_map, List.length_map]; exact Nat.le_trans hl (by decide)) fun p H' np s e => q p H' np s (by rw [List.map_append]; exact e)
theorem ok_law_values (b_tuple : mg "tuple" = none) (c_law_bytes : Cd P w K mg base 1 "_law_bytes" spBytes) (Z : St1 K mg "_law_values" s_law_values ["words"]) : Cd P w K mg base 2 "_law_values" spValues := by
  refine Z.cd sc_law_values (fun vs H Q E h => by obtain ⟨l, ws, rfl, _⟩ := h; rfl) (fun f cdv A outer s H vs Q E hr h => ?_)
  obtain ⟨l, ws, rfl, hl, hn, hw, q⟩ := h
  refine ⟨_, (pss_cons (ps_set (i := 1) sc_law_values.nd rfl (.inl rfl) (pe_lst pa_nil))
      (pss_cons (ps_for PassesOwn.never rfl (pi_list (pv 0)) (pg_name (i := 2) sc_law_values.nd rfl (.inl rfl))
      (pss_one (ps_set (i := 1) sc_law_values.nd rfl (.inl rfl) (pe_op op_cat (pv 1) (pe_cd c_law_bytes hr (by first | decide | omega) (by rfl) (pa_cons (pv 2) pa_nil))))))
      (pss_one (ps_ret (pe_callTy call_tupQ (by rfl) b_tuple (by decide +kernel) (pa_cons (pv 1) pa_nil)))))), ?_⟩
  walk_at "ws"
  refine w_kLst (by show 0 ≤ sizeLine; decide) fun g H1 ng s1 hg => ?_
  walk_at "ws"
  refine w_forL (ws.map V.int) (fun i σ H' => ∃ (bs : List Int) (g : Addr) (a : Option V), Same H H' ∧ bs.length = 4 * i ∧ (∀ b ∈ bs, B8 b) ∧ H' g = some (.lst (bs.map V.int)) ∧ σ = [some (.ref l), some (.ref g), a]) (.of (s1 _ _ hl)) ⟨[], g, _, s1, rfl, (fun _ h => by cases h), hg, rfl⟩ (fun i σ H2 hi h => by obtain ⟨bs, g, a, sm, _⟩ := h; exact .of (sm _ _ hl)) (fun i x σ H2 hx h => ?_) (fun σ H2 h => ?_)
  · obtain ⟨bs, g, a, sm, hl2, hb2, hg, rfl⟩ := h
    obtain ⟨y, hy, iy, rfl⟩ := map_get' hx
    have hi : i < ws.length := (List.getElem?_eq_some_iff.mp iy).1
    walk_at "ws"
    refine ⟨y, rfl, hw y hy, fun bs2 p3 H3 l3 hb3 np s3 hp3 => ?_⟩
    walk_at "ws"
    refine w_cat' (s3 _ _ hg) hp3 (by omega) fun g2 H4 ng2 s4 hg2 => ?_
    walk_at "ws"
    refine ⟨bs ++ bs2, g2, _, sm.trans (s3.trans s4), by rw [List.length_append]; omega, fun b hb => ?_, hg2, rfl⟩
    rcases List.mem_append.mp hb with hb | hb
    · exact hb2 b hb
    · exact hb3 b hb
  · obtain ⟨bs, g, a, sm, hl2, hb2, hg, rfl⟩ := h
    walk_at "ws"
    refine w_tupL (.of hg) fun t H3 nt s3 ht => ?_
    exact q bs t H3 (by rw [hl2, List.length_map]) hb2 (fresh sm nt) (sm.trans s3) ht
end
end K03

namespace K03
local macro_rules | `(tactic| walk_at "w1") => `(tactic| first
  | (with_reducible refine w_dget ?_)
  | (with_reducible refine w_dput ?_))
theorem sc_law_code_words : FnScope ["p", "words", "k", "row", "last"] ["p"] (defScope s_law_code_words) := ⟨rfl, rfl, rfl, by decide +kernel, rfl, by decide +kernel, by decide +kernel⟩
theorem atI_last (l : List V) (v : V) : atI (l ++ [v]) (((l ++ [v]).length : Nat) - 1 : Int) = some v := by
  rw [show (((l ++ [v]).length : Nat) - 1 : Int) = (l.length : Nat) by rw [List.length_append]; simp]
  exact atI_nat (by simp)
theorem w_catA {K : PySem.W.Frag} {a b : Addr} {xs ys : List V} {H : Hp} {Q : VK} (h1 : SqT K H a xs) (h2 : SqT K H b ys) (hl : xs.length + ys.length ≤ sizeLine) (n1 : xs ≠ []) (n2 : ys ≠ []) (q : ∀ p H', H p = none → Same H H' → H' p = some (.tup (xs ++ ys)) → Q (.ref p) H') : rCatA K (.ref a) (.ref b) H Q :=
  ⟨a, b, xs, ys, rfl, rfl, h1, h2, hl, fun e => absurd e n1, fun _ e => absurd e n2, fun _ _ p np => q p _ np (Same.new np) upd_same⟩
theorem w_rSlI {K : PySem.W.Frag} {H : Hp} {Q : VK} {a : Addr} {v : V} {l : List V} (h : SqT K H a (l ++ [v])) (q : ∀ p H', H p = none → Same H H' → H' p = some (.tup l) → Q (.ref p) H') : rSlA K (.ref a) none (some (((l ++ [v]).length : Nat) - 1 : Int)) H Q := by
  rw [show (((l ++ [v]).length : Nat) - 1 : Int) = (l.length : Nat) by rw [List.length_append]; simp]
  have e2 : HT.sIx (l ++ [v]).length (l ++ [v]).length (some (l.length : Nat)) = l.length := by rw [HT.sIx_nat]; simp
  refine ⟨a, _, rfl, h, fun ⟨_, e⟩ => ?_, fun _ p np => ?_⟩
  · rw [e2, List.length_append] at e
    simp at e
  · refine q p _ np (Same.new np) ?_
    have e : cutV (l ++ [v]) none (some (l.length : Nat)) = l := by
      unfold cutV
      rw [e2, HT.sIx_none]
      simp
    rw [e]; exact upd_same
theorem w_isiIT {K : PySem.W.Frag} {i : Int} {H : Hp} {Q : VK} (q : Q (.bl false) H) : rIsi K [.int i, .ty "tuple"] H Q := ⟨.int i, .ty "tuple", .type "int", .type "tuple", false, rfl, .ty _, .base (.int _), kit_ty (by decide +kernel), q⟩
theorem w_isiTT {K : PySem.W.Frag} {t : Addr} {xs : List V} {H : Hp} {Q : VK} (h : H t = some (.tup xs)) (q : Q (.bl true) H) : rIsi K [.ref t, .ty "tuple"] H Q := ⟨.ref t, .ty "tuple", .type "tuple", .type "tuple", true, rfl, .ty _, .base (.tup h), kit_ty (by decide +kernel), q⟩
theorem insV_snoc (op : Str) (ys : List Int) (z : Int) : insV op (ys ++ [z]) = insV op ys ++ [.int z] := by unfold insV; rw [List.map_append]; rfl
theorem RFits.snoc {fm : Str} {xs : List Int} (h : RFits fm xs) : ∃ ys z, xs = ys ++ [z] := by
  cases h with
  | dss => exact ⟨[_, _], _, rfl⟩
  | dsi => exact ⟨[_, _], _, rfl⟩
  | ssi => exact ⟨[_, _], _, rfl⟩
  | du => exact ⟨[_], _, rfl⟩
  | dj => exact ⟨[_], _, rfl⟩
  | d => exact ⟨[], _, rfl⟩
  | s => exact ⟨[], _, rfl⟩
theorem RFits.len {fm : Str} {xs : List Int} (h : RFits fm xs) : xs.length ≤ 3 := by cases h <;> simp
section
variable {P : Program} {w : World} {K : PySem.W.Frag} {mg : Str → Option Value} {base : Heap}
def spCW : Sp := fun vs H Q _ => ∃ (p : Addr) (S : PS), vs = [.ref p] ∧ PAt H p S ∧ S.code.length ≤ 100000 ∧ ∀ (ws : List Int) l H', ws.length = S.code.length → (∀ x ∈ ws, W32 x) → H l = none → Same H H' → H' l = some (.lst (ws.map V.int)) → Q (.ref l) H'
theorem ok_law_code_words (b_len : mg "len" = none) (b_range : mg "range" = none) (b_isinstance : mg "isinstance" = none) (b_tuple : mg "tuple" = none) (c_law_word : Cd P w K mg base 2 "_law_word" (spWordR K)) (Z : St1 K mg "_law_code_words" s_law_code_words ["p"]) : Cd P w K mg base 3 "_law_code_words" spCW := by
  refine Z.cd sc_law_code_words (fun vs H Q E h => by obtain ⟨p, S, rfl, _⟩ := h; rfl) (fun f cdv A outer s H vs Q E hr h => ?_)
  obtain ⟨p, S, rfl, hP, hl, q⟩ := h
  have hu := hu_of hr
  refine ⟨_, (pss_cons (ps_set (i := 1) sc_law_code_words.nd rfl (.inl rfl) (pe_lst pa_nil))
      (pss_cons (ps_for PassesOwn.never rfl (pi_range1 (by rfl) b_range (pa_cons (pe_callB call_lenQ (by rfl) b_len PySem.boot_len (pa_cons (pe_dget hu (pv 0) pe_str (fun _ _ => rfl)) pa_nil)) pa_nil)) (pg_name (i := 2) sc_law_code_words.nd rfl (.inl rfl))
      (pss_cons (ps_set (i := 3) sc_law_code_words.nd rfl (.inl rfl) (pe_ix ix_list (pe_dget hu (pv 0) pe_str (fun _ _ => rfl)) (pv 2) (fun _ _ => rfl)))
      (pss_one (ps_if (pt_cmpR op_eq (pe_ix ix_tup (pv 3) pe_int (fun _ _ => rfl)) pe_str (nomark _)) (pss_one (ps_expr (pe_bm PySem.F.plainAttrs_list PySem.F.slot_list_append PySem.F.type_list_append mt_append (pv 1) (pa_cons (pe_ix ix_tup (pv 3) pe_int (fun _ _ => rfl)) pa_nil)))) (pss_cons (ps_set (i := 4) sc_law_code_words.nd rfl (.inl rfl) (pe_ix ix_tup (pv 3) (pe_op op_sub (pe_callB call_lenQ (by rfl) b_len PySem.boot_len (pa_cons (pv 3) pa_nil)) pe_int) (fun _ _ => rfl)))
      (Evl.pss_cut (ps_if (pt_val (pe_callB call_isi (by rfl) b_isinstance (by decide +kernel) (pa_cons (pv 4) (pa_cons (pe_bltn (v := .ty "tuple") (by rfl) b_tuple (by decide +kernel) rfl) pa_nil)))) (pss_one (ps_set (i := 3) sc_law_code_words.nd rfl (.inl rfl) (pe_op op_catA (pe_slice sl_tupA (pv 3) po_none (po_some (pe_op op_sub (pe_callB call_lenQ (by rfl) b_len PySem.boot_len (pa_cons (pv 3) pa_nil)) pe_int))) (pe_tup (pa_cons (pe_op op_sub (pe_ix ix_list (pe_dget hu (pv 0) pe_str (fun _ _ => rfl)) (pe_ix ix_tup (pv 4) pe_int (fun _ _ => rfl)) (fun _ _ => rfl)) (pv 2)) pa_nil))))) pss_nil)
      (pss_one (ps_expr (pe_bm PySem.F.plainAttrs_list PySem.F.slot_list_append PySem.F.type_list_append mt_append (pv 1) (pa_cons (pe_cd c_law_word hr (by first | decide | omega) (by rfl) (pa_cons (pv 3) pa_nil)) pa_nil))))))))))
      (pss_one (ps_ret (pv 1))))), ?_⟩
  walk_at "ws"
  refine w_kLst (by show 0 ≤ sizeLine; decide) fun g H1 ng s1 hg => ?_
  walk_at "ws"
  refine w_kDG (s1 _ _ hP.hp) rfl ?_
  have hc1 := s1 _ _ hP.hc
  walk_at "ws"
  refine w_forR S.code.length (fun i σ H' => ∃ (ws : List Int) (a b c : Option V), Same H H' ∧ ws.length = i ∧ (∀ x ∈ ws, W32 x) ∧ H' g = some (.lst (ws.map V.int)) ∧ σ = [some (.ref p), some (.ref g), a, b, c]) (by simp) (by omega) ⟨[], _, _, _, s1, rfl, (fun _ h => by cases h), hg, rfl⟩ (fun i σ H2 hi h => ?_) (fun σ H2 h => ?_)
  · obtain ⟨ws, a, b, c, sm, hlen, hw, hg2, rfl⟩ := h
    have hP2 := hP.same sm
    walk_at "ws"
    refine w_kDG hP2.hp rfl ?_
    walk_at "ws"
    have hr := hP2.rows _ (List.getElem_mem hi)
    refine w_ixL hP2.hc (atI_nat (List.getElem?_eq_getElem hi)) ?_
    obtain ⟨t, et, hr⟩ := hr
    rw [et]
    walk_at "ws"
    have fin : ∀ (x : Int) H3 a b c, W32 x → Same H2 H3 → ∀ σ, σ = [some (.ref p), some (.ref g), a, b, c] → ∀ H4, H4 g = some (.lst (ws.map V.int ++ [V.int x])) → But g H3 H4 → ∃ (ws : List Int) (a b c : Option V), Same H H4 ∧ ws.length = i + 1 ∧ (∀ x ∈ ws, W32 x) ∧ H4 g = some (.lst (ws.map V.int)) ∧ σ = [some (.ref p), some (.ref g), a, b, c] := by
      intro x H3 a b c hx s3 σ e H4 h4 b4
      refine ⟨ws ++ [x], a, b, c, fun y o hy => b4 y o (ne_of_none hy ng) (s3 _ _ (sm _ _ hy)), by rw [List.length_append, hlen]; rfl, fun y hy => ?_, by rw [List.map_append]; exact h4, e⟩
      rcases List.mem_append.mp hy with hy | hy
      · exact hw y hy
      · rw [List.mem_singleton.mp hy]; exact hx
    have hsz : (ws.map V.int).length < sizeLine := by rw [List.length_map, hlen]; exact Nat.lt_of_le_of_lt (show i ≤ 100000 by omega) (by decide)
    rcases hr with ⟨n, op, fm, xs, h1, h2, h3⟩ | ⟨n, op, fm, xs, t2, lb, h1, h2, h3, h4, h5, h6⟩ | ⟨x, h1, h2, h3⟩
    · obtain ⟨ys, z, rfl⟩ := h2.snoc
      have hn : n < 38 := (List.getElem?_eq_some_iff.mp h1).1
      walk_at "ws"
      refine w_ixT h3 (atI_of (v := .str op) (by decide) rfl) ?_
      walk_at "ws"
      refine w_decF (op_dss n hn _ h1).2 ?_
      walk_at "ws"
      refine w_lenT h3 ?_
      walk_at "ws"
      refine w_ixT h3 (by rw [insV_snoc]; exact atI_last _ _) ?_
      walk_at "ws"
      refine Evl.q_cut (M := fun σ' H' => ∃ (t' : Addr) (xs' : List Int), Same H2 H' ∧ SqT K H' t' (insV op xs') ∧ RFits fm xs' ∧ σ' = [some (.ref p), some (.ref g), some (.int (i : Nat)), some (.ref t'), some (.int z)]) ?_ ?_
      · walk_at "ws"
        refine w_isiIT ?_
        walk_at "ws"
        exact ⟨t, ys ++ [z], (fun _ _ e => e), .inl (.inl h3), h2, rfl⟩
      · rintro σ' H3 ⟨t', xs', s3, sq, hf, rfl⟩
        walk_at "ws"
        refine w_tyL (s3 _ _ hg2) ?_
        walk_at "ws"
        refine ⟨t', n, op, fm, xs', rfl, sq, h1, hf, fun x H4 hx s4 => ?_⟩
        walk_at "ws"
        refine w_append (s4 _ _ (s3 _ _ hg2)) hsz fun H5 hg5 b5 => ?_
        walk_at "ws"
        exact fin x H4 _ _ _ hx (s3.trans s4) _ rfl H5 hg5 b5
    · have hn : n < 38 := (List.getElem?_eq_some_iff.mp h1).1
      walk_at "ws"
      refine w_ixT h3 (atI_of (v := .str op) (by decide) rfl) ?_
      walk_at "ws"
      refine w_decF (op_dss n hn _ h1).2 ?_
      walk_at "ws"
      refine w_lenT h3 ?_
      walk_at "ws"
      refine w_ixT h3 (atI_last _ _) ?_
      walk_at "ws"
      refine Evl.q_cut (M := fun σ' H' => ∃ (t' : Addr) (xs' : List Int), Same H2 H' ∧ SqT K H' t' (insV op xs') ∧ RFits fm xs' ∧ σ' = [some (.ref p), some (.ref g), some (.int (i : Nat)), some (.ref t'), some (.ref t2)]) ?_ ?_
      · walk_at "ws"
        refine w_isiTT h4 ?_
        walk_at "ws"
        refine w_lenT h3 ?_
        walk_at "ws"
        refine w_rSlI (.inl (.inl h3)) fun u H3 nu s3 hu3 => ?_
        walk_at "ws"
        refine w_kDG (s3 _ _ hP2.hp) rfl ?_
        walk_at "ws"
        have h4' := s3 _ _ h4
        walk_at "ws"
        obtain ⟨m, rfl⟩ := Int.eq_ofNat_of_zero_le h5
        have hm : m < S.at_.length := by omega
        refine w_ixL (s3 _ _ hP2.ha) (atI_nat (v := .int S.at_[m]) (by rw [List.getElem?_map, List.getElem?_eq_getElem hm]; rfl)) ?_
        walk_at "ws"
        refine w_kTup (by show 1 ≤ sizeLine; decide) fun u2 H4 nu2 s4 hu4 => ?_
        refine w_catA (.inl (.inl (s4 _ _ hu3))) (.inl (.inl hu4)) (Nat.le_trans (show (insV op xs).length + 1 ≤ 100 by have := (h2 0).len; rw [List.length_append] at this; unfold insV; rw [List.length_cons, List.length_map]; simp only [List.length_cons, List.length_nil] at this; omega) (by decide)) (by unfold insV; simp) (by simp) fun u3 H5 nu3 s5 hu5 => ?_
        walk_at "ws"
        exact ⟨u3, xs ++ [S.at_[m] - (i : Nat)], s3.trans (s4.trans s5), .inl (.inl (by rw [insV_snoc]; exact hu5)), h2 _, rfl⟩
      · rintro σ' H3 ⟨t', xs', s3, sq, hf, rfl⟩
        walk_at "ws"
        refine w_tyL (s3 _ _ hg2) ?_
        walk_at "ws"
        refine ⟨t', n, op, fm, xs', rfl, sq, h1, hf, fun x H4 hx s4 => ?_⟩
        walk_at "ws"
        refine w_append (s4 _ _ (s3 _ _ hg2)) hsz fun H5 hg5 b5 => ?_
        walk_at "ws"
        exact fin x H4 _ _ _ hx (s3.trans s4) _ rfl H5 hg5 b5
    · walk_at "ws"
      refine w_decT rfl ?_
      walk_at "ws"
      refine w_append hg2 hsz fun H3 hg3 b3 => ?_
      walk_at "ws"
      exact fin x H2 _ _ _ ⟨h1, h2⟩ (fun _ _ e => e) _ rfl H3 hg3 b3
  · obtain ⟨ws, a, b, c, sm, hlen, hw, hg2, rfl⟩ := h
    walk_at "ws"
    exact q ws g H2 hlen hw ng sm hg2
end
end K03

namespace K03
local macro_rules | `(tactic| walk_at "w1") => `(tactic| first
  | (with_reducible refine w_dget ?_)
  | (with_reducible refine w_dput ?_))
theorem sc_law_image : FnScope ["draw", "left", "base", "p", "functions", "k", "words", "table", "data", "segments", "symbols", "label"] ["draw", "left"] (defScope s_law_image) := ⟨rfl, rfl, rfl, by decide +kernel, rfl, by decide +kernel, by decide +kernel⟩
def kDsp (p : Addr) (Q : VK) : List (V × V) → Hp → Prop := fun ps H2 => H2 p = some (.dK []) ∧ ∃ kvs : List (Key × V), ps = kvs.map (fun kv => (kV kv.1, kv.2)) ∧ kvs.length ≤ 15 ∧ Q (.ref p) (upd H2 p (.dK (mergeK [] kvs)))
theorem w_disp {trs : List (TE × TE)} {σ : L2.St} {H : Hp} {Q : VK} (q : ∀ p, H p = none → tPairs trs σ (upd H p (.dK [])) (kDsp p Q)) : tDisp trs σ H Q := q
theorem w_pN {σ : L2.St} {H : Hp} {Q : List (V × V) → Hp → Prop} (q : Q [] H) : tPairs [] σ H Q := q
theorem w_pC {tk tv : TE} {r : List (TE × TE)} {σ : L2.St} {H : Hp} {Q : List (V × V) → Hp → Prop} (q : tk σ H fun k H1 => tv σ H1 fun v H2 => tPairs r σ H2 fun ps H3 => Q ((k, v) :: ps) H3) : tPairs ((tk, tv) :: r) σ H Q := q
local macro_rules | `(tactic| walk_at "w1") => `(tactic| first
  | (with_reducible refine w_pN ?_)
  | (with_reducible refine w_pC ?_))
theorem DrawC.hdl {H : Hp} {d c : Addr} (h : DrawC H d c) : (∃ xs, H d = some (.lst xs)) ∧ H d = H d := ⟨by obtain ⟨cs, i, cur, seed, hd, _⟩ := h; exact ⟨_, hd⟩, rfl⟩
/-- the generator's state, told from the heap that it began with -/
structure Im (H0 : Hp) (d cc p c a : Addr) (C A T : Int) (S : PS) (H : Hp) : Prop where
  pt : PAt H p S
  bt : But d H0 H
  e1 : S.d = d
  e2 : S.cc = cc
  e3 : S.c = c
  e4 : S.a = a
  c6 : (S.code.length : Int) + 6 * S.left ≤ C
  a6 : (S.at_.length : Int) + 6 * S.left ≤ A
  t6 : (S.tbl.length : Int) + 6 * S.left ≤ T
  l : S.calls.length ≤ 2
structure Fr3 (H0 : Hp) (p c a : Addr) : Prop where
  np : H0 p = none
  nc : H0 c = none
  na : H0 a = none
section
variable {H0 H1 H2 : Hp} {d cc p c a : Addr} {C A T : Int} {S1 S2 : PS}
theorem Im.fr (I : Im H0 d cc p c a C A T S1 H1) (F : Fr3 H0 p c a) (f : FrP p S1 H1 H2) : But d H0 H2 := fun b o n e => f b o (ne_of_none e F.np) (by rw [I.e1]; exact n) (by rw [I.e3]; exact ne_of_none e F.nc) (by rw [I.e4]; exact ne_of_none e F.na) (I.bt b o n e)
theorem Im.rch {x y z : Nat} (I : Im H0 d cc p c a C A T S1 H1) (F : Fr3 H0 p c a) (R : Rch p S1 H1 x y z S2 H2) : Im H0 d cc p c a (C + x) (A + y) (T + z) S2 H2 := by
  have := I.c6; have := I.a6; have := I.t6; have := R.c6; have := R.a6; have := R.t6
  exact ⟨R.pt, I.fr F R.fr, R.ed.trans I.e1, R.ek.trans I.e2, R.ec.trans I.e3, R.ea.trans I.e4, by omega, by omega, by omega, by rw [R.eq]; exact I.l⟩
theorem Im.tot {m : Int} (I : Im H0 d cc p c a C A T S1 H1) (h1 : C ≤ m) (h2 : A ≤ m) (h3 : T ≤ m) : Tot S1 m := by
  have := I.c6; have := I.a6; have := I.t6; have := I.l
  exact ⟨by omega, by omega, by omega, by omega⟩
theorem Im.sm (I : Im H0 d cc p c a C A T S1 H1) (s : Same H1 H2) : Im H0 d cc p c a C A T S1 H2 := { I with pt := I.pt.same s, bt := fun b o n e => s _ _ (I.bt b o n e) }
theorem Im.take (I : Im H0 d cc p c a C A T S1 H1) (F : Fr3 H0 p c a) (b : But d H1 H2) (hd : DrawC H2 d cc) : Im H0 d cc p c a C A T S1 H2 := by
  obtain ⟨h, f⟩ := I.pt.draw (H' := H2) (by rw [I.e1]; exact b) (by rw [I.e1, I.e2]; exact hd)
  exact { I with pt := h, bt := I.fr F f }
theorem Im.hd (I : Im H0 d cc p c a C A T S1 H1) : DrawC H1 d cc := by have := I.pt.hd; rw [I.e1, I.e2] at this; exact this
theorem _root_.K03.PAt.but {H H' : Hp} {x : Addr} {xs : List V} {S : PS} (h : PAt H p S) (b : But x H H') (hx : H x = some (.lst xs)) (n1 : S.d ≠ x) (n2 : S.cc ≠ x) (n3 : S.c ≠ x) (n4 : S.a ≠ x) (n5 : S.cl ≠ x) (n6 : S.tb ≠ x) : PAt H' p S :=
  { h with hp := b _ _ (h.nep hx).symm h.hp, hd := h.hd.keep (fun o => b _ o n1) (fun o => b _ o n2), hc := b _ _ n3 h.hc, ha := b _ _ n4 h.ha, hcl := b _ _ n5 h.hcl, htb := b _ _ n6 h.htb, rows := fun u hu => (h.rows u hu).keep (.lst b hx) (Nat.le_refl _) }
theorem Im.but {x : Addr} {xs : List V} (I : Im H0 d cc p c a C A T S1 H1) (b : But x H1 H2) (hx : H1 x = some (.lst xs)) (nx : H0 x = none) (n1 : d ≠ x) (n2 : cc ≠ x) (n3 : c ≠ x) (n4 : a ≠ x) (n5 : S1.cl ≠ x) (n6 : S1.tb ≠ x) : Im H0 d cc p c a C A T S1 H2 :=
  { I with pt := I.pt.but b hx (by rw [I.e1]; exact n1) (by rw [I.e2]; exact n2) (by rw [I.e3]; exact n3) (by rw [I.e4]; exact n4) n5 n6, bt := fun y o n e => b y o (ne_of_none e nx) (I.bt y o n e) }
theorem _root_.K03.PAt.setcl {H H' : Hp} {t : Addr} {S : PS} {ts : List Int} (h : PAt H p S) (b : But p H H') (hp : H' p = some (.dK (pD (.ref S.d) (.ref S.c) (.ref S.a) (.ref t) (.ref S.tb) (.int S.left)))) (ht : H t = some (.lst (ts.map V.int))) (n1 : t ≠ S.d) (n2 : t ≠ S.c) (n3 : t ≠ S.a) (hts : ∀ l ∈ ts, 0 ≤ l ∧ l < S.at_.length) : PAt H' p { S with cl := t, calls := ts } ∧ FrP p S H H' := by
  obtain ⟨xs, hx⟩ := h.hdl
  obtain ⟨ys, hy⟩ := h.hccl
  refine ⟨{ h with hp := hp, hd := h.hd.keep (fun o => b _ o (h.nep hx)) (fun o => b _ o (h.nep hy)), hc := b _ _ (h.nep h.hc) h.hc, ha := b _ _ (h.nep h.ha) h.ha, hcl := b _ _ (h.nep ht) ht, htb := b _ _ (h.nep h.htb) h.htb, ld := n1, lc := n2, la := n3, rows := fun v hv => (h.rows v hv).keep (.dic b h.hp) (Nat.le_refl _), cls := hts }, fun q o h1 _ _ _ e => b q o h1 e⟩
theorem Im.setcl {t : Addr} {ts : List Int} (I : Im H0 d cc p c a C A T S1 H1) (F : Fr3 H0 p c a) (b : But p H1 H2) (hp : H2 p = some (.dK (pD (.ref S1.d) (.ref S1.c) (.ref S1.a) (.ref t) (.ref S1.tb) (.int S1.left)))) (ht : H1 t = some (.lst (ts.map V.int))) (n1 : t ≠ d) (n2 : t ≠ c) (n3 : t ≠ a) (hl : ts.length ≤ 2) (hts : ∀ l ∈ ts, 0 ≤ l ∧ l < S1.at_.length) : Im H0 d cc p c a C A T { S1 with cl := t, calls := ts } H2 := by
  obtain ⟨h, f⟩ := I.pt.setcl b hp ht (by rw [I.e1]; exact n1) (by rw [I.e3]; exact n2) (by rw [I.e4]; exact n3) hts
  exact ⟨h, I.fr F f, I.e1, I.e2, I.e3, I.e4, I.c6, I.a6, I.t6, hl⟩
theorem Im.setlf {m : Int} (I : Im H0 d cc p c a C A T S1 H1) (F : Fr3 H0 p c a) (b : But p H1 H2) (hp : H2 p = some (.dK (pD (.ref S1.d) (.ref S1.c) (.ref S1.a) (.ref S1.cl) (.ref S1.tb) (.int m)))) (hm : 0 ≤ m) : Im H0 d cc p c a (C + 6 * m) (A + 6 * m) (T + 6 * m) { S1 with left := m } H2 := by
  obtain ⟨h, f⟩ := I.pt.lft b hp hm
  have := I.c6; have := I.a6; have := I.t6; have := I.pt.lf
  exact ⟨h, I.fr F f, I.e1, I.e2, I.e3, I.e4, by show (S1.code.length : Int) + 6 * m ≤ _; omega, by show (S1.at_.length : Int) + 6 * m ≤ _; omega, by show (S1.tbl.length : Int) + 6 * m ≤ _; omega, I.l⟩
theorem x_set {n v : Int} {Q : VK} {E : XK} {x y z : Nat} {S : PS} {H : Hp} (R : Rch p S H x y z S1 H1) (hm : S1.code.length ≤ 99990) (hn : R16 n) (q : ∀ (S2 : PS) H2, Rch p S H (x + 2) y z S2 H2 → Q .non H2) : spSet [.ref p, .int n, .int v] H1 Q E := by
  refine ⟨p, S1, n, v, rfl, R.pt, hm, hn, fun v1 v2 H2 hP f => q { S1 with code := S1.code ++ [v1, v2] } H2 ?_⟩
  have := R.c6; have := R.cg
  exact { R with pt := hP, fr := R.fr.trans f R.ed R.ec R.ea, cg := by show S.code.length ≤ (S1.code ++ [v1, v2]).length; rw [List.length_append]; omega, c6 := by show ((S1.code ++ [v1, v2]).length : Int) + _ ≤ _; rw [List.length_append]; simp only [List.length_cons, List.length_nil]; show ((S1.code.length + (0 + 1 + 1) : Nat) : Int) + 6 * S1.left ≤ _; omega }
end
/-- an image laid down: three segments and three symbols -/
def ImgAt (H : Hp) (t : Addr) (b : Int) (x1 x2 x3 : List Int) : Prop := ∃ sg sy s1 s2 s3 v1 v2 v3 y1 y2 y3 : Addr,
  H t = some (.tup [.ref sg, .int b, .ref sy]) ∧ H sg = some (.tup [.ref s1, .ref s2, .ref s3]) ∧
  H s1 = some (.tup [.int b, .ref v1, .bl false, .bl true]) ∧ H v1 = some (.tup (x1.map V.int)) ∧
  H s2 = some (.tup [.int (b + 2048), .ref v2, .bl true, .bl false]) ∧ H v2 = some (.tup (x2.map V.int)) ∧
  H s3 = some (.tup [.int (b + 4096), .ref v3, .bl false, .bl false]) ∧ H v3 = some (.tup (x3.map V.int)) ∧
  H sy = some (.tup [.ref y1, .ref y2, .ref y3]) ∧ H y1 = some (.tup [.int b, .str "start"]) ∧ H y2 = some (.tup [.int (b + 2048), .str "data"]) ∧ H y3 = some (.tup [.int (b + 4096), .str "table"])
structure ImOk (left b : Int) (x1 x2 x3 : List Int) : Prop where
  hb : b = 64 ∨ b = 4096 ∨ b = 1048576 ∨ b = 2147483648
  h1 : ∃ n : Nat, x1.length = 4 * n ∧ 1 ≤ n ∧ (n : Int) ≤ 55 + 6 * left
  h2 : x2.length = 24
  h3 : ∃ n : Nat, x3.length = 4 * n ∧ 3 ≤ n ∧ (n : Int) ≤ 51 + 6 * left
  b1 : ∀ x ∈ x1, B8 x
  b2 : ∀ x ∈ x2, B8 x
  b3 : ∀ x ∈ x3, B8 x
def spImage : Sp := fun vs H Q _ => ∃ (d cc : Addr) (left : Int), vs = [.ref d, .int left] ∧ DrawC H d cc ∧ 0 ≤ left ∧ left ≤ 72 ∧ ∀ (t : Addr) (b : Int) (x1 x2 x3 : List Int) H', ImgAt H' t b x1 x2 x3 → ImOk left b x1 x2 x3 → DrawC H' d cc → But d H H' → Q (.ref t) H'
section
variable {P : Program} {w : World} {K : PySem.W.Frag} {mg : Str → Option Value} {base : Heap}
theorem ok_law_image (b_len : mg "len" = none) (b_range : mg "range" = none) (b_min : mg "min" = none) (b_tuple : mg "tuple" = none) (c_law_take : Cd P w K mg base 1 "_law_take" spTake) (c_law_set : Cd P w K mg base 2 "_law_set" spSet) (c_law_label : Cd P w K mg base 1 "_law_label" spLabel) (c_law_here : Cd P w K mg base 1 "_law_here" spHere) (c_law_rows : Cd P w K mg base 10 "_law_rows" (spRows 2)) (c_law_put_word : Cd P w K mg base 1 "_law_put_word" spPut) (c_law_code_words : Cd P w K mg base 3 "_law_code_words" spCW) (c_law_values : Cd P w K mg base 2 "_law_values" spValues) (Z : St1 K mg "_law_image" s_law_image ["draw", "left"]) : Cd P w K mg base 11 "_law_image" spImage := by
  refine Z.cd sc_law_image (fun vs H Q E h => by obtain ⟨d, cc, left, rfl, _⟩ := h; rfl) (fun f cdv A outer s H vs Q E hr h => ?_)
  obtain ⟨d, cc, left, rfl, hd, l0, l1, q⟩ := h
  have hu := hu_of hr
  refine ⟨_, (pss_cons (ps_set (i := 2) sc_law_image.nd rfl (.inr rfl) (pe_ix ix_list (pe_lst (pa_cons pe_int (pa_cons pe_int (pa_cons (pe_op op_pow pe_int pe_int) (pa_cons (pe_op op_pow pe_int pe_int) pa_nil))))) (pe_cd c_law_take hr (by first | decide | omega) (by rfl) (pa_cons (pv 0) (pa_cons pe_int pa_nil))) (fun _ _ => rfl)))
      (pss_cons (ps_set (i := 3) sc_law_image.nd rfl (.inr rfl) (pe_disp (pps_cons pe_str (pv 0) (pps_cons pe_str (pe_lst pa_nil) (pps_cons pe_str (pe_lst pa_nil) (pps_cons pe_str (pe_lst pa_nil) (pps_cons pe_str (pe_lst pa_nil) (pps_cons pe_str (pv 1) pps_nil)))))) (by rfl) (by rfl) (fun z => by cases z) (by decide)))
      (pss_cons (ps_expr (pe_cd c_law_set hr (by first | decide | omega) (by rfl) (pa_cons (pv 3) (pa_cons pe_int (pa_cons (pe_op op_add (pv 2) pe_int) pa_nil)))))
      (pss_cons (ps_expr (pe_cd c_law_set hr (by first | decide | omega) (by rfl) (pa_cons (pv 3) (pa_cons pe_int (pa_cons (pe_op op_add (pv 2) pe_int) pa_nil)))))
      (pss_cons (ps_set (i := 4) sc_law_image.nd rfl (.inl rfl) (pe_lst pa_nil))
      (pss_cons (ps_for PassesOwn.never rfl (pi_range1 (by rfl) b_range (pa_cons (pe_cd c_law_take hr (by first | decide | omega) (by rfl) (pa_cons (pv 0) (pa_cons pe_int pa_nil))) pa_nil)) (pg_name (i := 5) sc_law_image.nd rfl (.inl rfl))
      (pss_one (ps_expr (pe_bm PySem.F.plainAttrs_list PySem.F.slot_list_append PySem.F.type_list_append mt_append (pv 4) (pa_cons (pe_cd c_law_label hr (by first | decide | omega) (by rfl) (pa_cons (pv 3) pa_nil)) pa_nil)))))
      (pss_cons (ps_dput hu (pv 3) pe_str (pv 4) rfl)
      (pss_cons (ps_expr (pe_cd c_law_rows hr (by first | decide | omega) (by rfl) (pa_cons (pv 3) (pa_cons pe_int pa_nil))))
      (pss_cons (ps_expr (pe_cd c_law_put_word hr (by first | decide | omega) (by rfl) (pa_cons (pv 3) (pa_cons (pe_tup (pa_cons pe_str (pa_cons (pe_op op_add pe_int (pe_cd c_law_take hr (by first | decide | omega) (by rfl) (pa_cons (pv 0) (pa_cons pe_int pa_nil)))) pa_nil))) pa_nil))))
      (pss_cons (ps_for PassesOwn.never rfl (pi_range1 (by rfl) b_range (pa_cons (pe_callB call_lenQ (by rfl) b_len PySem.boot_len (pa_cons (pv 4) pa_nil)) pa_nil)) (pg_name (i := 5) sc_law_image.nd rfl (.inl rfl))
      (pss_cons (ps_dput hu (pv 3) pe_str (pe_lst pa_nil) rfl)
      (pss_cons (ps_expr (pe_cd c_law_here hr (by first | decide | omega) (by rfl) (pa_cons (pv 3) (pa_cons (pe_ix ix_list (pv 4) (pv 5) (fun _ _ => rfl)) pa_nil))))
      (pss_cons (ps_dput hu (pv 3) pe_str (pe_callB (call_min2 rfl) (by rfl) b_min (by decide +kernel) (pa_cons pe_int (pa_cons (pv 1) pa_nil))) rfl)
      (pss_cons (ps_expr (pe_cd c_law_rows hr (by first | decide | omega) (by rfl) (pa_cons (pv 3) (pa_cons pe_int pa_nil))))
      (pss_one (ps_expr (pe_cd c_law_put_word hr (by first | decide | omega) (by rfl) (pa_cons (pv 3) (pa_cons (pe_tup (pa_cons pe_str (pa_cons pe_int (pa_cons pe_int (pa_cons pe_int pa_nil))))) pa_nil))))))))))
      (pss_cons (ps_set (i := 6) sc_law_image.nd rfl (.inl rfl) (pe_cd c_law_code_words hr (by first | decide | omega) (by rfl) (pa_cons (pv 3) pa_nil)))
      (pss_cons (ps_set (i := 7) sc_law_image.nd rfl (.inl rfl) (pe_op op_cat (pe_lc (own := [("label", 11)]) rfl sc_law_image.nd (pi_list (pe_dget hu (pv 3) pe_str (fun _ _ => rfl))) (blkOk_by (own := [("label", 11)]) (N := ["draw", "left", "base", "p", "functions", "k", "words", "table", "data", "segments", "symbols", "label"]) (sc := (defScope s_law_image)) (by decide +kernel)) (fun _ _ _ _ _ => (pg_name (i := 11) sc_law_image.nd rfl (.inl rfl))) (fun _ _ _ _ _ => pts_nil) (fun _ _ _ _ _ => (pe_op op_add (pv 2) (pe_op op_mul pe_int (pe_ix (ix_listK (K' := K) (by rfl)) (pe_dget hu (pv 3) pe_str (fun _ _ => rfl)) (pv 11) (fun _ _ => rfl)))))) (pe_lst (pa_cons (pv 2) (pa_cons pe_int (pa_cons (pe_cd c_law_take hr (by first | decide | omega) (by rfl) (pa_cons (pv 0) (pa_cons (pe_op op_pow pe_int pe_int) pa_nil))) pa_nil))))))
      (pss_cons (ps_setLc (i := 8) (own := [("k", 5)]) rfl sc_law_image.nd rfl rfl (sw_true rfl rfl rfl (by decide +kernel)) (pi_range1 (by rfl) b_range (pa_cons pe_int pa_nil)) (blkOk_by (own := [("k", 5)]) (N := ["draw", "left", "base", "p", "functions", "k", "words", "table", "data", "segments", "symbols", "label"]) (sc := (defScope s_law_image)) (by decide +kernel)) (fun _ _ _ _ _ => (pg_name (i := 5) sc_law_image.nd rfl (.inl rfl))) (fun _ _ _ _ _ => pts_nil) (fun _ _ _ _ _ => (pe_cd c_law_take hr (by first | decide | omega) (by rfl) (pa_cons (pv 0) (pa_cons pe_int pa_nil)))))
      (pss_cons (ps_set (i := 9) sc_law_image.nd rfl (.inl rfl) (pe_tup (pa_cons (pe_tup (pa_cons (pv 2) (pa_cons (pe_cd c_law_values hr (by first | decide | omega) (by rfl) (pa_cons (pv 6) pa_nil)) (pa_cons pe_bl (pa_cons pe_bl pa_nil))))) (pa_cons (pe_tup (pa_cons (pe_op op_add (pv 2) pe_int) (pa_cons (pe_callTy call_tupQ (by rfl) b_tuple (by decide +kernel) (pa_cons (pv 8) pa_nil)) (pa_cons pe_bl (pa_cons pe_bl pa_nil))))) (pa_cons (pe_tup (pa_cons (pe_op op_add (pv 2) pe_int) (pa_cons (pe_cd c_law_values hr (by first | decide | omega) (by rfl) (pa_cons (pv 7) pa_nil)) (pa_cons pe_bl (pa_cons pe_bl pa_nil))))) pa_nil)))))
      (pss_cons (ps_set (i := 10) sc_law_image.nd rfl (.inl rfl) (pe_tup (pa_cons (pe_tup (pa_cons (pv 2) (pa_cons pe_str pa_nil))) (pa_cons (pe_tup (pa_cons (pe_op op_add (pv 2) pe_int) (pa_cons pe_str pa_nil))) (pa_cons (pe_tup (pa_cons (pe_op op_add (pv 2) pe_int) (pa_cons pe_str pa_nil))) pa_nil)))))
      (pss_one (ps_ret (pe_tup (pa_cons (pv 9) (pa_cons (pv 2) (pa_cons (pv 10) pa_nil))))))))))))))))))))), ?_⟩
  walk_at "ws"
  refine w_kLst (by show 4 ≤ sizeLine; decide) fun g H1 ng s1 hg => ?_
  walk_at "ws"
  refine w_take (hd.same s1) (by decide) (by decide) fun r H2 r0 r1 hd2 b2 => ?_
  obtain ⟨v, hv, hat⟩ := pick_any [V.int 64, V.int 4096, V.int 1048576, V.int 2147483648] r0 r1
  obtain ⟨bs, hbs, rfl⟩ : ∃ b : Int, (b = 64 ∨ b = 4096 ∨ b = 1048576 ∨ b = 2147483648) ∧ v = .int b := by
    simp only [List.mem_cons, List.not_mem_nil, or_false] at hv
    rcases hv with rfl | rfl | rfl | rfl <;> exact ⟨_, by decide, rfl⟩
  refine w_ixL (b2 _ _ (hd.ne ng) hg) hat ?_
  walk_at "ws"
  refine w_disp fun p np => ?_
  walk_at "ws"
  refine w_kLst (by show 0 ≤ sizeLine; decide) fun c H3 nc s3 hc3 => ?_
  walk_at "ws"
  refine w_kLst (by show 0 ≤ sizeLine; decide) fun a H4 na s4 ha4 => ?_
  walk_at "ws"
  refine w_kLst (by show 0 ≤ sizeLine; decide) fun cl H5 ncl s5 hcl5 => ?_
  walk_at "ws"
  refine w_kLst (by show 0 ≤ sizeLine; decide) fun tb H6 ntb s6 htb6 => ?_
  walk_at "ws"
  have hp6 : H6 p = some (.dK []) := s6 _ _ (s5 _ _ (s4 _ _ (s3 _ _ upd_same)))
  refine ⟨hp6, [(kS "draw", .ref d), (kS "code", .ref c), (kS "at", .ref a), (kS "calls", .ref cl), (kS "table", .ref tb), (kS "left", .int left)], rfl, by show 6 ≤ 15; decide, ?_⟩
  walk_at "ws"
  obtain ⟨⟨xs, hdx⟩, _⟩ := hd2.hdl
  obtain ⟨ys, hcx⟩ : ∃ ys, H2 cc = some (.lst ys) := by obtain ⟨cs, i, cur, seed, _, h, _⟩ := hd2; exact ⟨_, h⟩
  have sx : Same H2 (upd H2 p (.dK [])) := Same.new np
  have s26 : Same H2 H6 := sx.trans (s3.trans (s4.trans (s5.trans s6)))
  have cp : c ≠ p := (ne_of_none upd_same nc).symm
  have ap : a ≠ p := (ne_of_none (s3 _ _ upd_same) na).symm
  have clp : cl ≠ p := (ne_of_none (s4 _ _ (s3 _ _ upd_same)) ncl).symm
  have tbp : tb ≠ p := (ne_of_none (s5 _ _ (s4 _ _ (s3 _ _ upd_same))) ntb).symm
  have d3 := s3 _ _ (sx _ _ hdx)
  have c3' := s3 _ _ (sx _ _ hcx)
  have k7 : ∀ {o' : HO} b o, b ≠ p → H6 b = some o → upd H6 p o' b = some o := fun b o n e => by rw [upd_ne n]; exact e
  have up : ∀ {x : Addr}, H2 x = none → x ≠ d → H x = none := fun {x} n nd => by
    cases e : H x with
    | none => rfl
    | some o => have := b2 _ _ nd (s1 _ _ e); rw [n] at this; cases this
  have F : Fr3 H p c a := ⟨up np (ne_of_none hdx np).symm, up (fresh sx nc) (ne_of_none (sx _ _ hdx) nc).symm, up (fresh (sx.trans s3) na) (ne_of_none d3 na).symm⟩
  have I0 : Im H d cc p c a (6 * left) (6 * left) (6 * left) ⟨d, cc, c, a, cl, tb, [], [], [], [], left⟩ (upd H6 p (.dK (pD (.ref d) (.ref c) (.ref a) (.ref cl) (.ref tb) (.int left)))) := by
    refine ⟨?_, fun b o n e => k7 b o (ne_of_none e F.np) (s26 _ _ (b2 _ _ n (s1 _ _ e))), rfl, rfl, rfl, rfl, by show ((0 : Nat) : Int) + 6 * left ≤ _; omega, by show ((0 : Nat) : Int) + 6 * left ≤ _; omega, by show ((0 : Nat) : Int) + 6 * left ≤ _; omega, by show 0 ≤ 2; decide⟩
    exact { hp := upd_same, hd := hd2.keep (fun o e => k7 _ _ (ne_of_none hdx np) (s26 _ _ e)) (fun o e => k7 _ _ (ne_of_none hcx np) (s26 _ _ e)), hc := k7 _ _ cp (s6 _ _ (s5 _ _ (s4 _ _ hc3))), ha := k7 _ _ ap (s6 _ _ (s5 _ _ ha4)), hcl := k7 _ _ clp (s6 _ _ hcl5), htb := k7 _ _ tbp htb6, dc := ne_of_none (sx _ _ hdx) nc, da := ne_of_none d3 na, ca := ne_of_none hc3 na, ec := ne_of_none (sx _ _ hcx) nc, ea := ne_of_none c3' na, ld := (ne_of_none (s4 _ _ d3) ncl).symm, lc := (ne_of_none (s4 _ _ hc3) ncl).symm, la := (ne_of_none ha4 ncl).symm, td := (ne_of_none (s5 _ _ (s4 _ _ d3)) ntb).symm, tc := (ne_of_none (s5 _ _ (s4 _ _ hc3)) ntb).symm, ta := (ne_of_none (s5 _ _ ha4) ntb).symm, rows := fun v h => (by cases h), cls := fun v h => (by cases h), tls := fun v h => (by cases h), ats := fun v h => (by cases h), lf := l0 }
  refine x_set (Rch.refl I0.pt) (by show 0 ≤ 99990; decide) ⟨by decide, by decide⟩ fun S8 H8 R8 => ?_
  have I8 := I0.rch F R8
  walk_at "ws"
  refine x_set (Rch.refl I8.pt) (by have := I8.c6; have := I8.pt.lf; omega) ⟨by decide, by decide⟩ fun S9 H9 R9 => ?_
  have I9 := I8.rch F R9
  walk_at "ws"
  refine w_kLst (by show 0 ≤ sizeLine; decide) fun fl H10 nfl s10 hfl => ?_
  walk_at "ws"
  have I10 := I9.sm s10
  have fp : fl ≠ p := (ne_of_none I9.pt.hp nfl).symm
  have fd : d ≠ fl := by obtain ⟨⟨xs, h⟩, _⟩ := I9.hd.hdl; exact ne_of_none h nfl
  have fcc : cc ≠ fl := by obtain ⟨cs, i, cur, seed, _, h, _⟩ := I9.hd; exact ne_of_none h nfl
  have fc : c ≠ fl := by have := I9.pt.hc; rw [I9.e3] at this; exact ne_of_none this nfl
  have fa : a ≠ fl := by have := I9.pt.ha; rw [I9.e4] at this; exact ne_of_none this nfl
  have fcl : S9.cl ≠ fl := ne_of_none I9.pt.hcl nfl
  have ftb : S9.tb ≠ fl := ne_of_none I9.pt.htb nfl
  have nf0 : H fl = none := by
    cases e : H fl with
    | none => rfl
    | some o => have := I9.bt _ _ fd.symm e; rw [nfl] at this; cases this
  have keepF : ∀ {S : PS} {Ha Hb : Hp} {o : HO}, FrP p S Ha Hb → S.d = d → S.c = c → S.a = a → Ha fl = some o → Hb fl = some o := fun f h1 h2 h3 e => f fl _ fp (by rw [h1]; exact fd.symm) (by rw [h2]; exact fc.symm) (by rw [h3]; exact fa.symm) e
  refine w_take I10.hd (by decide) (by decide) fun m H11 m0 m1 hd11 b11 => ?_
  have I11 := I10.take F b11 hd11
  walk_at "ws"
  refine w_forR m.toNat (fun i σ H' => ∃ (S' : PS) (fs : List Int) (u : Option V), Im H d cc p c a (6 * left + 4) (6 * left + i) (6 * left) S' H' ∧ S'.cl = S9.cl ∧ S'.tb = S9.tb ∧ H' fl = some (.lst (fs.map V.int)) ∧ fs.length = i ∧ (∀ x ∈ fs, 0 ≤ x ∧ x < S'.at_.length) ∧ σ = [some (.ref d), some (.int left), some (.int bs), some (.ref p), some (.ref fl), u, none, none, none, none, none, none]) rfl (by omega) ⟨S9, [], _, { I11 with c6 := by have := I11.c6; omega, a6 := by have := I11.a6; omega, t6 := by have := I11.t6; omega }, rfl, rfl, b11 _ _ fd.symm hfl, rfl, (fun _ h => by cases h), rfl⟩ (fun i σ H12 hi h => ?_) (fun σ H12 h => ?_)
  · obtain ⟨S', fs, u, I, ecl, etb, hfs, efs, hin, rfl⟩ := h
    walk_at "ws"
    have hT : Tot S' 1000 := I.tot (by omega) (by omega) (by omega)
    refine ⟨p, S', rfl, I.pt, by have := hT.a; have := I.pt.lf; omega, fun H13 hP f => ?_⟩
    have R : Rch p S' H12 0 1 0 { S' with at_ := S'.at_ ++ [-1] } H13 := (Rch.refl I.pt).lab 1 hP f (by rw [List.length_append]; rfl)
    have I2 := I.rch F R
    walk_at "ws"
    refine w_append (keepF f I.e1 I.e3 I.e4 hfs) (by rw [List.length_map]; exact Nat.lt_of_le_of_lt (show fs.length ≤ 100 by omega) (by decide)) fun H14 hf14 b14 => ?_
    have I3 := I2.but b14 (keepF f I.e1 I.e3 I.e4 hfs) nf0 fd fcc fc fa (by show S'.cl ≠ fl; rw [ecl]; exact fcl) (by show S'.tb ≠ fl; rw [etb]; exact ftb)
    walk_at "ws"
    refine ⟨_, fs ++ [(S'.at_.length : Int)], _, { I3 with c6 := by have := I3.c6; omega, a6 := by have := I3.a6; omega, t6 := by have := I3.t6; omega }, ecl, etb, by rw [hf14, List.map_append]; rfl, by rw [List.length_append, efs]; rfl, fun x hx => ?_, rfl⟩
    have e : ((S'.at_ ++ [-1]).length : Int) = S'.at_.length + 1 := by rw [List.length_append]; rfl
    show 0 ≤ x ∧ x < ((S'.at_ ++ [-1]).length : Int)
    rcases List.mem_append.mp hx with hx | hx
    · have := hin x hx; omega
    · rw [List.mem_singleton.mp hx]; omega
  · obtain ⟨S12, fs, u, I12, ecl, etb, hfs, efs, hin, rfl⟩ := h
    walk_at "ws"
    refine w_kDP I12.pt.hp (by show 6 < 1000; decide) rfl fun H13 hp13 b13 => ?_
    have I13 := I12.setcl F b13 hp13 hfs fd.symm fc.symm fa.symm (by omega) hin
    walk_at "ws"
    refine x_rows (Rch.refl I13.pt) (m := 1000) (I13.tot (by omega) (by omega) (by omega)) (by omega) (by omega) (by omega) (by decide) fun S14 H14 g14 R14 => ?_
    have I14 := I13.rch F R14
    have hf14 := keepF R14.fr I12.e1 I12.e3 I12.e4 (b13 _ _ fp hfs)
    walk_at "ws"
    refine w_take I14.hd (by decide) (by decide) fun r15 H15 r0' r1' hd15 b15 => ?_
    have I15 := I14.take F b15 hd15
    have hf15 := b15 _ _ fd.symm hf14
    walk_at "ws"
    refine w_kTup (by show 2 ≤ sizeLine; decide) fun t H16 nt s16 ht => ?_
    walk_at "ws"
    refine w_put (I15.sm s16).pt (by have := I15.c6; have := I15.pt.lf; omega) (rowIns (xs := [1 + r15]) 37 rfl (.s ⟨by omega, by omega⟩) ht) fun H17 hP17 f17 => ?_
    have R17 := (Rch.refl (I15.sm s16).pt).cod hP17 f17
    have I17 := (I15.sm s16).rch F R17
    have hf17 := keepF R17.fr I15.e1 I15.e3 I15.e4 (s16 _ _ hf15)
    have hin17 : ∀ x ∈ fs, 0 ≤ x ∧ x < S14.at_.length := fun x hx => by have := hin x hx; have g : S12.at_.length ≤ S14.at_.length := g14; omega
    walk_at "ws"
    refine w_forR fs.length (fun i σ H' => ∃ (S' : PS) (u : Option V), Im H d cc p c a (6 * left + 5 + 25 * i) (6 * left + 2 + 24 * i) (6 * left + 24 * i) S' H' ∧ 1 ≤ S'.code.length ∧ H' fl = some (.lst (fs.map V.int)) ∧ (∀ x ∈ fs, 0 ≤ x ∧ x < S'.at_.length) ∧ σ = [some (.ref d), some (.int left), some (.int bs), some (.ref p), some (.ref fl), u, none, none, none, none, none, none]) (by simp) (by omega) ⟨_, _, { I17 with c6 := by have := I17.c6; omega, a6 := by have := I17.a6; omega, t6 := by have := I17.t6; omega }, by show 1 ≤ (S14.code ++ [_]).length; rw [List.length_append]; simp, hf17, hin17, rfl⟩ (fun i σ H18 hi h => ?_) (fun σ H18 h => ?_)
    · obtain ⟨S', u, I, hge, hf, hin', rfl⟩ := h
      walk_at "ws"
      refine w_kLst (by show 0 ≤ sizeLine; decide) fun e H19 ne s19 he => ?_
      walk_at "ws"
      have I19 := I.sm s19
      refine w_kDP I19.pt.hp (by show 6 < 1000; decide) rfl fun H20 hp20 b20 => ?_
      have I20 := I19.setcl (ts := []) F b20 hp20 he (by obtain ⟨⟨xs, h⟩, _⟩ := I.hd.hdl; exact (ne_of_none h ne).symm) (by have := I.pt.hc; rw [I.e3] at this; exact (ne_of_none this ne).symm) (by have := I.pt.ha; rw [I.e4] at this; exact (ne_of_none this ne).symm) (by show 0 ≤ 2; decide) (fun _ h => by cases h)
      have hf20 := b20 _ _ fp (s19 _ _ hf)
      walk_at "ws"
      have hlb := hin' _ (List.getElem_mem hi)
      refine w_ixL hf20 (atI_nat (v := .int fs[i]) (by rw [List.getElem?_map, List.getElem?_eq_getElem hi]; rfl)) ?_
      walk_at "ws"
      refine x_here (m := 1000) (Rch.refl I20.pt) (I20.tot (by omega) (by omega) (by omega)) (by omega) hlb.1 hlb.2 fun S21 H21 g21 R21 => ?_
      have I21 := I20.rch F R21
      have hf21 := keepF R21.fr I20.e1 I20.e3 I20.e4 hf20
      walk_at "ws"
      refine ⟨4, left, rfl, ?_⟩
      walk_at "ws"
      refine w_kDP I21.pt.hp (by show 6 < 1000; decide) rfl fun H22 hp22 b22 => ?_
      have I22 := I21.setlf F b22 hp22 (by split <;> omega)
      have hm4 : (if left < 4 then left else 4) ≤ 4 ∧ 0 ≤ (if left < 4 then left else 4) := by split <;> omega
      have hf22 := b22 _ _ fp hf21
      walk_at "ws"
      refine x_rows (Rch.refl I22.pt) (m := 1000) (I22.tot (by omega) (by omega) (by omega)) (by omega) (by omega) (by omega) (by decide) fun S23 H23 g23 R23 => ?_
      have I23 := I22.rch F R23
      have hf23 := keepF R23.fr I22.e1 I22.e3 I22.e4 hf22
      walk_at "ws"
      refine w_kTup (by show 4 ≤ sizeLine; decide) fun t H24 nt s24 ht => ?_
      walk_at "ws"
      refine x_put (m := 1000) (Rch.refl (I23.sm s24).pt) (I23.tot (by omega) (by omega) (by omega)) (by omega) (rowIns (xs := [0, 15, 0]) 34 rfl (.dsi ⟨by decide, by decide⟩ ⟨by decide, by decide⟩) ht) fun S25 H25 g25 _ _ R25 => ?_
      have I25 := (I23.sm s24).rch F R25
      walk_at "ws"
      refine ⟨S25, _, { I25 with c6 := by have := I25.c6; omega, a6 := by have := I25.a6; omega, t6 := by have := I25.t6; omega }, Nat.le_trans hge (Nat.le_trans R21.cg (Nat.le_trans R23.cg R25.cg)), keepF R25.fr I23.e1 I23.e3 I23.e4 (s24 _ _ hf23), fun x hx => ?_, rfl⟩
      have := hin' x hx
      have h1 : S'.at_.length ≤ S21.at_.length := g21
      have h2 : S21.at_.length ≤ S23.at_.length := g23
      omega
    · obtain ⟨S18, u, I18, hge18, hf18, hin18, rfl⟩ := h
      have hfl2 : fs.length ≤ 2 := by omega
      have c18 := I18.c6
      have a18 := I18.a6
      have t18 := I18.t6
      have l18 := I18.pt.lf
      walk_at "ws"
      refine ⟨p, S18, rfl, I18.pt, by omega, fun ws l H19 ews hws nl s19 hl19 => ?_⟩
      have I19 := I18.sm s19
      walk_at "ws"
      refine w_kDG I19.pt.hp rfl ?_
      refine w_lcL (S18.tbl.map V.int) (fun D i H' => H19 D = none ∧ Same H19 H' ∧ ∃ vs : List Int, vs.length = i ∧ (∀ x ∈ vs, W32 x) ∧ H' D = some (.lst (vs.map V.int))) (.of I19.pt.htb) (fun D nD => ⟨nD, Same.new nD, [], rfl, (fun _ h => by cases h), upd_same⟩) (fun D i H' _ h => .of (h.2.1 _ _ I19.pt.htb)) (fun D i x H20 hx h => ?_) (fun D H20 nD h => ?_)
      · obtain ⟨nD, s20, vs, evs, hvs, hD⟩ := h
        obtain ⟨lb, hlb, ilb, rfl⟩ := map_get' hx
        have hbd := I18.pt.tls lb hlb
        have hi : i < S18.tbl.length := (List.getElem?_eq_some_iff.mp ilb).1
        walk_at "ws"
        refine ⟨rfl, ?_⟩
        walk_at "ws"
        refine w_kDG (s20 _ _ I19.pt.hp) rfl ?_
        walk_at "ws"
        obtain ⟨m, rfl⟩ := Int.eq_ofNat_of_zero_le hbd.1
        have hm : m < S18.at_.length := by omega
        have hav := I18.pt.ats _ (List.getElem_mem hm)
        refine w_ixL (s20 _ _ I19.pt.ha) (atI_nat (v := .int S18.at_[m]) (by rw [List.getElem?_map, List.getElem?_eq_getElem hm]; rfl)) ?_
        walk_at "ws"
        refine ⟨vs.map V.int, hD, by rw [List.length_map, evs]; exact Nat.lt_of_le_of_lt (show i ≤ 100000 by omega) (by decide), nD, fun y o hy => ?_, vs ++ [bs + 4 * S18.at_[m]], by rw [List.length_append, evs]; rfl, fun x hx => ?_, by rw [List.map_append]; exact upd_same⟩
        · rw [upd_ne (ne_of_none hy nD)]; exact s20 _ _ hy
        · rcases List.mem_append.mp hx with hx | hx
          · exact hvs x hx
          · rw [List.mem_singleton.mp hx]; rcases hbs with rfl | rfl | rfl | rfl <;> exact ⟨by omega, by omega⟩
      · obtain ⟨nD, s20, vs, evs, hvs, hD⟩ := h
        have I20 := I19.sm s20
        obtain ⟨⟨zs, hd18⟩, _⟩ := I18.hd.hdl
        have dD : D ≠ d := (ne_of_none (s19 _ _ hd18) nD).symm
        have dl : l ≠ d := (ne_of_none hd18 nl).symm
        walk_at "ws"
        refine w_take I20.hd (by decide) (by decide) fun r21 H21 r0' r1' hd21 b21 => ?_
        walk_at "ws"
        refine w_kLst (by show 3 ≤ sizeLine; decide) fun l22 H22 nl22 s22 hl22 => ?_
        have evs' : vs.length = S18.tbl.length := by rw [evs, List.length_map]
        refine w_cat' (xs := vs) (zs := [bs, 7, r21]) (s22 _ _ (b21 _ _ dD hD)) hl22 (by rw [evs']; show S18.tbl.length + 3 ≤ 100000; omega) fun tl H23 ntl s23 htl => ?_
        walk_at "ws"
        have hd23 := (hd21.same s22).same s23
        have hw23 : H23 l = some (.lst (ws.map V.int)) := s23 _ _ (s22 _ _ (b21 _ _ dl (s20 _ _ hl19)))
        have bt23 : But d H H23 := fun b o n e => s23 _ _ (s22 _ _ (b21 _ _ n (I20.bt b o n e)))
        obtain ⟨⟨zs3, hd23'⟩, _⟩ := hd23.hdl
        have hcc23 : ∃ ys, H23 cc = some (.lst ys) := by obtain ⟨cs, i, cur, seed, _, h, _⟩ := hd23; exact ⟨_, h⟩
        obtain ⟨ys3, hcc23⟩ := hcc23
        obtain ⟨⟨q1, q2⟩, _⟩ := hd21.hdl
        have tld : tl ≠ d := (ne_of_none (s22 _ _ q2) ntl).symm
        refine w_lcR 24 (fun D i H' => H23 D = none ∧ But d H23 H' ∧ DrawC H' d cc ∧ ∃ vs : List Int, vs.length = i ∧ (∀ x ∈ vs, B8 x) ∧ H' D = some (.lst (vs.map V.int))) rfl (by decide) (fun D nD => ⟨nD, fun b o n e => Same.new nD b o e, hd23.same (Same.new nD), [], rfl, (fun _ h => by cases h), upd_same⟩) (fun D i H24 hi h => ?_) (fun D2 H24 nD2 h => ?_)
        · obtain ⟨nD2, b24, hd24, us, eus, hus, hD2⟩ := h
          walk_at "ws"
          refine ⟨rfl, ?_⟩
          walk_at "ws"
          have nd : D ≠ d := (ne_of_none hd23' nD2).symm
          refine w_take hd24 (by decide) (by decide) fun y H25 y0 y1 hd25 b25 => ?_
          refine ⟨us.map V.int, b25 _ _ nd hD2, by rw [List.length_map, eus]; exact Nat.lt_of_le_of_lt (show i ≤ 100000 by omega) (by decide), nD2, fun b o n e => ?_, hd25.keep (fun o e => ?_) (fun o e => ?_), us ++ [y], by rw [List.length_append, eus]; rfl, fun x hx => ?_, by rw [List.map_append]; exact upd_same⟩
          · rw [upd_ne (ne_of_none e nD2)]; exact b25 _ _ n (b24 _ _ n e)
          · rw [upd_ne nd.symm]; exact e
          · rw [upd_ne (ne_of_none hcc23 nD2)]; exact e
          · rcases List.mem_append.mp hx with hx | hx
            · exact hus x hx
            · rw [List.mem_singleton.mp hx]; exact ⟨y0, y1⟩
        · obtain ⟨_, b24, hd24, us, eus, hus, hD2⟩ := h
          have hw24 := b24 _ _ dl hw23
          have ht24 := b24 _ _ tld htl
          have bt24 : But d H H24 := fun b o n e => b24 _ _ n (bt23 b o n e)
          walk_at "ws"
          refine ⟨l, ws, rfl, hw24, by rw [ews]; omega, hws, fun x1 v1 H25 e1 hx1 nv1 s25 hv1 => ?_⟩
          walk_at "ws"
          refine w_kTup (by show 4 ≤ sizeLine; decide) fun g1 H26 ng1 s26 hg1 => ?_
          walk_at "ws"
          refine w_tupL (.of (s26 _ _ (s25 _ _ hD2))) fun v2 H27 nv2 s27 hv2 => ?_
          walk_at "ws"
          refine w_kTup (by show 4 ≤ sizeLine; decide) fun g2 H28 ng2 s28 hg2 => ?_
          walk_at "ws"
          refine ⟨tl, vs ++ [bs, 7, r21], rfl, s28 _ _ (s27 _ _ (s26 _ _ (s25 _ _ ht24))), by rw [List.length_append, evs']; show S18.tbl.length + 3 ≤ 20000; omega, fun x hx => ?_, fun x3 v3 H29 e3 hx3 nv3 s29 hv3 => ?_⟩
          · rcases List.mem_append.mp hx with hx | hx
            · exact hvs x hx
            · simp only [List.mem_cons, List.not_mem_nil, or_false] at hx
              rcases hx with rfl | rfl | rfl
              · rcases hbs with rfl | rfl | rfl | rfl <;> exact ⟨by omega, by omega⟩
              · exact ⟨by decide, by decide⟩
              · exact ⟨r0', r1'⟩
          walk_at "ws"
          refine w_kTup (by show 4 ≤ sizeLine; decide) fun g3 H30 ng3 s30 hg3 => ?_
          walk_at "ws"
          refine w_kTup (by show 3 ≤ sizeLine; decide) fun sg H31 nsg s31 hsg => ?_
          walk_at "ws"
          refine w_kTup (by show 2 ≤ sizeLine; decide) fun y1 H32 ny1 s32 hy1 => ?_
          walk_at "ws"
          refine w_kTup (by show 2 ≤ sizeLine; decide) fun y2 H33 ny2 s33 hy2 => ?_
          walk_at "ws"
          refine w_kTup (by show 2 ≤ sizeLine; decide) fun y3 H34 ny3 s34 hy3 => ?_
          walk_at "ws"
          refine w_kTup (by show 3 ≤ sizeLine; decide) fun sy H35 nsy s35 hsy => ?_
          walk_at "ws"
          refine w_kTup (by show 3 ≤ sizeLine; decide) fun t H36 nt s36 ht => ?_
          have z35 := s35.trans s36
          have z34 := s34.trans z35
          have z33 := s33.trans z34
          have z32 := s32.trans z33
          have z31 := s31.trans z32
          have z30 := s30.trans z31
          have z29 := s29.trans z30
          have z28 := s28.trans z29
          have z27 := s27.trans z28
          have z26 := s26.trans z27
          have z25 := s25.trans z26
          refine q t bs x1 us x3 H36 ⟨sg, sy, g1, g2, g3, v1, v2, v3, y1, y2, y3, ht, z32 _ _ hsg, z27 _ _ hg1, z26 _ _ hv1, z29 _ _ hg2, z28 _ _ hv2, z31 _ _ hg3, z30 _ _ hv3, s36 _ _ hsy, z33 _ _ hy1, z34 _ _ hy2, z35 _ _ hy3⟩ ⟨hbs, ⟨ws.length, e1, by rw [ews]; exact hge18, by rw [ews]; omega⟩, eus, ⟨(vs ++ [bs, 7, r21]).length, e3, by rw [List.length_append]; show 3 ≤ vs.length + 3; omega, ?_⟩, hx1, hus, hx3⟩ (hd24.same z25) (fun b o n e => z25 _ _ (bt24 b o n e))
          rw [List.length_append, evs']; show ((S18.tbl.length + 3 : Nat) : Int) ≤ _; omega
end
end K03

namespace K03
local macro_rules | `(tactic| walk_at "w1") => `(tactic| first
  | (with_reducible refine w_iEnT ?_))
theorem sc_find_segment : FnScope ["image", "address", "count", "index", "segment", "first"] ["image", "address", "count"] (defScope s_find_segment) := ⟨rfl, rfl, rfl, by decide +kernel, rfl, by decide +kernel, by decide +kernel⟩
/-- a segment laid down -/
structure Sg where
  a : Addr
  v : Addr
  lo : Int
  bs : List Int
  wr : Bool
  ex : Bool
structure SegAt (H : Hp) (g : Sg) : Prop where
  ha : H g.a = some (.tup [.int g.lo, .ref g.v, .bl g.wr, .bl g.ex])
  hv : H g.v = some (.tup (g.bs.map V.int))
structure ImAt (H : Hp) (im sg : Addr) (gs : List Sg) : Prop where
  hi : ∃ b sy, H im = some (.tup [.ref sg, b, sy])
  hs : H sg = some (.tup (gs.map fun g => V.ref g.a))
  hg : ∀ g ∈ gs, SegAt H g
theorem SegAt.same {H H' : Hp} {g : Sg} (h : SegAt H g) (s : Same H H') : SegAt H' g := ⟨s _ _ h.ha, s _ _ h.hv⟩
theorem ImAt.same {H H' : Hp} {im sg : Addr} {gs : List Sg} (h : ImAt H im sg gs) (s : Same H H') : ImAt H' im sg gs := ⟨by obtain ⟨b, sy, e⟩ := h.hi; exact ⟨b, sy, s _ _ e⟩, s _ _ h.hs, fun g hg => (h.hg g hg).same s⟩
def Fit (g : Sg) (ad c : Int) : Prop := g.lo ≤ ad ∧ ad + c ≤ g.lo + g.bs.length
/-- the first segment that holds them -/
def FindR (gs : List Sg) (ad c r : Int) : Prop := (r = -1 ∧ ∀ g ∈ gs, ¬ Fit g ad c) ∨ ∃ (n : Nat) (g : Sg), r = n ∧ gs[n]? = some g ∧ Fit g ad c ∧ ∀ m g', m < n → gs[m]? = some g' → ¬ Fit g' ad c
def spFind : Sp := fun vs H Q _ => ∃ (im sg : Addr) (gs : List Sg) (ad c : Int), vs = [.ref im, .int ad, .int c] ∧ ImAt H im sg gs ∧ ∀ r H', FindR gs ad c r → Same H H' → Q (.int r) H'
section
variable {P : Program} {w : World} {K : PySem.W.Frag} {mg : Str → Option Value} {base : Heap}
theorem ok_find_segment (b_len : mg "len" = none) (b_enumerate : mg "enumerate" = none) (Z : St1 K mg "find_segment" s_find_segment ["image", "address", "count"]) : Cd P w K mg base 1 "find_segment" spFind := by
  refine Z.cd sc_find_segment (fun vs H Q E h => by obtain ⟨im, sg, gs, ad, c, rfl, _⟩ := h; rfl) (fun f cdv A outer s H vs Q E hr h => ?_)
  obtain ⟨im, sg, gs, ad, c, rfl, hI, q⟩ := h
  refine ⟨_, (pss_cons (ps_for PassesOwn.never rfl (pi_enumT (by rfl) b_enumerate (pa_cons (pe_ix ix_tup (pv 0) pe_int (fun _ _ => rfl)) pa_nil)) (pg_tup rfl (pgs_cons (pg_name (i := 3) sc_find_segment.nd rfl (.inl rfl)) (pgs_cons (pg_name (i := 4) sc_find_segment.nd rfl (.inl rfl)) pgs_nil)))
      (pss_cons (ps_set (i := 5) sc_find_segment.nd rfl (.inl rfl) (pe_ix ix_tup (pv 4) pe_int (fun _ _ => rfl)))
      (pss_one (ps_if (PW.pt (pw_and (pt_cmpR op_le (pv 5) (pv 1) (nomark _)) (pw_and1 (pt_cmpR op_le (pe_op op_add (pv 1) (pv 2)) (pe_op op_add (pv 5) (pe_callB call_lenQ (by rfl) b_len PySem.boot_len (pa_cons (pe_ix ix_tup (pv 4) pe_int (fun _ _ => rfl)) pa_nil))) (nomark _))))) (pss_one (ps_ret (pv 3))) pss_nil))))
      (pss_one (ps_ret (pe_un un_neg pe_int)))), ?_⟩
  walk_at "ws"
  obtain ⟨b, sy, hi⟩ := hI.hi
  refine w_ixT hi (atI_of (v := .ref sg) (by decide) rfl) ?_
  walk_at "ws"
  refine w_forE (gs.map fun g => V.ref g.a) (fun i σ H' => Same H H' ∧ (∀ m g', m < i → gs[m]? = some g' → ¬ Fit g' ad c) ∧ ∃ x y z : Option V, σ = [some (.ref im), some (.int ad), some (.int c), x, y, z]) (.inl (.inl hI.hs)) ⟨fun _ _ e => e, fun m g' h => absurd h (Nat.not_lt_zero _), _, _, _, rfl⟩ (fun i σ H' h => .inl (.inl (h.1 _ _ hI.hs))) (fun i x σ H1 t H2 hx h nt s2 ht => ?_) (fun σ H1 h => ?_)
  · obtain ⟨s1, no, x1, y1, z1, rfl⟩ := h
    rw [List.getElem?_map] at hx
    obtain ⟨g, eg, rfl⟩ := Option.map_eq_some_iff.mp hx
    have G := (hI.hg g (List.mem_of_getElem? eg)).same (s1.trans s2)
    have ga := G.ha
    have gv := G.hv
    walk_at "ws"
    have nofit : ¬ Fit g ad c → ∀ m g', m < i + 1 → gs[m]? = some g' → ¬ Fit g' ad c := fun hn m g' hm e => by
      rcases Nat.lt_succ_iff_lt_or_eq.mp hm with z | z
      · exact no m g' z e
      · subst z; rw [eg] at e; cases e; exact hn
    refine w_dec (fun e1 => ?_) (fun e1 => ?_)
    · walk_at "ws"
      refine w_lenT gv ?_
      walk_at "ws"
      refine w_dec (fun e2 => ?_) (fun e2 => ?_)
      · walk_at "ws"
        exact q _ _ (.inr ⟨i, g, rfl, eg, ⟨e1, by rw [List.length_map] at e2; exact e2⟩, no⟩) (s1.trans s2)
      · walk_at "ws"
        exact ⟨s1.trans s2, nofit fun h => e2 (by rw [List.length_map]; exact h.2), _, _, _, rfl⟩
    · walk_at "ws"
      exact ⟨s1.trans s2, nofit fun h => e1 h.1, _, _, _, rfl⟩
  · obtain ⟨s1, no, x1, y1, z1, rfl⟩ := h
    walk_at "ws"
    refine q _ _ (.inl ⟨rfl, fun g hg => ?_⟩) s1
    obtain ⟨n, hn, e⟩ := List.getElem_of_mem hg
    exact no n g (by rw [List.length_map]; exact hn) (by rw [List.getElem?_eq_getElem hn, e])
end
end K03

namespace K03
theorem sc_can_load : FnScope ["image", "address", "count"] ["image", "address", "count"] (defScope s_can_load) := ⟨rfl, rfl, rfl, by decide +kernel, rfl, by decide +kernel, by decide +kernel⟩
theorem sc_can_store : FnScope ["image", "address", "count"] ["image", "address", "count"] (defScope s_can_store) := ⟨rfl, rfl, rfl, by decide +kernel, rfl, by decide +kernel, by decide +kernel⟩
theorem sc_can_fetch : FnScope ["image", "address"] ["image", "address"] (defScope s_can_fetch) := ⟨rfl, rfl, rfl, by decide +kernel, rfl, by decide +kernel, by decide +kernel⟩
/-- whether they may be read -/
def CanR (gs : List Sg) (ad c : Int) (b : Bool) : Prop := (c = 4 ∧ ad % 4 ≠ 0 ∧ b = false) ∨ (¬ (c = 4 ∧ ad % 4 ≠ 0) ∧ ∃ r, FindR gs ad c r ∧ b = !decide (r = -1))
def spCanL : Sp := fun vs H Q _ => ∃ (im sg : Addr) (gs : List Sg) (ad c : Int), vs = [.ref im, .int ad, .int c] ∧ ImAt H im sg gs ∧ 0 ≤ ad ∧ ∀ b H', CanR gs ad c b → Same H H' → Q (.bl b) H'
theorem and3 {x : Int} (h : 0 ≤ x) : Builtin.bitAnd x 3 = x % 4 := by
  obtain ⟨n, rfl⟩ := Int.eq_ofNat_of_zero_le h
  show ((n &&& 3 : Nat) : Int) = _
  rw [show n &&& 3 = n % 4 from Nat.and_two_pow_sub_one_eq_mod n 2]
  rfl
section
variable {P : Program} {w : World} {K : PySem.W.Frag} {mg : Str → Option Value} {base : Heap}
theorem ok_can_load (c_find_segment : Cd P w K mg base 1 "find_segment" spFind) (Z : St1 K mg "can_load" s_can_load ["image", "address", "count"]) : Cd P w K mg base 2 "can_load" spCanL := by
  refine Z.cd sc_can_load (fun vs H Q E h => by obtain ⟨im, sg, gs, ad, c, rfl, _⟩ := h; rfl) (fun f cdv A outer s H vs Q E hr h => ?_)
  obtain ⟨im, sg, gs, ad, c, rfl, hI, h0, q⟩ := h
  refine ⟨_, (pss_cons (ps_if (PW.pt (pw_and (pt_cmpR op_eq (pv 2) pe_int (nomark _)) (pw_and1 (pt_cmpR op_ne (pe_op op_and (pv 1) pe_int) pe_int (nomark _))))) (pss_one (ps_ret pe_bl)) pss_nil)
      (pss_one (ps_ret (pe_cmpR op_ne (pe_cd c_find_segment hr (by first | decide | omega) (by rfl) (pa_cons (pv 0) (pa_cons (pv 1) (pa_cons (pv 2) pa_nil)))) (pe_un un_neg pe_int) (nomark _))))), ?_⟩
  walk_at "ws"
  refine w_dec (fun e1 => ?_) (fun e1 => ?_)
  · walk_at "ws"
    refine w_ndec (fun e2 => ?_) (fun e2 => ?_)
    · walk_at "ws"
      exact q _ H (.inl ⟨e1, by rw [and3 h0] at e2; exact e2, rfl⟩) (fun _ _ e => e)
    · walk_at "ws"
      refine ⟨im, sg, gs, ad, c, rfl, hI, fun r H1 hr s1 => ?_⟩
      walk_at "ws"
      exact q _ H1 (.inr ⟨fun z => z.2 (by rw [and3 h0] at e2; exact e2), r, hr, rfl⟩) s1
  · walk_at "ws"
    refine ⟨im, sg, gs, ad, c, rfl, hI, fun r H1 hr s1 => ?_⟩
    walk_at "ws"
    exact q _ H1 (.inr ⟨fun z => e1 z.1, r, hr, rfl⟩) s1
/-- whether they may be, and the segment's own word on it -/
def RightR (fl : Sg → Bool) (gs : List Sg) (ad c : Int) (b : Bool) : Prop := (CanR gs ad c false ∧ b = false) ∨ (CanR gs ad c true ∧ ∃ (n : Nat) (g : Sg), FindR gs ad c n ∧ gs[n]? = some g ∧ b = fl g)
theorem FindR.uniq {gs : List Sg} {ad c r r' : Int} (h : FindR gs ad c r) (h' : FindR gs ad c r') : r = r' := by
  rcases h with ⟨rfl, n⟩ | ⟨m, g, rfl, e, f, n⟩ <;> rcases h' with ⟨rfl, n'⟩ | ⟨m', g', rfl, e', f', n'⟩
  · rfl
  · exact absurd f' (n _ (List.mem_of_getElem? e'))
  · exact absurd f (n' _ (List.mem_of_getElem? e))
  · rcases Nat.lt_trichotomy m m' with z | z | z
    · exact absurd f (n' m g z e)
    · rw [z]
    · exact absurd f' (n m' g' z e')
theorem CanR.found {gs : List Sg} {ad c : Int} (h : CanR gs ad c true) : ∃ (n : Nat) (g : Sg), FindR gs ad c n ∧ gs[n]? = some g ∧ Fit g ad c := by
  rcases h with ⟨_, _, z⟩ | ⟨_, r, hr, z⟩
  · cases z
  · rcases id hr with ⟨rfl, _⟩ | ⟨n, g, rfl, e, f, _⟩
    · simp at z
    · exact ⟨n, g, hr, e, f⟩
def spRight (fl : Sg → Bool) : Sp := fun vs H Q _ => ∃ (im sg : Addr) (gs : List Sg) (ad c : Int), vs = [.ref im, .int ad, .int c] ∧ ImAt H im sg gs ∧ 0 ≤ ad ∧ ∀ b H', RightR fl gs ad c b → Same H H' → Q (.bl b) H'
def spRight4 (fl : Sg → Bool) : Sp := fun vs H Q _ => ∃ (im sg : Addr) (gs : List Sg) (ad : Int), vs = [.ref im, .int ad] ∧ ImAt H im sg gs ∧ 0 ≤ ad ∧ ∀ b H', RightR fl gs ad 4 b → Same H H' → Q (.bl b) H'
theorem ok_can_store (c_find_segment : Cd P w K mg base 1 "find_segment" spFind) (c_can_load : Cd P w K mg base 2 "can_load" spCanL) (Z : St1 K mg "can_store" s_can_store ["image", "address", "count"]) : Cd P w K mg base 3 "can_store" (spRight Sg.wr) := by
  refine Z.cd sc_can_store (fun vs H Q E h => by obtain ⟨im, sg, gs, ad, c, rfl, _⟩ := h; rfl) (fun f cdv A outer s H vs Q E hr h => ?_)
  obtain ⟨im, sg, gs, ad, c, rfl, hI, h0, q⟩ := h
  refine ⟨_, (pss_cons (ps_if (pt_not (pt_val (pe_cd c_can_load hr (by first | decide | omega) (by rfl) (pa_cons (pv 0) (pa_cons (pv 1) (pa_cons (pv 2) pa_nil)))))) (pss_one (ps_ret pe_bl)) pss_nil)
      (pss_one (ps_ret (pe_ix ix_tup (pe_ix ix_tup (pe_ix ix_tup (pv 0) pe_int (fun _ _ => rfl)) (pe_cd c_find_segment hr (by first | decide | omega) (by rfl) (pa_cons (pv 0) (pa_cons (pv 1) (pa_cons (pv 2) pa_nil)))) (fun _ _ => rfl)) pe_int (fun _ _ => rfl))))), ?_⟩
  walk_at "ws"
  refine ⟨im, sg, gs, ad, c, rfl, hI, h0, fun b H1 hb s1 => ?_⟩
  walk_at "ws"
  cases b with
  | false => exact w_nF (w_ret (w_c (q _ H1 (.inl ⟨hb, rfl⟩) s1)))
  | true =>
    walk_at "ws"
    have hI1 := hI.same s1
    obtain ⟨b, sy, hi⟩ := hI1.hi
    refine w_ixT hi (atI_of (v := .ref sg) (by decide) rfl) ?_
    walk_at "ws"
    refine ⟨im, sg, gs, ad, c, rfl, hI1, fun r H2 hr s2 => ?_⟩
    obtain ⟨n, g, hn, eg, _⟩ := hb.found
    have er := hr.uniq hn
    subst er
    refine w_ixT (s2 _ _ hI1.hs) (atI_nat (v := .ref g.a) (by rw [List.getElem?_map, eg]; rfl)) ?_
    walk_at "ws"
    have ga := ((hI1.same s2).hg g (List.mem_of_getElem? eg)).ha
    refine w_ixT ga (atI_of (v := .bl g.wr) (by decide) rfl) ?_
    exact q _ H2 (.inr ⟨hb, n, g, hn, eg, rfl⟩) (s1.trans s2)
theorem ok_can_fetch (c_find_segment : Cd P w K mg base 1 "find_segment" spFind) (c_can_load : Cd P w K mg base 2 "can_load" spCanL) (Z : St1 K mg "can_fetch" s_can_fetch ["image", "address"]) : Cd P w K mg base 3 "can_fetch" (spRight4 Sg.ex) := by
  refine Z.cd sc_can_fetch (fun vs H Q E h => by obtain ⟨im, sg, gs, ad, rfl, _⟩ := h; rfl) (fun f cdv A outer s H vs Q E hr h => ?_)
  obtain ⟨im, sg, gs, ad, rfl, hI, h0, q⟩ := h
  refine ⟨_, (pss_cons (ps_if (pt_not (pt_val (pe_cd c_can_load hr (by first | decide | omega) (by rfl) (pa_cons (pv 0) (pa_cons (pv 1) (pa_cons pe_int pa_nil)))))) (pss_one (ps_ret pe_bl)) pss_nil)
      (pss_one (ps_ret (pe_ix ix_tup (pe_ix ix_tup (pe_ix ix_tup (pv 0) pe_int (fun _ _ => rfl)) (pe_cd c_find_segment hr (by first | decide | omega) (by rfl) (pa_cons (pv 0) (pa_cons (pv 1) (pa_cons pe_int pa_nil)))) (fun _ _ => rfl)) pe_int (fun _ _ => rfl))))), ?_⟩
  walk_at "ws"
  refine ⟨im, sg, gs, ad, 4, rfl, hI, h0, fun b H1 hb s1 => ?_⟩
  walk_at "ws"
  cases b with
  | false => exact w_nF (w_ret (w_c (q _ H1 (.inl ⟨hb, rfl⟩) s1)))
  | true =>
    walk_at "ws"
    have hI1 := hI.same s1
    obtain ⟨b, sy, hi⟩ := hI1.hi
    refine w_ixT hi (atI_of (v := .ref sg) (by decide) rfl) ?_
    walk_at "ws"
    refine ⟨im, sg, gs, ad, 4, rfl, hI1, fun r H2 hr s2 => ?_⟩
    obtain ⟨n, g, hn, eg, _⟩ := hb.found
    have er := hr.uniq hn
    subst er
    refine w_ixT (s2 _ _ hI1.hs) (atI_nat (v := .ref g.a) (by rw [List.getElem?_map, eg]; rfl)) ?_
    walk_at "ws"
    have ga := ((hI1.same s2).hg g (List.mem_of_getElem? eg)).ha
    refine w_ixT ga (atI_of (v := .bl g.ex) (by decide) rfl) ?_
    exact q _ H2 (.inr ⟨hb, n, g, hn, eg, rfl⟩) (s1.trans s2)
end
end K03

namespace K03
theorem sc_load_word : FnScope ["image", "memory", "address", "count", "index", "offset", "values", "value", "k"] ["image", "memory", "address", "count"] (defScope s_load_word) := ⟨rfl, rfl, rfl, by decide +kernel, rfl, by decide +kernel, by decide +kernel⟩
theorem sc_put_bytes : FnScope ["values", "offset", "count", "value", "k"] ["values", "offset", "count", "value"] (defScope s_put_bytes) := ⟨rfl, rfl, rfl, by decide +kernel, rfl, by decide +kernel, by decide +kernel⟩
/-- a row of memory laid down -/
def MemAt (H : Hp) (mem : Addr) (rows : List (Addr × List Int)) : Prop := H mem = some (.tup (rows.map fun r => V.ref r.1)) ∧ ∀ r ∈ rows, H r.1 = some (.tup (r.2.map V.int))
theorem MemAt.same {H H' : Hp} {mem : Addr} {rows : List (Addr × List Int)} (h : MemAt H mem rows) (s : Same H H') : MemAt H' mem rows := ⟨s _ _ h.1, fun r hr => s _ _ (h.2 r hr)⟩
/-- the first k bytes from off on, the least first -/
def leS (bs : List Int) (off : Nat) : Nat → Int
  | 0 => 0
  | k + 1 => leS bs off k + bs.getD (off + k) 0 * 2 ^ (8 * k)
def spLoad : Sp := fun vs H Q _ => ∃ (im sg mem : Addr) (gs : List Sg) (rows : List (Addr × List Int)) (ad : Int) (c : Nat) (n : Nat) (g : Sg) (r : Addr × List Int), vs = [.ref im, .ref mem, .int ad, .int (c : Nat)] ∧ ImAt H im sg gs ∧ MemAt H mem rows ∧ FindR gs ad c n ∧ gs[n]? = some g ∧ rows[n]? = some r ∧ r.2.length = g.bs.length ∧ (∀ x ∈ r.2, B8 x) ∧ c ≤ 4 ∧ ∀ H', Same H H' → Q (.int (leS r.2 (ad - g.lo).toNat c)) H'
section
variable {P : Program} {w : World} {K : PySem.W.Frag} {mg : Str → Option Value} {base : Heap}
theorem ok_load_word (b_range : mg "range" = none) (c_find_segment : Cd P w K mg base 1 "find_segment" spFind) (Z : St1 K mg "load_word" s_load_word ["image", "memory", "address", "count"]) : Cd P w K mg base 2 "load_word" spLoad := by
  refine Z.cd sc_load_word (fun vs H Q E h => by obtain ⟨im, sg, mem, gs, rows, ad, c, n, g, r, rfl, _⟩ := h; rfl) (fun f cdv A outer s H vs Q E hr h => ?_)
  obtain ⟨im, sg, mem, gs, rows, ad, c, n, g, r, rfl, hI, hM, hf, eg, er, el, hb, hc, q⟩ := h
  have hfit : Fit g ad c := by
    rcases hf with ⟨z, _⟩ | ⟨m, g', z, e, f, _⟩
    · omega
    · have : n = m := by omega
      subst this; rw [eg] at e; cases e; exact f
  refine ⟨_, (pss_cons (ps_set (i := 4) sc_load_word.nd rfl (.inl rfl) (pe_cd c_find_segment hr (by first | decide | omega) (by rfl) (pa_cons (pv 0) (pa_cons (pv 2) (pa_cons (pv 3) pa_nil)))))
      (pss_cons (ps_set (i := 5) sc_load_word.nd rfl (.inl rfl) (pe_op op_sub (pv 2) (pe_ix ix_tup (pe_ix ix_tup (pe_ix ix_tup (pv 0) pe_int (fun _ _ => rfl)) (pv 4) (fun _ _ => rfl)) pe_int (fun _ _ => rfl))))
      (pss_cons (ps_set (i := 6) sc_load_word.nd rfl (.inl rfl) (pe_ix ix_tup (pv 1) (pv 4) (fun _ _ => rfl)))
      (pss_cons (ps_set (i := 7) sc_load_word.nd rfl (.inl rfl) pe_int)
      (pss_cons (ps_for PassesOwn.never rfl (pi_range1 (by rfl) b_range (pa_cons (pv 3) pa_nil)) (pg_name (i := 8) sc_load_word.nd rfl (.inl rfl))
      (pss_one (ps_aug (i := 7) sc_load_word.nd rfl (.inl rfl) (pe_op op_shl (pe_ix ix_tup (pv 6) (pe_op op_add (pv 5) (pv 8)) (fun _ _ => rfl)) (pe_op op_mul pe_int (pv 8))) ip_add)))
      (pss_one (ps_ret (pv 7)))))))), ?_⟩
  walk_at "ws"
  refine ⟨im, sg, gs, ad, c, rfl, hI, fun r' H1 hr' s1 => ?_⟩
  have := hr'.uniq hf
  subst this
  have hI1 := hI.same s1
  obtain ⟨b, sy, hi⟩ := hI1.hi
  walk_at "ws"
  refine w_ixT hI1.hs (atI_nat (v := .ref g.a) (by rw [List.getElem?_map, eg]; rfl)) ?_
  walk_at "ws"
  have ga := (hI1.hg g (List.mem_of_getElem? eg)).ha
  refine w_ixT ga (atI_of (v := .int g.lo) (by decide) rfl) ?_
  walk_at "ws"
  refine w_ixT (s1 _ _ hM.1) (atI_nat (v := .ref r.1) (by rw [List.getElem?_map, er]; rfl)) ?_
  walk_at "ws"
  have hr1 := s1 _ _ (hM.2 r (List.mem_of_getElem? er))
  refine w_forR c (fun i σ H' => H' = H1 ∧ ∃ u, σ = [some (.ref im), some (.ref mem), some (.int ad), some (.int (c : Nat)), some (.int (n : Nat)), some (.int (ad - g.lo)), some (.ref r.1), some (.int (leS r.2 (ad - g.lo).toNat i)), u]) (by simp) (by omega) ⟨rfl, _, rfl⟩ (fun i σ H2 hi h => ?_) (fun σ H2 h => ?_)
  · obtain ⟨rfl, u, rfl⟩ := h
    walk_at "ws"
    have hk : (ad - g.lo).toNat + i < r.2.length := by unfold Fit at hfit; omega
    have ei : ad - g.lo + (i : Int) = (((ad - g.lo).toNat + i : Nat) : Int) := by unfold Fit at hfit; omega
    rw [ei]
    refine w_ixT hr1 (atI_nat (v := .int (r.2[(ad - g.lo).toNat + i])) (by rw [List.getElem?_map, List.getElem?_eq_getElem hk]; rfl)) ?_
    walk_at "ws"
    have hv := hb _ (List.getElem_mem hk)
    unfold B8 at hv
    refine w_I (by unfold CPow; omega) ?_
    walk_at "ws"
    have ev : leS r.2 (ad - g.lo).toNat i + r.2[(ad - g.lo).toNat + i] * 2 ^ (8 * (i : Int)).toNat = leS r.2 (ad - g.lo).toNat (i + 1) := by
      show _ = leS r.2 (ad - g.lo).toNat i + r.2.getD ((ad - g.lo).toNat + i) 0 * 2 ^ (8 * i)
      rw [show (8 * (i : Int)).toNat = 8 * i by omega, List.getD_eq_getElem?_getD, List.getElem?_eq_getElem hk]
      rfl
    rw [ev]
    exact ⟨rfl, _, rfl⟩
  · obtain ⟨rfl, u, rfl⟩ := h
    walk_at "ws"
    exact q _ s1
/-- k bytes of a value put from off on -/
def putS (bs : List Int) (off : Nat) (v : Int) : Nat → List Int
  | 0 => bs
  | k + 1 => (putS bs off v k).set (off + k) (v / 2 ^ (8 * k) % 256)
theorem putS_len (bs : List Int) (off : Nat) (v : Int) : ∀ k, (putS bs off v k).length = bs.length
  | 0 => rfl
  | k + 1 => by rw [putS, List.length_set, putS_len bs off v k]
def spPutB : Sp := fun vs H Q _ => ∃ (vl : Addr) (bs : List Int) (off c : Nat) (v : Int), vs = [.ref vl, .int (off : Nat), .int (c : Nat), .int v] ∧ H vl = some (.lst (bs.map V.int)) ∧ off + c ≤ bs.length ∧ c ≤ 4 ∧ 0 ≤ v ∧ v < 4294967296 ∧ ∀ H', H' vl = some (.lst ((putS bs off v c).map V.int)) → But vl H H' → Q .non H'
theorem ok_put_bytes (b_range : mg "range" = none) (Z : St1 K mg "put_bytes" s_put_bytes ["values", "offset", "count", "value"]) : Cd P w K mg base 1 "put_bytes" spPutB := by
  refine Z.cd sc_put_bytes (fun vs H Q E h => by obtain ⟨vl, bs, off, c, v, rfl, _⟩ := h; rfl) (fun f cdv A outer s H vs Q E hr h => ?_)
  obtain ⟨vl, bs, off, c, v, rfl, hv, ho, hc, v0, v1, q⟩ := h
  refine ⟨_, (pss_one (ps_for PassesOwn.never rfl (pi_range1 (by rfl) b_range (pa_cons (pv 2) pa_nil)) (pg_name (i := 4) sc_put_bytes.nd rfl (.inl rfl))
      (pss_one (ps_asg (pe_op op_and (pe_op op_shr (pv 3) (pe_op op_mul pe_int (pv 4))) pe_int) (pg_sub (pv 0) (pe_op op_add (pv 1) (pv 4)) set_list))))), ?_⟩
  walk_at "ws"
  refine w_forR c (fun i σ H' => H' vl = some (.lst ((putS bs off v i).map V.int)) ∧ But vl H H' ∧ ∃ u, σ = [some (.ref vl), some (.int (off : Nat)), some (.int (c : Nat)), some (.int v), u]) (by simp) (by omega) ⟨hv, fun _ _ _ e => e, _, rfl⟩ (fun i σ H2 hi h => ?_) (fun σ H2 h => ?_)
  · obtain ⟨hp, b2, u, rfl⟩ := h
    walk_at "ws"
    have hk : off + i < ((putS bs off v i).map V.int).length := by rw [List.length_map, putS_len]; omega
    have ev : Builtin.bitAnd (v / 2 ^ (8 * (i : Int)).toNat) 255 = v / 2 ^ (8 * i) % 256 := by
      rw [show (8 * (i : Int)).toNat = 8 * i by omega]
      exact PySem.W.kbt_mask _ 8
    rw [ev, show (off : Int) + (i : Int) = ((off + i : Nat) : Int) by omega]
    refine w_setL (j := off + i) hp (ixN_lit hk) fun H3 hp3 b3 => ?_
    walk_at "ws"
    exact ⟨by rw [hp3, putS, List.map_set], fun b o n e => b3 b o n (b2 b o n e), _, rfl⟩
  · obtain ⟨hp, b2, u, rfl⟩ := h
    exact q _ hp b2
end
end K03

namespace K03
theorem sc_store_word : FnScope ["image", "memory", "address", "count", "value", "index", "values"] ["image", "memory", "address", "count", "value"] (defScope s_store_word) := ⟨rfl, rfl, rfl, by decide +kernel, rfl, by decide +kernel, by decide +kernel⟩
theorem cut_take (xs : List V) (n : Nat) (h : n ≤ xs.length) : cutV xs none (some (n : Nat)) = xs.take n := by
  unfold cutV
  rw [HT.sIx_none, HT.sIx_nat, Nat.min_eq_left h]
  simp
theorem cut_drop (xs : List V) (n : Nat) (h : n ≤ xs.length) : cutV xs (some (n : Nat)) none = xs.drop n := by
  unfold cutV
  rw [HT.sIx_none, HT.sIx_nat, Nat.min_eq_left h]
  rw [List.take_of_length_le (by simp)]
def spStore (K : PySem.W.Frag) : Sp := fun vs H Q _ => ∃ (im sg mem : Addr) (gs : List Sg) (rows : List (Addr × List Int)) (ad : Int) (c : Nat) (v : Int) (n : Nat) (g : Sg) (r : Addr × List Int), vs = [.ref im, .ref mem, .int ad, .int (c : Nat), .int v] ∧ ImAt H im sg gs ∧ MemAt H mem rows ∧ FindR gs ad c n ∧ gs[n]? = some g ∧ rows[n]? = some r ∧ r.2.length = g.bs.length ∧ c ≤ 4 ∧ 0 ≤ v ∧ v < 4294967296 ∧ rows.length ≤ 1000 ∧
  ∀ t u H', Same H H' → H' u = some (.tup ((putS r.2 (ad - g.lo).toNat v c).map V.int)) → SqT K H' t ((rows.map fun r => V.ref r.1).set n (.ref u)) → Q (.ref t) H'
section
variable {P : Program} {w : World} {K : PySem.W.Frag} {mg : Str → Option Value} {base : Heap}
theorem ok_store_word (b_list : mg "list" = none) (b_tuple : mg "tuple" = none) (c_find_segment : Cd P w K mg base 1 "find_segment" spFind) (c_put_bytes : Cd P w K mg base 1 "put_bytes" spPutB) (Z : St1 K mg "store_word" s_store_word ["image", "memory", "address", "count", "value"]) : Cd P w K mg base 2 "store_word" (spStore K) := by
  refine Z.cd sc_store_word (fun vs H Q E h => by obtain ⟨im, sg, mem, gs, rows, ad, c, v, n, g, r, rfl, _⟩ := h; rfl) (fun f cdv A outer s H vs Q E hr h => ?_)
  obtain ⟨im, sg, mem, gs, rows, ad, c, v, n, g, r, rfl, hI, hM, hf, eg, er, el, hc, v0, v1, hl, q⟩ := h
  have hfit : Fit g ad c := by
    rcases hf with ⟨z, _⟩ | ⟨m, g', z, e, f, _⟩
    · omega
    · have : n = m := by omega
      subst this; rw [eg] at e; cases e; exact f
  refine ⟨_, (pss_cons (ps_set (i := 5) sc_store_word.nd rfl (.inl rfl) (pe_cd c_find_segment hr (by first | decide | omega) (by rfl) (pa_cons (pv 0) (pa_cons (pv 2) (pa_cons (pv 3) pa_nil)))))
      (pss_cons (ps_set (i := 6) sc_store_word.nd rfl (.inl rfl) (pe_callTy call_listQ (by rfl) b_list (by decide +kernel) (pa_cons (pe_ix ix_tup (pv 1) (pv 5) (fun _ _ => rfl)) pa_nil)))
      (pss_cons (ps_expr (pe_cd c_put_bytes hr (by first | decide | omega) (by rfl) (pa_cons (pv 6) (pa_cons (pe_op op_sub (pv 2) (pe_ix ix_tup (pe_ix ix_tup (pe_ix ix_tup (pv 0) pe_int (fun _ _ => rfl)) (pv 5) (fun _ _ => rfl)) pe_int (fun _ _ => rfl))) (pa_cons (pv 3) (pa_cons (pv 4) pa_nil))))))
      (pss_one (ps_ret (pe_op op_catA (pe_op op_catA (pe_slice sl_tupA (pv 1) po_none (po_some (pv 5))) (pe_tup (pa_cons (pe_callTy call_tupQ (by rfl) b_tuple (by decide +kernel) (pa_cons (pv 6) pa_nil)) pa_nil))) (pe_slice sl_tupA (pv 1) (po_some (pe_op op_add (pv 5) pe_int)) po_none))))))), ?_⟩
  walk_at "ws"
  refine ⟨im, sg, gs, ad, c, rfl, hI, fun r' H1 hr' s1 => ?_⟩
  have := hr'.uniq hf
  subst this
  have hI1 := hI.same s1
  obtain ⟨b, sy, hi⟩ := hI1.hi
  walk_at "ws"
  refine w_ixT (s1 _ _ hM.1) (atI_nat (v := .ref r.1) (by rw [List.getElem?_map, er]; rfl)) ?_
  walk_at "ws"
  have hr1 := s1 _ _ (hM.2 r (List.mem_of_getElem? er))
  refine w_listT (.inl (.inl hr1)) fun l H2 nl s2 hl2 => ?_
  have hI2 := hI1.same s2
  have hi2 := s2 _ _ hi
  walk_at "ws"
  refine w_ixT hI2.hs (atI_nat (v := .ref g.a) (by rw [List.getElem?_map, eg]; rfl)) ?_
  walk_at "ws"
  have ga := (hI2.hg g (List.mem_of_getElem? eg)).ha
  refine w_ixT ga (atI_of (v := .int g.lo) (by decide) rfl) ?_
  walk_at "ws"
  have eo : ad - g.lo = (((ad - g.lo).toNat : Nat) : Int) := by unfold Fit at hfit; omega
  refine ⟨l, r.2, (ad - g.lo).toNat, c, v, by rw [← eo], hl2, by unfold Fit at hfit; omega, hc, v0, v1, fun H3 hl3 b3 => ?_⟩
  have s13 : Same H1 H3 := fun a o e => b3 a o (ne_of_none e nl) (s2 _ _ e)
  have hn : n < rows.length := (List.getElem?_eq_some_iff.mp er).1
  have hM3 := s13 _ _ (s1 _ _ hM.1)
  have hz : (rows.map fun r => V.ref r.1).length = rows.length := List.length_map _
  walk_at "ws"
  have hn' : n < (rows.map fun r => V.ref r.1).length := by rw [hz]; exact hn
  refine w_slG (.inl (.inl hM3)) fun p1 H4 s4 hp1 => ?_
  rw [cut_take _ n (Nat.le_of_lt hn')] at hp1
  walk_at "ws"
  refine w_tupL (.of (s4 _ _ hl3)) fun u H5 nu s5 hu => ?_
  walk_at "ws"
  refine w_kTup (by show 1 ≤ sizeLine; decide) fun p2 H6 np2 s6 hp2 => ?_
  refine w_catG ((s5.trans s6).sqT hp1) (.inl (.inl hp2)) (Nat.le_trans (show _ + 1 ≤ 2000 by rw [List.length_take]; omega) (by decide)) fun p3 H7 s7 hp3 => ?_
  walk_at "ws"
  have s37 := s4.trans (s5.trans (s6.trans s7))
  refine w_slG (.inl (.inl (s37 _ _ hM3))) fun p4 H8 s8 hp4 => ?_
  rw [show (n : Int) + 1 = ((n + 1 : Nat) : Int) by omega, cut_drop _ (n + 1) hn'] at hp4
  walk_at "ws"
  refine w_catG (s8.sqT hp3) hp4 (Nat.le_trans (show _ ≤ 5000 by rw [List.length_append, List.length_take, List.length_drop]; simp only [List.length_cons, List.length_nil]; omega) (by decide)) fun p5 H9 s9 hp5 => ?_
  refine q p5 u H9 (s1.trans (s13.trans (s37.trans (s8.trans s9)))) ((s6.trans (s7.trans (s8.trans s9))) _ _ hu) ?_
  rw [List.set_eq_take_append_cons_drop, if_pos hn']
  rw [List.append_assoc] at hp5
  exact hp5
end
end K03

namespace K03
theorem sc_first_memory : FnScope ["image", "segment"] ["image"] (defScope s_first_memory) := ⟨rfl, rfl, rfl, by decide +kernel, rfl, by decide +kernel, by decide +kernel⟩
theorem sc_word_at : FnScope ["image", "address"] ["image", "address"] (defScope s_word_at) := ⟨rfl, rfl, rfl, by decide +kernel, rfl, by decide +kernel, by decide +kernel⟩
def spFirst : Sp := fun vs H Q _ => ∃ (im sg : Addr) (gs : List Sg), vs = [.ref im] ∧ ImAt H im sg gs ∧ gs.length ≤ 1000 ∧ ∀ t H', H t = none → Same H H' → MemAt H' t (gs.map fun g => (g.v, g.bs)) → Q (.ref t) H'
section
variable {P : Program} {w : World} {K : PySem.W.Frag} {mg : Str → Option Value} {base : Heap}
theorem ok_first_memory (b_tuple : mg "tuple" = none) (Z : St1 K mg "first_memory" s_first_memory ["image"]) : Cd P w K mg base 1 "first_memory" spFirst := by
  refine Z.cd sc_first_memory (fun vs H Q E h => by obtain ⟨im, sg, gs, rfl, _⟩ := h; rfl) (fun f cdv A outer s H vs Q E hr h => ?_)
  obtain ⟨im, sg, gs, rfl, hI, hl, q⟩ := h
  obtain ⟨b, sy, hi⟩ := hI.hi
  refine ⟨_, (pss_one (ps_ret (pe_callTy call_tupQ (by rfl) b_tuple (by decide +kernel) (pa_cons (pe_lc (own := [("segment", 1)]) rfl sc_first_memory.nd (pi_tup (pe_ix ix_tup (pv 0) pe_int (fun _ _ => rfl))) (blkOk_by (own := [("segment", 1)]) (N := ["image", "segment"]) (sc := (defScope s_first_memory)) (by decide +kernel)) (fun _ _ _ _ _ => (pg_name (i := 1) sc_first_memory.nd rfl (.inl rfl))) (fun _ _ _ _ _ => pts_nil) (fun _ _ _ _ _ => (pe_ix (ix_tupK (K' := K) (by rfl)) (pv 1) pe_int (fun _ _ => rfl)))) pa_nil)))), ?_⟩
  walk_at "ws"
  refine w_lcT (gs.map fun g => V.ref g.a) (fun D i H' => H D = none ∧ Same H H' ∧ H' D = some (.lst ((gs.take i).map fun g => V.ref g.v))) (.inl (.inl hI.hs)) (fun D nD => ⟨nD, Same.new nD, upd_same⟩) (fun D i H' _ h => .inl (.inl (h.2.1 _ _ hI.hs))) (fun D i x H1 hx h => ?_) (fun D H1 nD h => ?_)
  · obtain ⟨nD, s1, hD⟩ := h
    rw [List.getElem?_map] at hx
    obtain ⟨g, eg, rfl⟩ := Option.map_eq_some_iff.mp hx
    have ga := ((hI.hg g (List.mem_of_getElem? eg)).same s1).ha
    have hi := (List.getElem?_eq_some_iff.mp eg).1
    walk_at "ws"
    refine ⟨rfl, ?_⟩
    walk_at "ws"
    refine ⟨_, hD, by rw [List.length_map, List.length_take]; exact Nat.lt_of_le_of_lt (show _ ≤ 1000 by omega) (by decide), nD, fun y o hy => ?_, ?_⟩
    · rw [upd_ne (ne_of_none hy nD)]; exact s1 _ _ hy
    · rw [List.take_add_one, eg, List.map_append]; exact upd_same
  · obtain ⟨_, s1, hD⟩ := h
    refine w_tupL (.of hD) fun t H2 nt s2 ht => ?_
    rw [List.length_map, List.take_length] at ht
    refine q t H2 (fresh s1 nt) (s1.trans s2) ⟨by rw [ht, List.map_map]; rfl, fun r hr => ?_⟩
    obtain ⟨g, hg, rfl⟩ := List.mem_map.mp hr
    exact ((hI.hg g hg).same (s1.trans s2)).hv
def spWordAt : Sp := fun vs H Q _ => ∃ (im sg : Addr) (gs : List Sg) (ad : Int) (n : Nat) (g : Sg), vs = [.ref im, .int ad] ∧ ImAt H im sg gs ∧ gs.length ≤ 1000 ∧ FindR gs ad 4 n ∧ gs[n]? = some g ∧ (∀ x ∈ g.bs, B8 x) ∧ ∀ H', Same H H' → Q (.int (leS g.bs (ad - g.lo).toNat 4)) H'
theorem ok_word_at (c_first_memory : Cd P w K mg base 1 "first_memory" spFirst) (c_load_word : Cd P w K mg base 2 "load_word" spLoad) (Z : St1 K mg "word_at" s_word_at ["image", "address"]) : Cd P w K mg base 3 "word_at" spWordAt := by
  refine Z.cd sc_word_at (fun vs H Q E h => by obtain ⟨im, sg, gs, ad, n, g, rfl, _⟩ := h; rfl) (fun f cdv A outer s H vs Q E hr h => ?_)
  obtain ⟨im, sg, gs, ad, n, g, rfl, hI, hl, hf, eg, hb, q⟩ := h
  refine ⟨_, (pss_one (ps_ret (pe_cd c_load_word hr (by first | decide | omega) (by rfl) (pa_cons (pv 0) (pa_cons (pe_cd c_first_memory hr (by first | decide | omega) (by rfl) (pa_cons (pv 0) pa_nil)) (pa_cons (pv 1) (pa_cons pe_int pa_nil))))))), ?_⟩
  walk_at "ws"
  refine ⟨im, sg, gs, rfl, hI, hl, fun t H1 nt s1 hM => ?_⟩
  walk_at "ws"
  exact ⟨im, sg, t, gs, _, ad, 4, n, g, (g.v, g.bs), rfl, hI.same s1, hM, hf, eg, by rw [List.getElem?_map, eg]; rfl, rfl, hb, by decide, fun H2 s2 => q H2 (s1.trans s2)⟩
end
end K03

namespace K03
theorem sc_law_home : FnScope ["image", "address", "count", "k", "row", "inside", "j"] ["image", "address", "count"] (defScope s_law_home) := ⟨rfl, rfl, rfl, by decide +kernel, rfl, by decide +kernel, by decide +kernel⟩
theorem sc_law_address : FnScope ["draw", "image", "row", "k"] ["draw", "image"] (defScope s_law_address) := ⟨rfl, rfl, rfl, by decide +kernel, rfl, by decide +kernel, by decide +kernel⟩
theorem sc_law_access_right : FnScope ["image", "memory", "address", "count", "value", "k", "aligned", "at", "due", "j", "row", "rest", "rows"] ["image", "memory", "address", "count", "value"] (defScope s_law_access_right) := ⟨rfl, rfl, rfl, by decide +kernel, rfl, by decide +kernel, by decide +kernel⟩
theorem Fit.iff {g : Sg} {ad : Int} {c : Nat} (hc : 1 ≤ c) : Fit g ad c ↔ ∀ j : Nat, j < c → g.lo ≤ ad + j ∧ ad + j < g.lo + g.bs.length := by
  unfold Fit
  constructor
  · intro h j hj; omega
  · intro h
    have h0 := h 0 hc
    have h1 := h (c - 1) (by omega)
    omega
def spHome : Sp := fun vs H Q _ => ∃ (im sg : Addr) (gs : List Sg) (ad : Int) (c : Nat), vs = [.ref im, .int ad, .int (c : Nat)] ∧ ImAt H im sg gs ∧ 1 ≤ c ∧ c ≤ 4 ∧ gs.length ≤ 1000 ∧ ∀ r H', FindR gs ad c r → Same H H' → Q (.int r) H'
section
variable {P : Program} {w : World} {K : PySem.W.Frag} {mg : Str → Option Value} {base : Heap}
theorem ok_law_home (b_len : mg "len" = none) (b_range : mg "range" = none) (Z : St1 K mg "_law_home" s_law_home ["image", "address", "count"]) : Cd P w K mg base 1 "_law_home" spHome := by
  refine Z.cd sc_law_home (fun vs H Q E h => by obtain ⟨im, sg, gs, ad, c, rfl, _⟩ := h; rfl) (fun f cdv A outer s H vs Q E hr h => ?_)
  obtain ⟨im, sg, gs, ad, c, rfl, hI, c1, c4, hl, q⟩ := h
  refine ⟨_, (pss_cons (ps_for PassesOwn.never rfl (pi_range1 (by rfl) b_range (pa_cons (pe_callB call_lenQ (by rfl) b_len PySem.boot_len (pa_cons (pe_ix ix_tup (pv 0) pe_int (fun _ _ => rfl)) pa_nil)) pa_nil)) (pg_name (i := 3) sc_law_home.nd rfl (.inl rfl))
      (pss_cons (ps_set (i := 4) sc_law_home.nd rfl (.inl rfl) (pe_ix ix_tup (pe_ix ix_tup (pv 0) pe_int (fun _ _ => rfl)) (pv 3) (fun _ _ => rfl)))
      (pss_cons (ps_set (i := 5) sc_law_home.nd rfl (.inl rfl) pe_bl)
      (pss_cons (ps_for PassesOwn.never rfl (pi_range1 (by rfl) b_range (pa_cons (pv 2) pa_nil)) (pg_name (i := 6) sc_law_home.nd rfl (.inl rfl))
      (pss_one (ps_if (pt_not (pt_chain op_le op_lt (pe_ix ix_tup (pv 4) pe_int (fun _ _ => rfl)) (pe_op op_add (pv 1) (pv 6)) (pe_op op_add (pe_ix ix_tup (pv 4) pe_int (fun _ _ => rfl)) (pe_callB call_lenQ (by rfl) b_len PySem.boot_len (pa_cons (pe_ix ix_tup (pv 4) pe_int (fun _ _ => rfl)) pa_nil))))) (pss_one (ps_set (i := 5) sc_law_home.nd rfl (.inl rfl) pe_bl)) pss_nil)))
      (pss_one (ps_if (pt_val (pv 5)) (pss_one (ps_ret (pv 3))) pss_nil))))))
      (pss_one (ps_ret (pe_un un_neg pe_int)))), ?_⟩
  walk_at "ws"
  obtain ⟨b, sy, hi⟩ := hI.hi
  refine w_ixT hi (atI_of (v := .ref sg) (by decide) rfl) ?_
  walk_at "ws"
  refine w_lenT hI.hs ?_
  walk_at "ws"
  refine w_forR gs.length (fun i σ H' => H' = H ∧ (∀ m g', m < i → gs[m]? = some g' → ¬ Fit g' ad c) ∧ ∃ x1 x2 x3 x4 : Option V, σ = [some (.ref im), some (.int ad), some (.int (c : Nat)), x1, x2, x3, x4]) (by rw [List.length_map]; rfl) (by rw [List.length_map]; omega) ⟨rfl, fun m g' h => absurd h (Nat.not_lt_zero _), _, _, _, _, rfl⟩ (fun i σ H' hi' h => ?_) (fun σ H' h => ?_)
  · obtain ⟨rfl, no, x1, x2, x3, x4, rfl⟩ := h
    obtain ⟨g, eg⟩ : ∃ g, gs[i]? = some g := ⟨_, List.getElem?_eq_getElem hi'⟩
    have G := hI.hg g (List.mem_of_getElem? eg)
    walk_at "ws"
    refine w_ixT hI.hs (atI_nat (v := .ref g.a) (by rw [List.getElem?_map, eg]; rfl)) ?_
    walk_at "ws"
    refine w_forR c (fun j σ H2 => H2 = H' ∧ ∃ (b : Bool) (y : Option V), σ = [some (.ref im), some (.int ad), some (.int (c : Nat)), some (.int (i : Nat)), some (.ref g.a), some (.bl b), y] ∧ (b = true ↔ ∀ j' : Nat, j' < j → g.lo ≤ ad + j' ∧ ad + j' < g.lo + g.bs.length)) rfl (by omega) ⟨rfl, true, _, rfl, by simp⟩ (fun j σ H2 hj h => ?_) (fun σ H2 h => ?_)
    · obtain ⟨rfl, b, y, rfl, hb⟩ := h
      have no2 : ¬ (g.lo ≤ ad + j ∧ ad + j < g.lo + g.bs.length) → (false = true ↔ ∀ j' : Nat, j' < j + 1 → g.lo ≤ ad + j' ∧ ad + j' < g.lo + g.bs.length) := fun hn => ⟨fun z => (by cases z), fun h => absurd (h j (Nat.lt_succ_self j)) hn⟩
      walk_at "ws"
      refine w_ixT G.ha (atI_of (v := .int g.lo) (by decide) rfl) ?_
      walk_at "ws"
      refine w_dec (fun e1 => ?_) (fun e1 => ?_)
      · walk_at "ws"
        refine w_ixT G.ha (atI_of (v := .int g.lo) (by decide) rfl) ?_
        walk_at "ws"
        refine w_ixT G.ha (atI_of (v := .ref g.v) (by decide) rfl) ?_
        walk_at "ws"
        refine w_lenT G.hv ?_
        rw [List.length_map]
        walk_at "ws"
        refine w_ndec (fun e2 => ?_) (fun e2 => ?_)
        · walk_at "ws"
          exact ⟨rfl, _, _, rfl, no2 fun h => e2 h.2⟩
        · walk_at "ws"
          refine ⟨rfl, b, _, rfl, hb.trans ⟨fun h j' hj' => ?_, fun h j' hj' => h j' (by omega)⟩⟩
          rcases Nat.lt_succ_iff_lt_or_eq.mp hj' with z | rfl
          · exact h j' z
          · exact ⟨e1, e2⟩
      · walk_at "ws"
        exact ⟨rfl, _, _, rfl, no2 fun h => e1 h.1⟩
    · obtain ⟨rfl, b, y, rfl, hb⟩ := h
      walk_at "ws"
      rw [← Fit.iff c1] at hb
      cases b with
      | true =>
        walk_at "ws"
        exact q _ _ (.inr ⟨i, g, rfl, eg, hb.mp rfl, no⟩) (fun _ _ e => e)
      | false =>
        walk_at "ws"
        refine ⟨rfl, fun m g' hm e => ?_, _, _, _, _, rfl⟩
        rcases Nat.lt_succ_iff_lt_or_eq.mp hm with z | rfl
        · exact no m g' z e
        · rw [eg] at e; cases e; exact fun h => by cases hb.mpr h
  · obtain ⟨rfl, no, x1, x2, x3, x4, rfl⟩ := h
    walk_at "ws"
    refine q _ _ (.inl ⟨rfl, fun g hg => ?_⟩) (fun _ _ e => e)
    obtain ⟨n, hn, e⟩ := List.getElem_of_mem hg
    exact no n g hn (by rw [List.getElem?_eq_getElem hn, e])
theorem _root_.K03.ImAt.but {H H' : Hp} {im sg d : Addr} {gs : List Sg} {ys : List V} (h : ImAt H im sg gs) (b : But d H H') (hd : H d = some (.lst ys)) : ImAt H' im sg gs :=
  ⟨by obtain ⟨x, sy, e⟩ := h.hi; exact ⟨x, sy, b.tup hd e⟩, b.tup hd h.hs, fun g hg => ⟨b.tup hd (h.hg g hg).ha, b.tup hd (h.hg g hg).hv⟩⟩
def spAddr : Sp := fun vs H Q _ => ∃ (d cc im sg : Addr) (gs : List Sg), vs = [.ref d, .ref im] ∧ DrawC H d cc ∧ ImAt H im sg gs ∧ 1 ≤ gs.length ∧ gs.length ≤ 1000 ∧ (∀ g ∈ gs, 1 ≤ g.bs.length ∧ g.bs.length ≤ 1000000 ∧ 0 ≤ g.lo) ∧ ∀ ad H', 0 ≤ ad → DrawC H' d cc → But d H H' → Q (.int ad) H'
theorem ok_law_address (b_len : mg "len" = none) (b_max : mg "max" = none) (c_law_take : Cd P w K mg base 1 "_law_take" spTake) (Z : St1 K mg "_law_address" s_law_address ["draw", "image"]) : Cd P w K mg base 2 "_law_address" spAddr := by
  refine Z.cd sc_law_address (fun vs H Q E h => by obtain ⟨d, cc, im, sg, gs, rfl, _⟩ := h; rfl) (fun f cdv A outer s H vs Q E hr h => ?_)
  obtain ⟨d, cc, im, sg, gs, rfl, hd, hI, l1, l2, hgs, q⟩ := h
  refine ⟨_, (pss_cons (ps_set (i := 2) sc_law_address.nd rfl (.inl rfl) (pe_ix ix_tup (pe_ix ix_tup (pv 1) pe_int (fun _ _ => rfl)) (pe_cd c_law_take hr (by first | decide | omega) (by rfl) (pa_cons (pv 0) (pa_cons (pe_callB call_lenQ (by rfl) b_len PySem.boot_len (pa_cons (pe_ix ix_tup (pv 1) pe_int (fun _ _ => rfl)) pa_nil)) pa_nil))) (fun _ _ => rfl)))
      (pss_cons (ps_set (i := 3) sc_law_address.nd rfl (.inl rfl) (pe_cd c_law_take hr (by first | decide | omega) (by rfl) (pa_cons (pv 0) (pa_cons pe_int pa_nil))))
      (pss_cons (ps_if (pt_cmpR op_lt (pv 3) pe_int (nomark _)) (pss_one (ps_ret (pe_op op_add (pe_ix ix_tup (pv 2) pe_int (fun _ _ => rfl)) (pe_cd c_law_take hr (by first | decide | omega) (by rfl) (pa_cons (pv 0) (pa_cons (pe_callB call_lenQ (by rfl) b_len PySem.boot_len (pa_cons (pe_ix ix_tup (pv 2) pe_int (fun _ _ => rfl)) pa_nil)) pa_nil)))))) pss_nil)
      (pss_cons (ps_if (pt_cmpR op_lt (pv 3) pe_int (nomark _)) (pss_one (ps_ret (pe_callB (call_max2 rfl) (by rfl) b_max (by decide +kernel) (pa_cons pe_int (pa_cons (pe_op op_sub (pe_op op_add (pe_op op_add (pe_ix ix_tup (pv 2) pe_int (fun _ _ => rfl)) (pe_ix ix_list (pe_lst (pa_cons pe_int (pa_cons (pe_callB call_lenQ (by rfl) b_len PySem.boot_len (pa_cons (pe_ix ix_tup (pv 2) pe_int (fun _ _ => rfl)) pa_nil)) pa_nil))) (pe_cd c_law_take hr (by first | decide | omega) (by rfl) (pa_cons (pv 0) (pa_cons pe_int pa_nil))) (fun _ _ => rfl))) (pe_cd c_law_take hr (by first | decide | omega) (by rfl) (pa_cons (pv 0) (pa_cons pe_int pa_nil)))) pe_int) pa_nil))))) pss_nil)
      (pss_one (ps_ret (pe_cd c_law_take hr (by first | decide | omega) (by rfl) (pa_cons (pv 0) (pa_cons (pe_op op_pow pe_int pe_int) pa_nil))))))))), ?_⟩
  obtain ⟨⟨xs, hdl⟩, _⟩ := hd.hdl
  obtain ⟨b, sy, hi⟩ := hI.hi
  have hs := hI.hs
  walk_at "ws"
  refine w_lenT hs ?_
  walk_at "ws"
  rw [List.length_map]
  refine w_take hd (by omega) (by omega) fun k H1 k0 k1 hd1 b1 => ?_
  obtain ⟨m, rfl⟩ := Int.eq_ofNat_of_zero_le k0
  obtain ⟨g, eg⟩ : ∃ g, gs[m]? = some g := ⟨_, List.getElem?_eq_getElem (by omega)⟩
  have gm := List.mem_of_getElem? eg
  obtain ⟨z1, z2, z3⟩ := hgs g gm
  have I1 := hI.but b1 hdl
  refine w_ixT I1.hs (atI_nat (v := .ref g.a) (by rw [List.getElem?_map, eg]; rfl)) ?_
  walk_at "ws"
  obtain ⟨⟨xs1, hdl1⟩, _⟩ := hd1.hdl
  refine w_take hd1 (by omega) (by omega) fun k2 H2 k20 k21 hd2 b2 => ?_
  have I2 := I1.but b2 hdl1
  obtain ⟨⟨xs2, hdl2⟩, _⟩ := hd2.hdl
  have ga := (I2.hg g gm).ha
  have gv := (I2.hg g gm).hv
  walk_at "ws"
  refine w_dec (fun e1 => ?_) (fun e1 => ?_)
  · walk_at "ws"
    refine w_lenT gv ?_
    rw [List.length_map]
    walk_at "ws"
    refine w_take hd2 (by omega) (by omega) fun k3 H3 k30 k31 hd3 b3 => ?_
    walk_at "ws"
    exact q _ _ (by omega) hd3 (b1.trans (b2.trans b3))
  · walk_at "ws"
    refine w_dec (fun e2 => ?_) (fun e2 => ?_)
    · walk_at "ws"
      refine w_lenT gv ?_
      rw [List.length_map]
      walk_at "ws"
      refine w_kLst (by show 2 ≤ sizeLine; decide) fun l3 H3 nl3 s3 hl3 => ?_
      have hd3 := hd2.same s3
      have dl : l3 ≠ d := (ne_of_none hdl2 nl3).symm
      walk_at "ws"
      refine w_take hd3 (by decide) (by decide) fun k4 H4 k40 k41 hd4 b4 => ?_
      obtain ⟨v, hv, hat⟩ := pick_any [V.int 0, V.int (g.bs.length : Nat)] k40 k41
      have hvi : ∃ o : Int, v = .int o ∧ 0 ≤ o := by
        simp only [List.mem_cons, List.not_mem_nil, or_false] at hv
        rcases hv with rfl | rfl
        · exact ⟨0, rfl, by decide⟩
        · exact ⟨_, rfl, by omega⟩
      obtain ⟨o, rfl, o0⟩ := hvi
      refine w_ixL (b4 _ _ dl hl3) hat ?_
      walk_at "ws"
      refine w_take hd4 (by decide) (by decide) fun k5 H5 k50 k51 hd5 b5 => ?_
      walk_at "ws"
      refine ⟨_, _, rfl, ?_⟩
      refine q _ _ ?_ hd5 (b1.trans (b2.trans (fun x o n e => b5 x o n (b4 x o n (s3 x o e)))))
      split <;> omega
    · walk_at "ws"
      refine w_take hd2 (by decide) (by decide) fun k3 H3 k30 k31 hd3 b3 => ?_
      exact q _ _ k30 hd3 (b1.trans (b2.trans b3))
theorem FindR.at {gs : List Sg} {ad c k : Int} (h : FindR gs ad c k) (k0 : k ≥ 0) : ∃ (n : Nat) (g : Sg), k = n ∧ gs[n]? = some g ∧ Fit g ad c := by
  rcases h with ⟨z, _⟩ | ⟨n, g, z, e, f, _⟩
  · omega
  · exact ⟨n, g, z, e, f⟩
theorem CanR.iff {gs : List Sg} {ad c k : Int} {b : Bool} (h : CanR gs ad c b) (hk : FindR gs ad c k) (hc : c = 1 ∨ c = 4) : b = true ↔ (c = 1 ∨ ad % 4 = 0) ∧ 0 ≤ k := by
  rcases h with ⟨rfl, h2, rfl⟩ | ⟨h1, r, hr, rfl⟩
  · simp [h2]
  · have e := hr.uniq hk
    subst e
    have hr' : r = -1 ∨ 0 ≤ r := by rcases hr with ⟨z, _⟩ | ⟨n, _, z, _⟩ <;> omega
    simp only [Bool.not_eq_true', decide_eq_false_iff_not]
    constructor
    · intro z
      refine ⟨?_, by omega⟩
      rcases hc with rfl | rfl
      · exact .inl rfl
      · exact .inr (by
          by_cases q : ad % 4 = 0
          · exact q
          · exact absurd ⟨rfl, q⟩ h1)
    · intro z; omega
theorem RightR.iff {fl : Sg → Bool} {gs : List Sg} {ad c k : Int} {b : Bool} (h : RightR fl gs ad c b) (hk : FindR gs ad c k) (hc : c = 1 ∨ c = 4) : b = true ↔ ((c = 1 ∨ ad % 4 = 0) ∧ 0 ≤ k) ∧ ∃ (n : Nat) (g : Sg), k = n ∧ gs[n]? = some g ∧ fl g = true := by
  rcases h with ⟨h1, rfl⟩ | ⟨h1, n, g, hn, eg, rfl⟩
  · have z := h1.iff hk hc
    simp only [Bool.false_eq_true, false_iff] at z ⊢
    exact fun q => z q.1
  · have z := (h1.iff hk hc).mp rfl
    have e := hn.uniq hk
    subst e
    constructor
    · exact fun q => ⟨z, n, g, rfl, eg, q⟩
    · rintro ⟨_, m, g', e, eg', q⟩
      have : n = m := by omega
      subst this
      rw [eg] at eg'; cases eg'; exact q
structure AccOk (gs : List Sg) (rows : List (Addr × List Int)) : Prop where
  len : rows.length = gs.length
  l1000 : gs.length ≤ 1000
  each : ∀ (n : Nat) (g : Sg) (r : Addr × List Int), gs[n]? = some g → rows[n]? = some r → r.2.length = g.bs.length ∧ g.bs.length ≤ 100000
  b8 : ∀ r ∈ rows, ∀ x ∈ r.2, B8 x
def spAcc : Sp := fun vs H Q _ => ∃ (im sg mem : Addr) (gs : List Sg) (rows : List (Addr × List Int)) (ad : Int) (c : Nat) (v : Int), vs = [.ref im, .ref mem, .int ad, .int (c : Nat), .int v] ∧ ImAt H im sg gs ∧ MemAt H mem rows ∧ AccOk gs rows ∧ (c = 1 ∨ c = 4) ∧ 0 ≤ ad ∧ 0 ≤ v ∧ v < 4294967296 ∧ ∀ H', Same H H' → Q (.bl true) H'
theorem ok_law_access_right (b_len : mg "len" = none) (b_int : mg "int" = none) (b_range : mg "range" = none) (b_list : mg "list" = none) (b_tuple : mg "tuple" = none)
    (c_law_home : Cd P w K mg base 1 "_law_home" spHome) (c_find_segment : Cd P w K mg base 1 "find_segment" spFind) (c_can_load : Cd P w K mg base 2 "can_load" spCanL) (c_can_store : Cd P w K mg base 3 "can_store" (spRight Sg.wr)) (c_load_word : Cd P w K mg base 2 "load_word" spLoad) (c_store_word : Cd P w K mg base 2 "store_word" (spStore K))
    (Z : St1 K mg "_law_access_right" s_law_access_right ["image", "memory", "address", "count", "value"]) : Cd P w K mg base 4 "_law_access_right" spAcc := by
  refine Z.cd sc_law_access_right (fun vs H Q E h => by obtain ⟨im, sg, mem, gs, rows, ad, c, v, rfl, _⟩ := h; rfl) (fun f cdv A outer s H vs Q E hr h => ?_)
  obtain ⟨im, sg, mem, gs, rows, ad, c, v, rfl, hI, hM, hA, hc, a0, v0, v1, q⟩ := h
  refine ⟨_, (pss_cons (ps_set (i := 5) sc_law_access_right.nd rfl (.inr rfl) (pe_cd c_law_home hr (by first | decide | omega) (by rfl) (pa_cons (pv 0) (pa_cons (pv 2) (pa_cons (pv 3) pa_nil)))))
      (Evl.pss_cut (ps_set (i := 6) sc_law_access_right.nd rfl (.inl rfl) (pe_or (pe_cmpR op_eq (pv 3) pe_int (nomark _)) (pe_one (pe_cmpR op_eq (pe_op op_mod (pe_callTy call_intQ (by rfl) b_int (by decide +kernel) (pa_cons (pv 2) pa_nil)) pe_int) pe_int (nomark _)))))
      (Evl.pss_cut (ps_if (pt_cmpR op_ne (pe_cd c_find_segment hr (by first | decide | omega) (by rfl) (pa_cons (pv 0) (pa_cons (pv 2) (pa_cons (pv 3) pa_nil)))) (pv 5) (nomark _)) (pss_one (ps_ret pe_bl)) pss_nil)
      (Evl.pss_cut (ps_if (pt_cmpR op_ne (pe_cd c_can_load hr (by first | decide | omega) (by rfl) (pa_cons (pv 0) (pa_cons (pv 2) (pa_cons (pv 3) pa_nil)))) (pe_and (pv 6) (pe_one (pe_cmpR op_ge (pv 5) pe_int (nomark _)))) (nomark _)) (pss_one (ps_ret pe_bl)) pss_nil)
      (Evl.pss_cut (ps_if (pt_cmpR op_ne (pe_cd c_can_store hr (by first | decide | omega) (by rfl) (pa_cons (pv 0) (pa_cons (pv 2) (pa_cons (pv 3) pa_nil)))) (pe_and (pv 6) (pe_and (pe_cmpR op_ge (pv 5) pe_int (nomark _)) (pe_one (pe_ix ix_tup (pe_ix ix_tup (pe_ix ix_tup (pv 0) pe_int (fun _ _ => rfl)) (pv 5) (fun _ _ => rfl)) pe_int (fun _ _ => rfl))))) (nomark _)) (pss_one (ps_ret pe_bl)) pss_nil)
      (Evl.pss_cut (ps_if (PW.pt (pw_or (pt_not (pt_val (pv 6))) (pw_or1 (pt_cmpR op_lt (pv 5) pe_int (nomark _))))) (pss_one (ps_ret pe_bl)) pss_nil)
      (pss_cons (ps_set (i := 7) sc_law_access_right.nd rfl (.inl rfl) (pe_op op_sub (pv 2) (pe_ix ix_tup (pe_ix ix_tup (pe_ix ix_tup (pv 0) pe_int (fun _ _ => rfl)) (pv 5) (fun _ _ => rfl)) pe_int (fun _ _ => rfl))))
      (pss_cons (ps_set (i := 8) sc_law_access_right.nd rfl (.inl rfl) pe_int)
      (Evl.pss_cut (ps_for PassesOwn.never rfl (pi_range1 (by rfl) b_range (pa_cons (pv 3) pa_nil)) (pg_name (i := 9) sc_law_access_right.nd rfl (.inl rfl))
      (pss_one (ps_set (i := 8) sc_law_access_right.nd rfl (.inl rfl) (pe_op op_add (pv 8) (pe_op op_mul (pe_ix ix_tup (pe_ix ix_tup (pv 1) (pv 5) (fun _ _ => rfl)) (pe_op op_add (pv 7) (pv 9)) (fun _ _ => rfl)) (pe_op op_shl pe_int (pe_op op_mul pe_int (pv 9))))))))
      (Evl.pss_cut (ps_if (pt_cmpR op_ne (pe_cd c_load_word hr (by first | decide | omega) (by rfl) (pa_cons (pv 0) (pa_cons (pv 1) (pa_cons (pv 2) (pa_cons (pv 3) pa_nil))))) (pv 8) (nomark _)) (pss_one (ps_ret pe_bl)) pss_nil)
      (pss_cons (ps_if (pt_not (pt_val (pe_ix ix_tup (pe_ix ix_tup (pe_ix ix_tup (pv 0) pe_int (fun _ _ => rfl)) (pv 5) (fun _ _ => rfl)) pe_int (fun _ _ => rfl)))) (pss_one (ps_ret pe_bl)) pss_nil)
      (pss_cons (ps_set (i := 10) sc_law_access_right.nd rfl (.inr rfl) (pe_callTy call_listQ (by rfl) b_list (by decide +kernel) (pa_cons (pe_ix ix_tup (pv 1) (pv 5) (fun _ _ => rfl)) pa_nil)))
      (pss_cons (ps_set (i := 11) sc_law_access_right.nd rfl (.inl rfl) (pv 4))
      (Evl.pss_cut (ps_for PassesOwn.never rfl (pi_range1 (by rfl) b_range (pa_cons (pv 3) pa_nil)) (pg_name (i := 9) sc_law_access_right.nd rfl (.inl rfl))
      (pss_cons (ps_asg (pe_op op_mod (pe_callTy call_intQ (by rfl) b_int (by decide +kernel) (pa_cons (pv 11) pa_nil)) pe_int) (pg_sub (pv 10) (pe_op op_add (pv 7) (pv 9)) set_list))
      (pss_one (ps_set (i := 11) sc_law_access_right.nd rfl (.inl rfl) (pe_op op_fdiv (pv 11) pe_int)))))
      (pss_cons (ps_setLc (i := 12) (own := [("j", 9)]) rfl sc_law_access_right.nd rfl rfl (sw_true rfl rfl rfl (by decide +kernel)) (pi_range1 (by rfl) b_range (pa_cons (pe_callB call_lenQ (by rfl) b_len PySem.boot_len (pa_cons (pv 1) pa_nil)) pa_nil)) (blkOk_by (own := [("j", 9)]) (N := ["image", "memory", "address", "count", "value", "k", "aligned", "at", "due", "j", "row", "rest", "rows"]) (sc := (defScope s_law_access_right)) (by decide +kernel)) (fun _ _ _ _ _ => (pg_name (i := 9) sc_law_access_right.nd rfl (.inl rfl))) (fun _ _ _ _ _ => pts_nil) (fun _ _ _ _ _ => (pe_ifExp (pt_cmpR op_eq (pv 9) (pv 5) (nomark _)) (pe_callTy (call_tupQK (K' := K) (by rfl)) (by rfl) b_tuple (by decide +kernel) (pa_cons (pv 10) pa_nil)) (pe_ix (ix_tupK (K' := K) (by rfl)) (pv 1) (pv 9) (fun _ _ => rfl)))))
      (pss_one (ps_ret (pe_cmpR (op_eqD hr.units) (pe_cd c_store_word hr (by first | decide | omega) (by rfl) (pa_cons (pv 0) (pa_cons (pv 1) (pa_cons (pv 2) (pa_cons (pv 3) (pa_cons (pv 4) pa_nil)))))) (pe_callTy call_tupQ (by rfl) b_tuple (by decide +kernel) (pa_cons (pv 12) pa_nil)) (nomark _))))))))))))))))))), ?_⟩
  obtain ⟨b, sy, hi⟩ := hI.hi
  walk_at "ws"
  refine ⟨im, sg, gs, ad, c, rfl, hI, by omega, by omega, hA.l1000, fun k H1 hk s1 => ?_⟩
  walk_at "ws"
  have hc' : ((c : Nat) : Int) = 1 ∨ ((c : Nat) : Int) = 4 := by omega
  refine Evl.q_cut (M := fun σ' H' => H' = H1 ∧ ∃ al : Bool, (al = true ↔ ((c : Nat) : Int) = 1 ∨ ad % 4 = 0) ∧ σ' = [some (.ref im), some (.ref mem), some (.int ad), some (.int (c : Nat)), some (.int v), some (.int k), some (.bl al), none, none, none, none, none, none]) ?_ ?_
  · walk_at "ws"
    refine w_dec (fun e1 => ?_) (fun e1 => ?_)
    · walk_at "ws"
      exact ⟨rfl, true, by simp [e1], rfl⟩
    · walk_at "ws"
      exact ⟨rfl, _, by simp [e1], rfl⟩
  rintro σ2 H2 ⟨rfl, al, hal, rfl⟩
  have I2 := hI.same s1
  have M2 := hM.same s1
  refine Evl.q_cut (M := fun σ' H' => Same H2 H' ∧ σ' = [some (.ref im), some (.ref mem), some (.int ad), some (.int (c : Nat)), some (.int v), some (.int k), some (.bl al), none, none, none, none, none, none]) ?_ ?_
  · walk_at "ws"
    refine ⟨im, sg, gs, ad, c, rfl, I2, fun r H3 hr s3 => ?_⟩
    have e := hr.uniq hk
    subst e
    walk_at "wr"
    exact ⟨s3, rfl⟩
  rintro σ3 H3 ⟨s3, rfl⟩
  refine Evl.q_cut (M := fun σ' H' => Same H3 H' ∧ σ' = [some (.ref im), some (.ref mem), some (.int ad), some (.int (c : Nat)), some (.int v), some (.int k), some (.bl al), none, none, none, none, none, none]) ?_ ?_
  · walk_at "ws"
    refine ⟨im, sg, gs, ad, c, rfl, I2.same s3, a0, fun r H4 hr s4 => ?_⟩
    have e := hr.iff hk hc'
    rw [← hal] at e
    walk_at "ws"
    have e' : r = (al && decide (k ≥ 0)) := by rw [Bool.eq_iff_iff, e]; simp
    cases al with
    | true =>
      walk_at "ws"
      subst e'
      rw [Bool.true_and]
      walk_at "wr"
      exact ⟨s4, rfl⟩
    | false =>
      walk_at "ws"
      subst e'
      rw [Bool.false_and]
      walk_at "wr"
      exact ⟨s4, rfl⟩
  rintro σ4 H4 ⟨s4, rfl⟩
  refine Evl.q_cut (M := fun σ' H' => Same H4 H' ∧ σ' = [some (.ref im), some (.ref mem), some (.int ad), some (.int (c : Nat)), some (.int v), some (.int k), some (.bl al), none, none, none, none, none, none]) ?_ ?_
  · have I4 := (I2.same s3).same s4
    have hi4 := s4 _ _ (s3 _ _ (s1 _ _ hi))
    walk_at "ws"
    refine ⟨im, sg, gs, ad, c, rfl, I4, a0, fun r H5 hr s5 => ?_⟩
    have e := hr.iff hk hc'
    rw [← hal] at e
    have hi5 := s5 _ _ hi4
    have hs5 := s5 _ _ I4.hs
    walk_at "ws"
    cases al with
    | false =>
      have : r = false := by rw [Bool.eq_false_iff]; intro z; exact absurd (e.mp z).1.1 (by decide)
      subst this
      walk_at "ws"
      exact ⟨s5, rfl⟩
    | true =>
      walk_at "ws"
      refine w_dec (fun e2 => ?_) (fun e2 => ?_)
      · walk_at "ws"
        obtain ⟨n, g, rfl, eg, hf⟩ := hk.at e2
        refine w_ixT hs5 (atI_nat (v := .ref g.a) (by rw [List.getElem?_map, eg]; rfl)) ?_
        walk_at "ws"
        refine w_ixT ((I4.same s5).hg g (List.mem_of_getElem? eg)).ha (atI_of (v := .bl g.wr) (by decide) rfl) ?_
        have : r = g.wr := by
          rw [Bool.eq_iff_iff, e]
          constructor
          · rintro ⟨_, m, g', z, eg', w⟩
            have : n = m := by omega
            subst this
            rw [eg] at eg'; cases eg'; exact w
          · exact fun w => ⟨⟨rfl, by omega⟩, n, g, rfl, eg, w⟩
        subst this
        walk_at "wr"
        exact ⟨s5, rfl⟩
      · have : r = false := by rw [Bool.eq_false_iff]; intro z; have := (e.mp z).1.2; omega
        subst this
        walk_at "ws"
        exact ⟨s5, rfl⟩
  rintro σ5 H5 ⟨s5, rfl⟩
  have s05 : Same H H5 := s1.trans (s3.trans (s4.trans s5))
  refine Evl.q_cut (M := fun σ' H' => H' = H5 ∧ al = true ∧ 0 ≤ k ∧ σ' = [some (.ref im), some (.ref mem), some (.int ad), some (.int (c : Nat)), some (.int v), some (.int k), some (.bl al), none, none, none, none, none, none]) ?_ ?_
  · walk_at "ws"
    cases al with
    | false =>
      walk_at "ws"
      exact q _ s05
    | true =>
      walk_at "ws"
      refine w_dec (fun e2 => ?_) (fun e2 => ?_)
      · walk_at "ws"
        exact q _ s05
      · walk_at "ws"
        exact ⟨rfl, rfl, by omega, rfl⟩
  rintro σ6 H6 ⟨rfl, rfl, k0, rfl⟩
  obtain ⟨n, g, rfl, eg, hf⟩ := hk.at k0
  obtain ⟨r, er⟩ : ∃ r, rows[n]? = some r := ⟨_, List.getElem?_eq_getElem (by rw [hA.len]; exact (List.getElem?_eq_some_iff.mp eg).1)⟩
  obtain ⟨el, gl⟩ := hA.each n g r eg er
  have hb8 := hA.b8 r (List.mem_of_getElem? er)
  have I6 := hI.same s05
  have M6 := hM.same s05
  have hi6 := s05 _ _ hi
  have hs6 := I6.hs
  have ga := (I6.hg g (List.mem_of_getElem? eg)).ha
  have hm6 := M6.1
  have hr6 := M6.2 r (List.mem_of_getElem? er)
  have eo : ad - g.lo = (((ad - g.lo).toNat : Nat) : Int) := by unfold Fit at hf; omega
  obtain ⟨off, hoff⟩ : ∃ off, off = (ad - g.lo).toNat := ⟨_, rfl⟩
  rw [← hoff] at eo
  have hfo : off + c ≤ r.2.length := by unfold Fit at hf; omega
  walk_at "ws"
  refine w_ixT hs6 (atI_nat (v := .ref g.a) (by rw [List.getElem?_map, eg]; rfl)) ?_
  walk_at "ws"
  rw [eo]
  refine Evl.q_cut (M := fun σ' H' => H' = H6 ∧ ∃ u, σ' = [some (.ref im), some (.ref mem), some (.int ad), some (.int (c : Nat)), some (.int v), some (.int (n : Nat)), some (.bl true), some (.int (off : Nat)), some (.int (leS r.2 off c)), u, none, none, none]) ?_ ?_
  · walk_at "ws"
    refine w_forR c (fun i σ H' => H' = H6 ∧ ∃ u, σ = [some (.ref im), some (.ref mem), some (.int ad), some (.int (c : Nat)), some (.int v), some (.int (n : Nat)), some (.bl true), some (.int (off : Nat)), some (.int (leS r.2 off i)), u, none, none, none]) rfl (by omega) ⟨rfl, _, rfl⟩ (fun i σ H7 hi h => ?_) (fun σ H7 h => h)
    obtain ⟨rfl, u, rfl⟩ := h
    walk_at "ws"
    refine w_ixT hm6 (atI_nat (v := .ref r.1) (by rw [List.getElem?_map, er]; rfl)) ?_
    walk_at "ws"
    have hk : off + i < r.2.length := by omega
    rw [show (off : Int) + (i : Int) = ((off + i : Nat) : Int) by omega]
    refine w_ixT hr6 (atI_nat (v := .int (r.2[off + i])) (by rw [List.getElem?_map, List.getElem?_eq_getElem hk]; rfl)) ?_
    walk_at "ws"
    have hv := hb8 _ (List.getElem_mem hk)
    unfold B8 at hv
    refine w_I (.inl ⟨by omega, by omega⟩) ?_
    walk_at "ws"
    have ev : leS r.2 off i + r.2[off + i] * (1 * 2 ^ (8 * (i : Int)).toNat) = leS r.2 off (i + 1) := by
      show _ = leS r.2 off i + r.2.getD (off + i) 0 * 2 ^ (8 * i)
      rw [show (8 * (i : Int)).toNat = 8 * i by omega, List.getD_eq_getElem?_getD, List.getElem?_eq_getElem hk, Int.one_mul]
      rfl
    rw [ev]
    exact ⟨rfl, _, rfl⟩
  rintro σ7 H7 ⟨rfl, u, rfl⟩
  refine Evl.q_cut (M := fun σ' H' => Same H7 H' ∧ σ' = [some (.ref im), some (.ref mem), some (.int ad), some (.int (c : Nat)), some (.int v), some (.int (n : Nat)), some (.bl true), some (.int (off : Nat)), some (.int (leS r.2 off c)), u, none, none, none]) ?_ ?_
  · walk_at "ws"
    refine ⟨im, sg, mem, gs, rows, ad, c, n, g, r, rfl, I6, M6, hk, eg, er, el, hb8, by omega, fun H8 s8 => ?_⟩
    rw [← hoff]
    walk_at "wr"
    exact ⟨s8, rfl⟩
  rintro σ8 H8 ⟨s8, rfl⟩
  have I8 := I6.same s8
  have M8 := M6.same s8
  have hi8 := s8 _ _ hi6
  have hs8 := I8.hs
  have ga8 := s8 _ _ ga
  have hm8 := M8.1
  have hr8 := s8 _ _ hr6
  walk_at "ws"
  refine w_ixT hs8 (atI_nat (v := .ref g.a) (by rw [List.getElem?_map, eg]; rfl)) ?_
  walk_at "ws"
  cases hw : g.wr with
  | false =>
    walk_at "ws"
    exact q _ (s05.trans s8)
  | true =>
    walk_at "ws"
    refine w_ixT hm8 (atI_nat (v := .ref r.1) (by rw [List.getElem?_map, er]; rfl)) ?_
    walk_at "ws"
    refine w_listT (.inl (.inl hr8)) fun l H9 nl s9 hl9 => ?_
    walk_at "ws"
    refine Evl.q_cut (M := fun σ' H' => Same H8 H' ∧ H' l = some (.lst ((putS r.2 off v c).map V.int)) ∧ ∃ u x : Option V, σ' = [some (.ref im), some (.ref mem), some (.int ad), some (.int (c : Nat)), some (.int v), some (.int (n : Nat)), some (.bl true), some (.int (off : Nat)), some (.int (leS r.2 off c)), u, some (.ref l), x, none]) ?_ ?_
    · walk_at "ws"
      refine w_forR c (fun i σ H' => Same H8 H' ∧ H' l = some (.lst ((putS r.2 off v i).map V.int)) ∧ ∃ u : Option V, σ = [some (.ref im), some (.ref mem), some (.int ad), some (.int (c : Nat)), some (.int v), some (.int (n : Nat)), some (.bl true), some (.int (off : Nat)), some (.int (leS r.2 off c)), u, some (.ref l), some (.int (v / 2 ^ (8 * i))), none]) rfl (by omega) ⟨s9, hl9, u, by simp⟩ (fun i σ H' hi h => ?_) (fun σ H' h => ?_)
      · obtain ⟨s10, hl10, u, rfl⟩ := h
        walk_at "ws"
        rw [show (off : Int) + (i : Int) = ((off + i : Nat) : Int) by omega]
        refine w_setL (j := off + i) hl10 (ixN_lit (by rw [List.length_map, putS_len]; omega)) fun H11 hl11 b11 => ?_
        walk_at "ws"
        refine ⟨fun a o e => b11 a o (ne_of_none e nl) (s10 a o e), by rw [hl11, putS, List.map_set], some (.int (i : Nat)), ?_⟩
        have ed : v / 2 ^ (8 * i) / 256 = v / 2 ^ (8 * (i + 1)) := by
          rw [Int.ediv_ediv_of_nonneg (Int.pow_nonneg (by decide)), show 8 * (i + 1) = 8 * i + 8 from rfl, Int.pow_add]
          rfl
        rw [← ed]
        rfl
      · obtain ⟨s10, hl10, u, rfl⟩ := h
        exact ⟨s10, hl10, _, _, rfl⟩
    rintro σ10 H10 ⟨s10, hl10, u, x, rfl⟩
    have hm10 := s10 _ _ hm8
    have I10 := I8.same s10
    have M10 := M8.same s10
    have nr : n < rows.length := (List.getElem?_eq_some_iff.mp er).1
    have rl : rows.length ≤ 1000 := by rw [hA.len]; exact hA.l1000
    obtain ⟨B, eB⟩ : ∃ B, B = (rows.map (·.2)).set n (putS r.2 off v c) := ⟨_, rfl⟩
    have Bl : B.length = rows.length := by rw [eB, List.length_set, List.length_map]
    walk_at "ws"
    refine w_lenT hm10 ?_
    rw [List.length_map]
    walk_at "ws"
    refine w_lcR rows.length (fun D i H' => H10 D = none ∧ Same H10 H' ∧ ∃ as : List Addr, as.length = i ∧ H' D = some (.lst (as.map V.ref)) ∧ ∀ (j : Nat) (a : Addr), as[j]? = some a → ∃ bs : List Int, B[j]? = some bs ∧ H' a = some (.tup (bs.map V.int))) (by simp) (by omega) (fun D nD => ⟨nD, Same.new nD, [], rfl, upd_same, fun j a h => by simp at h⟩) (fun D i H' hi h => ?_) (fun D H' nD h => ?_)
    · obtain ⟨nD, s11, as, rfl, hD, has⟩ := h
      walk_at "ws"
      refine ⟨rfl, ?_⟩
      walk_at "ws"
      have fin : ∀ (t : Addr) (bs : List Int) (H12 : Hp), Same H' H12 → B[as.length]? = some bs → H12 t = some (.tup (bs.map V.int)) →
          ∃ acc, H12 D = some (.lst acc) ∧ acc.length < sizeLine ∧ H10 D = none ∧ Same H10 (upd H12 D (.lst (acc ++ [.ref t]))) ∧ ∃ as' : List Addr, as'.length = as.length + 1 ∧ upd H12 D (.lst (acc ++ [.ref t])) D = some (.lst (as'.map V.ref)) ∧ ∀ (j : Nat) (a : Addr), as'[j]? = some a → ∃ bs : List Int, B[j]? = some bs ∧ upd H12 D (.lst (acc ++ [.ref t])) a = some (.tup (bs.map V.int)) := by
        intro t bs H12 s12 hbs ht
        have hD12 := s12 _ _ hD
        refine ⟨_, hD12, by rw [List.length_map]; exact small1000 (by omega), nD, fun a o e => ?_, as ++ [t], by simp, by rw [List.map_append]; exact upd_same, fun j a h => ?_⟩
        · rw [upd_ne (ne_of_none e nD)]; exact s12 _ _ (s11 _ _ e)
        · rcases Nat.lt_or_ge j as.length with z | z
          · rw [List.getElem?_append_left z] at h
            obtain ⟨bs', h1, h2⟩ := has j a h
            have h3 := s12 _ _ h2
            exact ⟨bs', h1, by rw [upd_ne (ne_of h3 hD12 (by intro z; cases z))]; exact h3⟩
          · rw [List.getElem?_append_right z] at h
            have : j - as.length = 0 := by
              cases q : j - as.length with
              | zero => rfl
              | succ m => rw [q] at h; simp at h
            rw [this] at h
            cases h
            have : j = as.length := by omega
            subst this
            exact ⟨bs, hbs, by rw [upd_ne (ne_of ht hD12 (by intro z; cases z))]; exact ht⟩
      refine w_dec (fun e1 => ?_) (fun e1 => ?_)
      · walk_at "ws"
        have e1' : as.length = n := by omega
        refine w_tupL (.of (s11 _ _ hl10)) fun t H12 nt s12 ht => ?_
        exact fin t _ H12 s12 (by rw [eB, e1', List.getElem?_set_self (by rw [List.length_map]; exact nr)]) ht
      · walk_at "ws"
        have e1' : n ≠ as.length := by omega
        obtain ⟨r2, er2⟩ : ∃ r2, rows[as.length]? = some r2 := ⟨_, List.getElem?_eq_getElem hi⟩
        refine w_ixT (s11 _ _ hm10) (atI_nat (v := .ref r2.1) (by rw [List.getElem?_map, er2]; rfl)) ?_
        exact fin r2.1 r2.2 H' (fun _ _ e => e) (by rw [eB, List.getElem?_set_ne e1', List.getElem?_map, er2]; rfl) (s11 _ _ (M10.2 r2 (List.mem_of_getElem? er2)))
    · obtain ⟨_, s11, as, eas, hD, has⟩ := h
      walk_at "ws"
      refine ⟨im, sg, mem, gs, rows, ad, c, v, n, g, r, rfl, I10.same s11, M10.same s11, hk, eg, er, el, by omega, v0, v1, rl, fun t w H12 s12 hw12 ht => ?_⟩
      rw [← hoff] at hw12
      walk_at "ws"
      refine w_tupL (.of (s12 _ _ hD)) fun t2 H13 nt2 s13 ht2 => ?_
      refine w_eqD (d := rowsD B) (.tup (s13.sqT ht) (dpAllRows _ B ?_ ?_)) (.tup (.of ht2) (dpAllRows _ B ?_ ?_)) (rows_shaped B) ?_
      · rw [List.length_set, List.length_map, Bl]
      · intro j x bs hx hbs
        rw [eB] at hbs
        rcases Nat.decEq n j with z | z
        · rw [List.getElem?_set_ne z] at hx hbs
          rw [List.getElem?_map] at hx hbs
          cases q : rows[j]? with
          | none => rw [q] at hx; cases hx
          | some r3 =>
            rw [q] at hx hbs
            cases hx; cases hbs
            exact ⟨r3.1, rfl, .of (s13 _ _ (s12 _ _ (s11 _ _ (M10.2 r3 (List.mem_of_getElem? q)))))⟩
        · subst z
          rw [List.getElem?_set_self (by rw [List.length_map]; exact nr)] at hx hbs
          cases hx; cases hbs
          exact ⟨w, rfl, .of (s13 _ _ hw12)⟩
      · rw [List.length_map, eas, Bl]
      · intro j x bs hx hbs
        obtain ⟨a, _, ea, rfl⟩ := map_get' hx
        obtain ⟨bs', h1, h2⟩ := has j a ea
        rw [hbs] at h1
        cases h1
        exact ⟨a, rfl, .of (s13 _ _ (s12 _ _ h2))⟩
      · exact q _ (s05.trans (s8.trans (s10.trans (s11.trans (s12.trans s13)))))
end
end K03

namespace K03
theorem sc_law : FnScope ["script", "draw", "image", "rows", "segment", "row", "memory", "before", "j", "address", "value", "count", "k", "may", "at", "due"] ["script"] (defScope s_law) := ⟨rfl, rfl, rfl, by decide +kernel, rfl, by decide +kernel, by decide +kernel⟩
def segD (b : Int) (bs : List Int) (w x : Bool) : PyData := .tuple [.int b, rowD bs, .bool w, .bool x]
def symD (b : Int) (s : Str) : PyData := .tuple [.int b, .str s]
def imgD (b : Int) (x1 x2 x3 : List Int) : PyData := .tuple [.tuple [segD b x1 false true, segD (b + 2048) x2 true false, segD (b + 4096) x3 false false], .int b, .tuple [symD b "start", symD (b + 2048) "data", symD (b + 4096) "table"]]
theorem TK.trans {H H1 H2 : Hp} (a : TK H H1) (b : TK H1 H2) : TK H H2 := fun x xs h => b x xs (a x xs h)
theorem ImgAt.tk {H H' : Hp} {t : Addr} {b : Int} {x1 x2 x3 : List Int} (h : ImgAt H t b x1 x2 x3) (k : TK H H') : ImgAt H' t b x1 x2 x3 := by
  obtain ⟨sg, sy, s1, s2, s3, v1, v2, v3, y1, y2, y3, h1, h2, h3, h4, h5, h6, h7, h8, h9, h10, h11, h12⟩ := h
  exact ⟨sg, sy, s1, s2, s3, v1, v2, v3, y1, y2, y3, k _ _ h1, k _ _ h2, k _ _ h3, k _ _ h4, k _ _ h5, k _ _ h6, k _ _ h7, k _ _ h8, k _ _ h9, k _ _ h10, k _ _ h11, k _ _ h12⟩
theorem segDp {K : PySem.W.Frag} {H : Hp} {s v : Addr} {b : Int} {bs : List Int} {w x : Bool} (h : H s = some (.tup [.int b, .ref v, .bl w, .bl x])) (hv : H v = some (.tup (bs.map V.int))) : Dp K H (.ref s) (segD b bs w x) :=
  .tup (.of h) (.cons (.int b) (.cons (dpRow (.of hv)) (.cons (.bl w) (.cons (.bl x) .nil))))
theorem symDp {K : PySem.W.Frag} {H : Hp} {y : Addr} {b : Int} {s : Str} (h : H y = some (.tup [.int b, .str s])) : Dp K H (.ref y) (symD b s) := .tup (.of h) (.cons (.int b) (.cons (.str s) .nil))
theorem ImgAt.dp {K : PySem.W.Frag} {H : Hp} {t : Addr} {b : Int} {x1 x2 x3 : List Int} (h : ImgAt H t b x1 x2 x3) : Dp K H (.ref t) (imgD b x1 x2 x3) := by
  obtain ⟨sg, sy, s1, s2, s3, v1, v2, v3, y1, y2, y3, h1, h2, h3, h4, h5, h6, h7, h8, h9, h10, h11, h12⟩ := h
  exact .tup (.of h1) (.cons (.tup (.of h2) (.cons (segDp h3 h4) (.cons (segDp h5 h6) (.cons (segDp h7 h8) .nil)))) (.cons (.int b) (.cons (.tup (.of h9) (.cons (symDp h10) (.cons (symDp h11) (.cons (symDp h12) .nil)))) .nil)))
theorem b8_small {xs : List Int} (h : ∀ x ∈ xs, B8 x) : ∀ x ∈ xs, x.natAbs < 1000000000000 := fun x hx => by have := h x hx; unfold B8 at this; omega
theorem segSm {b : Int} {bs : List Int} {w x : Bool} (hb : b.natAbs < 1000000000000) (h : ∀ x ∈ bs, B8 x) : SmD (41 * bs.length + 100) 2 (segD b bs w x) :=
  (SmAll.tup (k := 1) (.cons (.int hb) (.cons (SmD.row (b8_small h)) (.cons (.bool w) (.cons (.bool x) .nil))))).mono (by omega) (by omega)
theorem symSm {b : Int} {s : Str} (hb : b.natAbs < 1000000000000) (hs : PyData.strOk s = true) (hn : s.cps.size ≤ 5) : SmD 60 2 (symD b s) :=
  (SmAll.tup (k := 1) (.cons (.int hb) (.cons (.str hs hn) .nil))).mono (by omega) (by omega)
theorem imgSm {left b : Int} {x1 x2 x3 : List Int} (h : ImOk left b x1 x2 x3) : SmD (41 * (x1.length + x2.length + x3.length) + 700) 4 (imgD b x1 x2 x3) := by
  have hb : b.natAbs < 100000000000 := by rcases h.hb with rfl | rfl | rfl | rfl <;> decide
  exact (SmAll.tup (k := 3) (.cons ((SmAll.tup (.cons (segSm (by omega) h.b1) (.cons (segSm (by omega) h.b2) (.cons (segSm (by omega) h.b3) .nil))))) (.cons (.int (by omega)) (.cons ((SmAll.tup (.cons (symSm (by omega) (by decide +kernel) (by decide)) (.cons (symSm (by omega) (by decide +kernel) (by decide)) (.cons (symSm (by omega) (by decide +kernel) (by decide)) .nil))))) .nil)))).mono (by omega) (by omega)
def spLaw (K : PySem.W.Frag) : Sp := fun vs H Q _ => ∃ (a : Addr) (ns : List Int), vs = [.ref a] ∧ SqL K H a (ns.map V.int) ∧ ns.length ≤ 63 ∧ ∀ H', Q (.bl true) H'
section
variable {P : Program} {w : World} {K : PySem.W.Frag} {mg : Str → Option Value} {base : Heap}
theorem ok_law (b_int : mg "int" = none) (b_len : mg "len" = none) (b_range : mg "range" = none) (b_list : mg "list" = none) (b_tuple : mg "tuple" = none) (b_repr : mg "repr" = none)
    (c_law_draw : Cd P w K mg base 1 "_law_draw" (spDraw K)) (c_law_take : Cd P w K mg base 1 "_law_take" spTake) (c_law_image : Cd P w K mg base 11 "_law_image" spImage) (c_law_address : Cd P w K mg base 2 "_law_address" spAddr) (c_law_access_right : Cd P w K mg base 4 "_law_access_right" spAcc) (c_law_home : Cd P w K mg base 1 "_law_home" spHome) (c_can_fetch : Cd P w K mg base 3 "can_fetch" (spRight4 Sg.ex)) (c_word_at : Cd P w K mg base 3 "word_at" spWordAt)
    {f : Addr} {fd : FuncData} (F : Fun K "law" "law" s_law f fd) : RunG P w K mg base f fd "script" (spLaw K) := by
  refine runG_of (k := 12) F sc_law ⟨rfl, by decide, by decide⟩ (fun cdv s H vs Q hr h => ?_)
  obtain ⟨a, ns, rfl, hS, hlen, q⟩ := h
  refine ⟨_, (pss_cons (ps_set (i := 1) sc_law.nd rfl (.inl rfl) (pe_cd c_law_draw hr (by first | decide | omega) (by rfl) (pa_cons (pv 0) pa_nil)))
      (pss_cons (ps_set (i := 2) sc_law.nd rfl (.inl rfl) (pe_cd c_law_image hr (by first | decide | omega) (by rfl) (pa_cons (pv 1) (pa_cons pe_int pa_nil))))
      (pss_cons (ps_set (i := 3) sc_law.nd rfl (.inl rfl) (pe_lst pa_nil))
      (Evl.pss_cut (ps_for PassesOwn.never rfl (pi_tup (pe_ix ix_tup (pv 2) pe_int (fun _ _ => rfl))) (pg_name (i := 4) sc_law.nd rfl (.inl rfl))
      (pss_cons (ps_set (i := 5) sc_law.nd rfl (.inl rfl) (pe_callTy call_listQ (by rfl) b_list (by decide +kernel) (pa_cons (pe_ix ix_tup (pv 4) pe_int (fun _ _ => rfl)) pa_nil)))
      (pss_cons (ps_if (pt_val (pe_ix ix_tup (pv 4) pe_int (fun _ _ => rfl))) (pss_one (ps_asg (pe_cd c_law_take hr (by first | decide | omega) (by rfl) (pa_cons (pv 1) (pa_cons pe_int pa_nil))) (pg_sub (pv 5) (pe_cd c_law_take hr (by first | decide | omega) (by rfl) (pa_cons (pv 1) (pa_cons (pe_callB call_lenQ (by rfl) b_len PySem.boot_len (pa_cons (pv 5) pa_nil)) pa_nil))) set_list))) pss_nil)
      (pss_one (ps_expr (pe_bm PySem.F.plainAttrs_list PySem.F.slot_list_append PySem.F.type_list_append mt_append (pv 3) (pa_cons (pe_callTy call_tupQ (by rfl) b_tuple (by decide +kernel) (pa_cons (pv 5) pa_nil)) pa_nil)))))))
      (pss_cons (ps_set (i := 6) sc_law.nd rfl (.inl rfl) (pe_callTy call_tupQ (by rfl) b_tuple (by decide +kernel) (pa_cons (pv 3) pa_nil)))
      (pss_cons (ps_set (i := 7) sc_law.nd rfl (.inl rfl) (pe_callB (call_reprD (by rfl) (hu70 hr)) (by rfl) b_repr (by decide +kernel) (pa_cons (pe_tup (pa_cons (pv 2) (pa_cons (pv 6) pa_nil))) pa_nil)))
      (pss_cons (ps_for PassesOwn.never rfl (pi_range1 (by rfl) b_range (pa_cons pe_int pa_nil)) (pg_name (i := 8) sc_law.nd rfl (.inl rfl))
      (pss_cons (ps_set (i := 9) sc_law.nd rfl (.inl rfl) (pe_cd c_law_address hr (by first | decide | omega) (by rfl) (pa_cons (pv 1) (pa_cons (pv 2) pa_nil))))
      (pss_cons (ps_set (i := 10) sc_law.nd rfl (.inl rfl) (pe_cd c_law_take hr (by first | decide | omega) (by rfl) (pa_cons (pv 1) (pa_cons (pe_op op_pow pe_int pe_int) pa_nil))))
      (Evl.pss_cut (ps_for PassesOwn.never rfl (pi_list (pe_lst (pa_cons pe_int (pa_cons pe_int pa_nil)))) (pg_name (i := 11) sc_law.nd rfl (.inl rfl))
      (pss_one (ps_if (pt_not (pt_val (pe_cd c_law_access_right hr (by first | decide | omega) (by rfl) (pa_cons (pv 2) (pa_cons (pv 6) (pa_cons (pv 9) (pa_cons (pv 11) (pa_cons (pv 10) pa_nil)))))))) (pss_one (ps_ret pe_bl)) pss_nil)))
      (pss_cons (ps_set (i := 12) sc_law.nd rfl (.inl rfl) (pe_cd c_law_home hr (by first | decide | omega) (by rfl) (pa_cons (pv 2) (pa_cons (pv 9) (pa_cons pe_int pa_nil)))))
      (Evl.pss_cut (ps_set (i := 13) sc_law.nd rfl (.inl rfl) (pe_and (pe_cmpR op_eq (pe_op op_mod (pe_callTy call_intQ (by rfl) b_int (by decide +kernel) (pa_cons (pv 9) pa_nil)) pe_int) pe_int (nomark _)) (pe_and (pe_cmpR op_ge (pv 12) pe_int (nomark _)) (pe_one (pe_ix ix_tup (pe_ix ix_tup (pe_ix ix_tup (pv 2) pe_int (fun _ _ => rfl)) (pv 12) (fun _ _ => rfl)) pe_int (fun _ _ => rfl))))))
      (Evl.pss_cut (ps_if (pt_cmpR op_ne (pe_cd c_can_fetch hr (by first | decide | omega) (by rfl) (pa_cons (pv 2) (pa_cons (pv 9) pa_nil))) (pv 13) (nomark _)) (pss_one (ps_ret pe_bl)) pss_nil)
      (pss_one (ps_if (pt_val (pv 13)) (pss_cons (ps_set (i := 5) sc_law.nd rfl (.inl rfl) (pe_ix ix_tup (pe_ix ix_tup (pe_ix ix_tup (pv 2) pe_int (fun _ _ => rfl)) (pv 12) (fun _ _ => rfl)) pe_int (fun _ _ => rfl)))
      (pss_cons (ps_set (i := 14) sc_law.nd rfl (.inl rfl) (pe_op op_sub (pv 9) (pe_ix ix_tup (pe_ix ix_tup (pe_ix ix_tup (pv 2) pe_int (fun _ _ => rfl)) (pv 12) (fun _ _ => rfl)) pe_int (fun _ _ => rfl))))
      (pss_cons (ps_set (i := 15) sc_law.nd rfl (.inl rfl) (pe_op op_add (pe_op op_add (pe_op op_add (pe_ix ix_tup (pv 5) (pv 14) (fun _ _ => rfl)) (pe_op op_mul pe_int (pe_ix ix_tup (pv 5) (pe_op op_add (pv 14) pe_int) (fun _ _ => rfl)))) (pe_op op_mul pe_int (pe_ix ix_tup (pv 5) (pe_op op_add (pv 14) pe_int) (fun _ _ => rfl)))) (pe_op op_mul pe_int (pe_ix ix_tup (pv 5) (pe_op op_add (pv 14) pe_int) (fun _ _ => rfl)))))
      (pss_one (ps_if (pt_cmpR op_ne (pe_cd c_word_at hr (by first | decide | omega) (by rfl) (pa_cons (pv 2) (pa_cons (pv 9) pa_nil))) (pv 15) (nomark _)) (pss_one (ps_ret pe_bl)) pss_nil))))) pss_nil)))))))))
      (pss_one (ps_ret (pe_cmpR op_eq (pe_callB (call_reprD (by rfl) (hu70 hr)) (by rfl) b_repr (by decide +kernel) (pa_cons (pe_tup (pa_cons (pv 2) (pa_cons (pv 6) pa_nil))) pa_nil)) (pv 7) (nomark _))))))))))), ?_⟩
  walk_at "ws"
  refine ⟨a, ns, rfl, hS, hlen, fun d cc H1 _ _ _ hd => ?_⟩
  walk_at "ws"
  refine ⟨d, cc, 2, rfl, hd, by decide, by decide, fun t b x1 x2 x3 H2 hI hok hd2 b2 => ?_⟩
  walk_at "ws"
  obtain ⟨sg, sy, s1, s2, s3, v1, v2, v3, y1, y2, y3, h1, h2, h3, h4, h5, h6, h7, h8, _⟩ := id hI
  obtain ⟨gs, egs⟩ : ∃ gs : List Sg, gs = [⟨s1, v1, b, x1, false, true⟩, ⟨s2, v2, b + 2048, x2, true, false⟩, ⟨s3, v3, b + 4096, x3, false, false⟩] := ⟨_, rfl⟩
  have IA : ImAt H2 t sg gs := ⟨⟨_, _, h1⟩, by rw [h2, egs]; rfl, fun g hg => by
    rw [egs] at hg
    simp only [List.mem_cons, List.not_mem_nil, or_false] at hg
    rcases hg with rfl | rfl | rfl
    · exact ⟨h3, h4⟩
    · exact ⟨h5, h6⟩
    · exact ⟨h7, h8⟩⟩
  have gl : gs.length = 3 := by rw [egs]; rfl
  have gb : ∀ g ∈ gs, 1 ≤ g.bs.length ∧ g.bs.length ≤ 100000 ∧ 0 ≤ g.lo ∧ ∀ x ∈ g.bs, B8 x := fun g hg => by
    obtain ⟨n1, e1, z1, z1'⟩ := hok.h1
    obtain ⟨n3, e3, z3, z3'⟩ := hok.h3
    have e2 := hok.h2
    have hb := hok.hb
    rw [egs] at hg
    simp only [List.mem_cons, List.not_mem_nil, or_false] at hg
    rcases hg with rfl | rfl | rfl
    · exact ⟨by show 1 ≤ x1.length; omega, by show x1.length ≤ 100000; omega, by show 0 ≤ b; omega, hok.b1⟩
    · exact ⟨by show 1 ≤ x2.length; omega, by show x2.length ≤ 100000; omega, by show 0 ≤ b + 2048; omega, hok.b2⟩
    · exact ⟨by show 1 ≤ x3.length; omega, by show x3.length ≤ 100000; omega, by show 0 ≤ b + 4096; omega, hok.b3⟩
  have xl : x1.length ≤ 300 ∧ x2.length ≤ 300 ∧ x3.length ≤ 300 := by
    obtain ⟨n1, e1, z1, z1'⟩ := hok.h1
    obtain ⟨n3, e3, z3, z3'⟩ := hok.h3
    have e2 := hok.h2
    exact ⟨by omega, by omega, by omega⟩
  have sl : ∀ g ∈ gs, g.bs.length ≤ 300 := fun g hg => by
    obtain ⟨n1, e1, z1, z1'⟩ := hok.h1
    obtain ⟨n3, e3, z3, z3'⟩ := hok.h3
    have e2 := hok.h2
    rw [egs] at hg
    simp only [List.mem_cons, List.not_mem_nil, or_false] at hg
    rcases hg with rfl | rfl | rfl
    · show x1.length ≤ 300; omega
    · show x2.length ≤ 300; omega
    · show x3.length ≤ 300; omega
  have IAtk : ∀ {G}, TK H2 G → ImAt G t sg gs := fun k => ⟨⟨_, _, k _ _ h1⟩, k _ _ IA.hs, fun g hg => ⟨k _ _ (IA.hg g hg).ha, k _ _ (IA.hg g hg).hv⟩⟩
  refine w_kLst (by decide) fun R H3 nR s3 hR => ?_
  walk_at "ws"
  have hd3 := hd2.same s3
  have nRd : R ≠ d := hd2.ne nR
  have nRc : R ≠ cc := hd2.nec nR
  refine Evl.q_cut (M := fun σ' H' => TK H2 H' ∧ DrawC H' d cc ∧ ∃ (rs : List (Addr × List Int)), rs.length = 3 ∧ H' R = some (.lst (rs.map fun r => V.ref r.1)) ∧ (∀ r ∈ rs, H' r.1 = some (.tup (r.2.map V.int)) ∧ ∀ x ∈ r.2, B8 x) ∧ (∀ (n : Nat) (g : Sg) (r : Addr × List Int), gs[n]? = some g → rs[n]? = some r → r.2.length = g.bs.length) ∧ ∃ r4 r5 : Option V, σ' = [some (.ref a), some (.ref d), some (.ref t), some (.ref R), r4, r5, none, none, none, none, none, none, none, none, none, none]) ?_ ?_
  · walk_at "ws"
    refine w_ixT (s3 _ _ h1) (atI_of (v := .ref sg) (by decide) rfl) ?_
    refine w_forT (gs.map fun g => V.ref g.a) (fun i σ' H' => TK H2 H' ∧ DrawC H' d cc ∧ ∃ (rs : List (Addr × List Int)), rs.length = i ∧ H' R = some (.lst (rs.map fun r => V.ref r.1)) ∧ (∀ r ∈ rs, H' r.1 = some (.tup (r.2.map V.int)) ∧ ∀ x ∈ r.2, B8 x) ∧ (∀ (n : Nat) (g : Sg) (r : Addr × List Int), gs[n]? = some g → rs[n]? = some r → r.2.length = g.bs.length) ∧ ∃ r4 r5 : Option V, σ' = [some (.ref a), some (.ref d), some (.ref t), some (.ref R), r4, r5, none, none, none, none, none, none, none, none, none, none])
      (.inl (.inl (s3 _ _ IA.hs))) ⟨.same s3, hd3, [], rfl, hR, (fun r h => by cases h), (fun n g r _ h => by simp at h), _, _, rfl⟩ (fun i σ' H' _ h => .inl (.inl (h.1 _ _ IA.hs))) (fun i x σ' H5 hx h => ?_) (fun σ' H5 h => ?_)
    · obtain ⟨k5, hd5, rs, lrs, hR5, hrs, ers, r4, r5, rfl⟩ := h
      rw [List.getElem?_map] at hx
      obtain ⟨g, eg, rfl⟩ := Option.map_eq_some_iff.mp hx
      have gm := List.mem_of_getElem? eg
      obtain ⟨z1, z2, z3, z4⟩ := gb g gm
      have ga := ((IAtk k5).hg g gm).ha
      have gv := ((IAtk k5).hg g gm).hv
      have hi : i < 3 := by rw [← gl]; exact (List.getElem?_eq_some_iff.mp eg).1
      walk_at "ws"
      refine w_listT (.inl (.inl gv)) fun l H6 nl s6 hl => ?_
      have ga6 := s6 _ _ ga
      have hd6 := hd5.same s6
      have ld : l ≠ d := hd5.ne nl
      have lc : l ≠ cc := hd5.nec nl
      have lR : R ≠ l := ne_of_none hR5 nl
      have hR6 := s6 _ _ hR5
      obtain ⟨⟨zs6, hdl6⟩, _⟩ := hd6.hdl
      have fin : ∀ (bs : List Int) (G : Hp), TK H6 G → DrawC G d cc → G R = some (.lst (rs.map fun r => V.ref r.1)) → G l = some (.lst (bs.map V.int)) → (∀ x ∈ bs, B8 x) → bs.length = g.bs.length →
          ∀ (p : Addr) (G2 : Hp), Same G G2 → G2 p = some (.tup (bs.map V.int)) → ∀ G3, G3 R = some (.lst ((rs.map fun r => V.ref r.1) ++ [.ref p])) → But R G2 G3 → TK H2 G3 ∧ DrawC G3 d cc ∧ ∃ (rs : List (Addr × List Int)), rs.length = i + 1 ∧ G3 R = some (.lst (rs.map fun r => V.ref r.1)) ∧ (∀ r ∈ rs, G3 r.1 = some (.tup (r.2.map V.int)) ∧ ∀ x ∈ r.2, B8 x) ∧ (∀ (n : Nat) (g : Sg) (r : Addr × List Int), gs[n]? = some g → rs[n]? = some r → r.2.length = g.bs.length) := by
        intro bs G kG dG RG lG b8 elen p G2 s2 hp G3 hR3 bt
        have RG2 := s2 _ _ RG
        have kk : TK G2 G3 := .lst bt RG2
        have k53 : TK H5 G3 := (TK.same s6).trans (kG.trans ((TK.same s2).trans kk))
        refine ⟨k5.trans k53, (dG.same s2).keep (fun o => bt _ o nRd.symm) (fun o => bt _ o nRc.symm), rs ++ [(p, bs)], by simp [lrs], by rw [hR3, List.map_append]; rfl, fun r hr => ?_, fun n g' r eg' er => ?_⟩
        · rcases List.mem_append.mp hr with hr | hr
          · exact ⟨k53 _ _ (hrs r hr).1, (hrs r hr).2⟩
          · rw [List.mem_singleton.mp hr]; exact ⟨kk _ _ hp, b8⟩
        · rcases Nat.lt_or_ge n rs.length with z | z
          · rw [List.getElem?_append_left z] at er
            exact ers n g' r eg' er
          · rw [List.getElem?_append_right z] at er
            have : n - rs.length = 0 := by
              cases q : n - rs.length with
              | zero => rfl
              | succ m => rw [q] at er; simp at er
            rw [this] at er
            cases er
            have : n = i := by omega
            subst this
            rw [eg] at eg'; cases eg'
            exact elen
      walk_at "ws"
      cases hw : g.wr with
      | false =>
        walk_at "ws"
        refine w_tupL (.of hl) fun p H7 np s7 hp => ?_
        walk_at "ws"
        refine w_append (s7 _ _ hR6) (by rw [List.length_map]; exact small1000 (by omega)) fun H8 hR8 b8 => ?_
        obtain ⟨f1, f2, rs', f3⟩ := fin g.bs H6 (fun _ _ e => e) hd6 hR6 hl z4 rfl p H7 s7 hp H8 hR8 b8
        exact ⟨f1, f2, rs', f3.1, f3.2.1, f3.2.2.1, f3.2.2.2, _, _, rfl⟩
      | true =>
        walk_at "ws"
        refine w_take hd6 (by decide) (by decide) fun y H7 y0 y1 hd7 b7 => ?_
        obtain ⟨⟨zs7, hdl7⟩, _⟩ := hd7.hdl
        have hl7 := b7 _ _ ld hl
        walk_at "ws"
        rw [List.length_map]
        refine w_take hd7 (by omega) (by omega) fun k H8 k0 k1 hd8 b8 => ?_
        have hl8 := b8 _ _ ld hl7
        obtain ⟨m, rfl⟩ := Int.eq_ofNat_of_zero_le k0
        refine w_setL (j := m) hl8 (ixN_lit (by rw [List.length_map]; omega)) fun H9 hl9 b9 => ?_
        have hR9 := b9 _ _ lR (b8 _ _ nRd (b7 _ _ nRd hR6))
        have hd9 := hd8.keep (fun o => b9 _ o ld.symm) (fun o => b9 _ o lc.symm)
        have k9 : TK H6 H9 := (TK.lst b7 hdl6).trans ((TK.lst b8 hdl7).trans (.lst b9 hl8))
        walk_at "ws"
        refine w_tupL (.of hl9) fun p H10 np s10 hp => ?_
        walk_at "ws"
        refine w_append (s10 _ _ hR9) (by rw [List.length_map]; exact small1000 (by omega)) fun H11 hR11 b11 => ?_
        have e9 : (g.bs.map V.int).set m (.int y) = (g.bs.set m y).map V.int := by rw [List.map_set]
        rw [e9] at hl9 hp
        obtain ⟨f1, f2, rs', f3⟩ := fin (g.bs.set m y) H9 k9 hd9 hR9 hl9 (fun x hx => by
          rcases List.mem_or_eq_of_mem_set hx with h | rfl
          · exact z4 x h
          · exact ⟨y0, y1⟩) (by rw [List.length_set]) p H10 s10 hp H11 hR11 b11
        exact ⟨f1, f2, rs', f3.1, f3.2.1, f3.2.2.1, f3.2.2.2, _, _, rfl⟩
    · obtain ⟨k5, hd5, rs, lrs, h⟩ := h
      rw [List.length_map, gl] at lrs
      exact ⟨k5, hd5, rs, lrs, h⟩
  rintro σ4 H4 ⟨k4, hd4, rs, lrs, hR4, hrs, ers, r4, r5, rfl⟩
  walk_at "ws"
  refine w_tupL (.of hR4) fun mem H5 nm s5 hmem => ?_
  have M5 : MemAt H5 mem rs := ⟨hmem, fun r hr => s5 _ _ (hrs r hr).1⟩
  have k5 : TK H2 H5 := k4.trans (.same s5)
  have hd5 := hd4.same s5
  have AO : AccOk gs rs := ⟨by rw [lrs, gl], by omega, fun n g r e1 e2 => ⟨ers n g r e1 e2, (gb g (List.mem_of_getElem? e1)).2.1⟩, fun r hr => (hrs r hr).2⟩
  have rl : ∀ r ∈ rs, r.2.length ≤ 300 := fun r hr => by
    obtain ⟨n, hn, e⟩ := List.getElem_of_mem hr
    have e' : rs[n]? = some r := by rw [List.getElem?_eq_getElem hn, e]
    obtain ⟨g, eg⟩ : ∃ g, gs[n]? = some g := ⟨_, List.getElem?_eq_getElem (by omega)⟩
    rw [ers n g r eg e']
    exact sl g (List.mem_of_getElem? eg)
  walk_at "ws"
  refine w_kTup (by show 2 ≤ sizeLine; decide) fun pr H6 npr s6 hpr => ?_
  have pairDp : ∀ {G : Hp} {p : Addr}, TK H2 G → MemAt G mem rs → G p = some (.tup [.ref t, .ref mem]) → Dp K G (.ref p) (.tuple [imgD b x1 x2 x3, rowsD (rs.map (·.2))]) := fun {G p} k m h => .tup (.of h) (.cons (ImgAt.dp (hI.tk k)) (.cons (.tup (.of m.1) (dpAllRows _ _ (by rw [List.length_map, List.length_map]) (fun j v bs h1 h2 => by
    obtain ⟨r, hr, er, rfl⟩ := map_get' h1
    rw [List.getElem?_map, er] at h2
    cases h2
    exact ⟨r.1, rfl, .of (m.2 r hr)⟩))) .nil))
  have pairSm : Shw (.tuple [imgD b x1 x2 x3, rowsD (rs.map (·.2))]) := by
    obtain ⟨h1, h2, h3⟩ := xl
    have r1 : SmAll (12301 * 3) 3 ((rs.map (·.2)).map rowD) := (SmAll.all (n := 12301) (k := 3) fun dd hdd => by
      obtain ⟨bs, hbs, rfl⟩ := List.mem_map.mp hdd
      obtain ⟨r, hr, rfl⟩ := List.mem_map.mp hbs
      have := rl r hr
      exact (SmD.row (k := 2) (b8_small (hrs r hr).2)).mono (by omega) (by omega)).mono (by rw [List.length_map, List.length_map, lrs]; omega) (by omega)
    exact (SmAll.tup (k := 4) (.cons (imgSm hok) (.cons r1.tup .nil))).shown (by omega) (by omega)
  obtain ⟨S, hS⟩ : ∃ S, S = PyData.shown (.tuple [imgD b x1 x2 x3, rowsD (rs.map (·.2))]) := ⟨_, rfl⟩
  walk_at "ws"
  refine w_repr (pairDp (k5.trans (.same s6)) (M5.same s6) hpr) pairSm ?_
  rw [← hS]
  walk_at "ws"
  refine w_forR 8 (fun i σ' H' => TK H2 H' ∧ DrawC H' d cc ∧ MemAt H' mem rs ∧ ∃ r4 r5 : Option V, ∃ r : L2.St, σ' = some (.ref a) :: some (.ref d) :: some (.ref t) :: some (.ref R) :: r4 :: r5 :: some (.ref mem) :: some (.str S) :: r ∧ r.length = 8) rfl (by decide) ⟨k5.trans (.same s6), hd5.same s6, M5.same s6, _, _, _, rfl, rfl⟩ ?_ ?_
  · rintro i σ7 H7 hi ⟨k7, hd7, M7, r4, r5, r, rfl, hr8⟩
    obtain ⟨r1, r2, r3, r4', r5', r6, r7, r8, rfl⟩ : ∃ r1 r2 r3 r4 r5 r6 r7 r8, r = [r1, r2, r3, r4, r5, r6, r7, r8] := by
      match r, hr8 with
      | [r1, r2, r3, r4, r5, r6, r7, r8], _ => exact ⟨_, _, _, _, _, _, _, _, rfl⟩
    walk_at "ws"
    refine ⟨d, cc, t, sg, gs, rfl, hd7, IAtk k7, by omega, by omega, fun g hg => ⟨(gb g hg).1, by have := (gb g hg).2.1; omega, (gb g hg).2.2.1⟩, fun ad H8 a0 hd8 b8 => ?_⟩
    obtain ⟨⟨zs7, hdl7⟩, _⟩ := hd7.hdl
    have k8 : TK H7 H8 := .lst b8 hdl7
    walk_at "ws"
    refine w_take hd8 (by decide) (by decide) fun v H9 v0 v1 hd9 b9 => ?_
    obtain ⟨⟨zs8, hdl8⟩, _⟩ := hd8.hdl
    have k9 : TK H7 H9 := k8.trans (.lst b9 hdl8)
    have M9 : MemAt H9 mem rs := ⟨k9 _ _ M7.1, fun r hr => k9 _ _ (M7.2 r hr)⟩
    walk_at "ws"
    refine Evl.q_cut (M := fun σ' H' => Same H9 H' ∧ ∃ x5 : Option V, σ' = [some (.ref a), some (.ref d), some (.ref t), some (.ref R), r4, r5, some (.ref mem), some (.str S), some (.int (i : Nat)), some (.int ad), some (.int v), x5, r5', r6, r7, r8]) ?_ ?_
    · walk_at "ws"
      refine w_kLst (by decide) fun l10 H10 nl10 s10 hl10 => ?_
      refine w_forL [.int 1, .int 4] (fun n σ' H' => Same H10 H' ∧ ∃ x5 : Option V, σ' = [some (.ref a), some (.ref d), some (.ref t), some (.ref R), r4, r5, some (.ref mem), some (.str S), some (.int (i : Nat)), some (.int ad), some (.int v), x5, r5', r6, r7, r8]) (.of hl10) ⟨(fun _ _ e => e), _, rfl⟩ (fun n σ' H' _ h => .of (h.1 _ _ hl10)) (fun n x σ' H11 hx h => ?_) (fun σ' H11 h => ?_)
      · obtain ⟨s11, x5, rfl⟩ := h
        have s911 := s10.trans s11
        have hx' : ∃ c : Nat, x = .int (c : Nat) ∧ (c = 1 ∨ c = 4) := by
          match n, hx with
          | 0, hx => cases hx; exact ⟨1, rfl, .inl rfl⟩
          | 1, hx => cases hx; exact ⟨4, rfl, .inr rfl⟩
        obtain ⟨c, rfl, hc⟩ := hx'
        walk_at "ws"
        refine ⟨t, sg, mem, gs, rs, ad, c, v, rfl, IAtk (k7.trans (k9.trans (.same s911))), M9.same s911, AO, hc, a0, v0, v1, fun H12 s12 => ?_⟩
        walk_at "ws"
        exact ⟨s11.trans s12, _, rfl⟩
      · obtain ⟨s11, x5, rfl⟩ := h
        exact ⟨s10.trans s11, _, rfl⟩
    rintro σ10 H10 ⟨s10, x5, rfl⟩
    have I10 := IAtk (k7.trans (k9.trans (.same s10)))
    have hi10 : H10 t = some (.tup [.ref sg, .int b, .ref sy]) := (k7.trans (k9.trans (.same s10))) _ _ h1
    walk_at "ws"
    refine ⟨t, sg, gs, ad, 4, rfl, I10, by decide, by decide, by omega, fun k H11 hk s11 => ?_⟩
    have hk : FindR gs ad 4 k := hk
    have I11 := I10.same s11
    have hi11 := s11 _ _ hi10
    have hs11 := I11.hs
    walk_at "ws"
    refine Evl.q_cut (M := fun σ' H' => H' = H11 ∧ ∃ mb : Bool, (mb = true ↔ (ad % 4 = 0 ∧ 0 ≤ k) ∧ ∃ (n : Nat) (g : Sg), k = n ∧ gs[n]? = some g ∧ g.ex = true) ∧ σ' = [some (.ref a), some (.ref d), some (.ref t), some (.ref R), r4, r5, some (.ref mem), some (.str S), some (.int (i : Nat)), some (.int ad), some (.int v), x5, some (.int k), some (.bl mb), r7, r8]) ?_ ?_
    · walk_at "ws"
      refine w_dec (fun e1 => ?_) (fun e1 => ?_)
      · walk_at "ws"
        refine w_dec (fun e2 => ?_) (fun e2 => ?_)
        · walk_at "ws"
          obtain ⟨n, g, rfl, eg, hf⟩ := hk.at e2
          refine w_ixT hs11 (atI_nat (v := .ref g.a) (by rw [List.getElem?_map, eg]; rfl)) ?_
          walk_at "ws"
          refine w_ixT (I11.hg g (List.mem_of_getElem? eg)).ha (atI_of (v := .bl g.ex) (by decide) rfl) ?_
          refine ⟨rfl, g.ex, ⟨fun w => ⟨⟨e1, by omega⟩, n, g, rfl, eg, w⟩, ?_⟩, rfl⟩
          rintro ⟨_, m, g', z, eg', w⟩
          have : n = m := by omega
          subst this
          rw [eg] at eg'; cases eg'; exact w
        · walk_at "ws"
          exact ⟨rfl, false, ⟨fun z => (by cases z), fun z => by omega⟩, rfl⟩
      · walk_at "ws"
        exact ⟨rfl, false, ⟨fun z => (by cases z), fun z => by omega⟩, rfl⟩
    rintro σ11 H11' ⟨rfl, mb, hmb, rfl⟩
    refine Evl.q_cut (M := fun σ' H' => Same H11' H' ∧ σ' = [some (.ref a), some (.ref d), some (.ref t), some (.ref R), r4, r5, some (.ref mem), some (.str S), some (.int (i : Nat)), some (.int ad), some (.int v), x5, some (.int k), some (.bl mb), r7, r8]) ?_ ?_
    · walk_at "ws"
      refine ⟨t, sg, gs, ad, rfl, I11, a0, fun r H12 hr s12 => ?_⟩
      have e := hr.iff hk (.inr rfl)
      walk_at "ws"
      have : r = mb := by
        rw [Bool.eq_iff_iff, e, hmb]
        have : ¬ ((4 : Int) = 1) := by decide
        simp [this]
      subst this
      walk_at "wr"
      exact ⟨s12, rfl⟩
    rintro σ12 H12 ⟨s12, rfl⟩
    have k12 : TK H7 H12 := k9.trans (.same (s10.trans (s11.trans s12)))
    have hd12 := (hd9.same (s10.trans (s11.trans s12)))
    have M12 := M9.same (s10.trans (s11.trans s12))
    have I12 := I11.same s12
    have hi12 := s12 _ _ hi11
    have hs12 := I12.hs
    walk_at "ws"
    cases hm : mb with
    | false =>
      walk_at "ws"
      exact ⟨k7.trans k12, hd12, M12, _, _, _, rfl, rfl⟩
    | true =>
      walk_at "ws"
      obtain ⟨⟨a4, kn⟩, n, g, rfl, eg, _⟩ := hmb.mp hm
      obtain ⟨_, _, _, _, hf⟩ := id (hk.at kn)
      have hf : Fit g ad 4 := by
        obtain ⟨n', g', z, eg', f⟩ := hk.at kn
        have : n = n' := by omega
        subst this
        rw [eg] at eg'; cases eg'; exact f
      have gm := List.mem_of_getElem? eg
      have ga12 := (I12.hg g gm).ha
      have gv12 := (I12.hg g gm).hv
      have eo : ad - g.lo = (((ad - g.lo).toNat : Nat) : Int) := by unfold Fit at hf; omega
      obtain ⟨off, hoff⟩ : ∃ off, off = (ad - g.lo).toNat := ⟨_, rfl⟩
      rw [← hoff] at eo
      have hfo : off + 4 ≤ g.bs.length := by unfold Fit at hf; omega
      refine w_ixT hs12 (atI_nat (v := .ref g.a) (by rw [List.getElem?_map, eg]; rfl)) ?_
      walk_at "ws"
      refine w_ixT hs12 (atI_nat (v := .ref g.a) (by rw [List.getElem?_map, eg]; rfl)) ?_
      walk_at "ws"
      rw [eo]
      have at_ : ∀ k : Nat, k < 4 → atI (g.bs.map V.int) (((off : Nat) : Int) + (k : Nat)) = some (.int (g.bs.getD (off + k) 0)) := fun k hk => by
        have : off + k < g.bs.length := by omega
        rw [show ((off : Nat) : Int) + (k : Nat) = ((off + k : Nat) : Int) by omega]
        refine atI_nat ?_
        rw [List.getElem?_map, List.getElem?_eq_getElem this, List.getD_eq_getElem?_getD, List.getElem?_eq_getElem this]
        rfl
      have b_ : ∀ k : Nat, k < 4 → B8 (g.bs.getD (off + k) 0) := fun k hk => by
        have : off + k < g.bs.length := by omega
        rw [List.getD_eq_getElem?_getD, List.getElem?_eq_getElem this]
        exact (gb g gm).2.2.2 _ (List.getElem_mem this)
      refine w_ixT gv12 (v := .int (g.bs.getD (off + 0) 0)) (by have := at_ 0 (by decide); rw [show ((off : Nat) : Int) + ((0 : Nat) : Int) = (off : Nat) by omega] at this; exact this) ?_
      walk_at "ws"
      refine w_ixT gv12 (at_ 1 (by decide)) ?_
      walk_at "ws"
      refine w_ixT gv12 (at_ 2 (by decide)) ?_
      walk_at "ws"
      refine w_ixT gv12 (at_ 3 (by decide)) ?_
      walk_at "ws"
      refine ⟨t, sg, gs, ad, n, g, rfl, I12, by omega, hk, eg, (gb g gm).2.2.2, fun H13 s13 => ?_⟩
      rw [← hoff]
      walk_at "ws"
      have ev : leS g.bs off 4 = g.bs.getD (off + 0) 0 + 256 * g.bs.getD (off + 1) 0 + 65536 * g.bs.getD (off + 2) 0 + 16777216 * g.bs.getD (off + 3) 0 := by
        show 0 + g.bs.getD (off + 0) 0 * 2 ^ (8 * 0) + g.bs.getD (off + 1) 0 * 2 ^ (8 * 1) + g.bs.getD (off + 2) 0 * 2 ^ (8 * 2) + g.bs.getD (off + 3) 0 * 2 ^ (8 * 3) = _
        rw [show (2 : Int) ^ (8 * 0) = 1 from rfl, show (2 : Int) ^ (8 * 1) = 256 from rfl, show (2 : Int) ^ (8 * 2) = 65536 from rfl, show (2 : Int) ^ (8 * 3) = 16777216 from rfl]
        omega
      refine w_ndecF ev ?_
      walk_at "ws"
      exact ⟨k7.trans (k12.trans (.same s13)), hd12.same s13, M12.same s13, _, _, _, rfl, rfl⟩
  · rintro σ7 H7 ⟨k7, hd7, M7, r4, r5, r, rfl, hr8⟩
    walk_at "ws"
    refine w_kTup (by show 2 ≤ sizeLine; decide) fun pr2 H8 npr2 s8 hpr2 => ?_
    walk_at "ws"
    refine w_repr (pairDp (k7.trans (.same s8)) (M7.same s8) hpr2) pairSm ?_
    rw [← hS]
    walk_at "ws"
    rw [decide_eq_true rfl]
    exact q _
end
end K03

namespace K03
theorem all_mk {l : PySem.W.OpenLaw} {w : World} {K : PySem.W.Frag} {h : Heap} {mg : Str → Option Value} {fa : Addr} (X : K.In h) (G : h.Ns mainGlobals mg) (hfa : mg "law" = some (.ref fa))
    {f_find_segment : Addr} {od_find_segment an_find_segment : Option Addr} {sl_find_segment : Array (Option Value)} {oc_find_segment kV_find_segment dc_find_segment pm_find_segment cd_find_segment ct_find_segment : Value}
    {f_can_load : Addr} {od_can_load an_can_load : Option Addr} {sl_can_load : Array (Option Value)} {oc_can_load kV_can_load dc_can_load pm_can_load cd_can_load ct_can_load : Value}
    {f_can_store : Addr} {od_can_store an_can_store : Option Addr} {sl_can_store : Array (Option Value)} {oc_can_store kV_can_store dc_can_store pm_can_store cd_can_store ct_can_store : Value}
    {f_can_fetch : Addr} {od_can_fetch an_can_fetch : Option Addr} {sl_can_fetch : Array (Option Value)} {oc_can_fetch kV_can_fetch dc_can_fetch pm_can_fetch cd_can_fetch ct_can_fetch : Value}
    {f_load_word : Addr} {od_load_word an_load_word : Option Addr} {sl_load_word : Array (Option Value)} {oc_load_word kV_load_word dc_load_word pm_load_word cd_load_word ct_load_word : Value}
    {f_store_word : Addr} {od_store_word an_store_word : Option Addr} {sl_store_word : Array (Option Value)} {oc_store_word kV_store_word dc_store_word pm_store_word cd_store_word ct_store_word : Value}
    {f_put_bytes : Addr} {od_put_bytes an_put_bytes : Option Addr} {sl_put_bytes : Array (Option Value)} {oc_put_bytes kV_put_bytes dc_put_bytes pm_put_bytes cd_put_bytes ct_put_bytes : Value}
    {f_first_memory : Addr} {od_first_memory an_first_memory : Option Addr} {sl_first_memory : Array (Option Value)} {oc_first_memory kV_first_memory dc_first_memory pm_first_memory cd_first_memory ct_first_memory : Value}
    {f_word_at : Addr} {od_word_at an_word_at : Option Addr} {sl_word_at : Array (Option Value)} {oc_word_at kV_word_at dc_word_at pm_word_at cd_word_at ct_word_at : Value}
    {f_law_draw : Addr} {od_law_draw an_law_draw : Option Addr} {sl_law_draw : Array (Option Value)} {oc_law_draw kV_law_draw dc_law_draw pm_law_draw cd_law_draw ct_law_draw : Value}
    {f_law_take : Addr} {od_law_take an_law_take : Option Addr} {sl_law_take : Array (Option Value)} {oc_law_take kV_law_take dc_law_take pm_law_take cd_law_take ct_law_take : Value}
    {f_law_ops : Addr} {od_law_ops an_law_ops : Option Addr} {sl_law_ops : Array (Option Value)} {oc_law_ops kV_law_ops dc_law_ops pm_law_ops cd_law_ops ct_law_ops : Value}
    {f_law_word : Addr} {od_law_word an_law_word : Option Addr} {sl_law_word : Array (Option Value)} {oc_law_word kV_law_word dc_law_word pm_law_word cd_law_word ct_law_word : Value}
    {f_law_bytes : Addr} {od_law_bytes an_law_bytes : Option Addr} {sl_law_bytes : Array (Option Value)} {oc_law_bytes kV_law_bytes dc_law_bytes pm_law_bytes cd_law_bytes ct_law_bytes : Value}
    {f_law_label : Addr} {od_law_label an_law_label : Option Addr} {sl_law_label : Array (Option Value)} {oc_law_label kV_law_label dc_law_label pm_law_label cd_law_label ct_law_label : Value}
    {f_law_here : Addr} {od_law_here an_law_here : Option Addr} {sl_law_here : Array (Option Value)} {oc_law_here kV_law_here dc_law_here pm_law_here cd_law_here ct_law_here : Value}
    {f_law_put_word : Addr} {od_law_put_word an_law_put_word : Option Addr} {sl_law_put_word : Array (Option Value)} {oc_law_put_word kV_law_put_word dc_law_put_word pm_law_put_word cd_law_put_word ct_law_put_word : Value}
    {f_law_some : Addr} {od_law_some an_law_some : Option Addr} {sl_law_some : Array (Option Value)} {oc_law_some kV_law_some dc_law_some pm_law_some cd_law_some ct_law_some : Value}
    {f_law_register : Addr} {od_law_register an_law_register : Option Addr} {sl_law_register : Array (Option Value)} {oc_law_register kV_law_register dc_law_register pm_law_register cd_law_register ct_law_register : Value}
    {f_law_set : Addr} {od_law_set an_law_set : Option Addr} {sl_law_set : Array (Option Value)} {oc_law_set kV_law_set dc_law_set pm_law_set cd_law_set ct_law_set : Value}
    {f_law_alu : Addr} {od_law_alu an_law_alu : Option Addr} {sl_law_alu : Array (Option Value)} {oc_law_alu kV_law_alu dc_law_alu pm_law_alu cd_law_alu ct_law_alu : Value}
    {f_law_memory : Addr} {od_law_memory an_law_memory : Option Addr} {sl_law_memory : Array (Option Value)} {oc_law_memory kV_law_memory dc_law_memory pm_law_memory cd_law_memory ct_law_memory : Value}
    {f_law_if : Addr} {od_law_if an_law_if : Option Addr} {sl_law_if : Array (Option Value)} {oc_law_if kV_law_if dc_law_if pm_law_if cd_law_if ct_law_if : Value}
    {f_law_loop : Addr} {od_law_loop an_law_loop : Option Addr} {sl_law_loop : Array (Option Value)} {oc_law_loop kV_law_loop dc_law_loop pm_law_loop cd_law_loop ct_law_loop : Value}
    {f_law_call : Addr} {od_law_call an_law_call : Option Addr} {sl_law_call : Array (Option Value)} {oc_law_call kV_law_call dc_law_call pm_law_call cd_law_call ct_law_call : Value}
    {f_law_switch : Addr} {od_law_switch an_law_switch : Option Addr} {sl_law_switch : Array (Option Value)} {oc_law_switch kV_law_switch dc_law_switch pm_law_switch cd_law_switch ct_law_switch : Value}
    {f_law_rows : Addr} {od_law_rows an_law_rows : Option Addr} {sl_law_rows : Array (Option Value)} {oc_law_rows kV_law_rows dc_law_rows pm_law_rows cd_law_rows ct_law_rows : Value}
    {f_law_odd : Addr} {od_law_odd an_law_odd : Option Addr} {sl_law_odd : Array (Option Value)} {oc_law_odd kV_law_odd dc_law_odd pm_law_odd cd_law_odd ct_law_odd : Value}
    {f_law_code_words : Addr} {od_law_code_words an_law_code_words : Option Addr} {sl_law_code_words : Array (Option Value)} {oc_law_code_words kV_law_code_words dc_law_code_words pm_law_code_words cd_law_code_words ct_law_code_words : Value}
    {f_law_values : Addr} {od_law_values an_law_values : Option Addr} {sl_law_values : Array (Option Value)} {oc_law_values kV_law_values dc_law_values pm_law_values cd_law_values ct_law_values : Value}
    {f_law_image : Addr} {od_law_image an_law_image : Option Addr} {sl_law_image : Array (Option Value)} {oc_law_image kV_law_image dc_law_image pm_law_image cd_law_image ct_law_image : Value}
    {f_law_home : Addr} {od_law_home an_law_home : Option Addr} {sl_law_home : Array (Option Value)} {oc_law_home kV_law_home dc_law_home pm_law_home cd_law_home ct_law_home : Value}
    {f_law_address : Addr} {od_law_address an_law_address : Option Addr} {sl_law_address : Array (Option Value)} {oc_law_address kV_law_address dc_law_address pm_law_address cd_law_address ct_law_address : Value}
    {f_law_access_right : Addr} {od_law_access_right an_law_access_right : Option Addr} {sl_law_access_right : Array (Option Value)} {oc_law_access_right kV_law_access_right dc_law_access_right pm_law_access_right cd_law_access_right ct_law_access_right : Value}
    {f_law : Addr} {od_law an_law : Option Addr} {sl_law : Array (Option Value)} {oc_law kV_law dc_law pm_law cd_law ct_law : Value}
    (a_find_segment : PySem.W.nsIn K mainGlobals "find_segment" = some (some (.ref f_find_segment))) (l_find_segment : K.lookup f_find_segment = some ⟨oc_find_segment, od_find_segment, .func (PySem.W.fnOf "find_segment" "find_segment" (defArgs s_find_segment) (defBody s_find_segment) (defScope s_find_segment) .none kV_find_segment dc_find_segment pm_find_segment an_find_segment cd_find_segment ct_find_segment), sl_find_segment⟩) (cc_find_segment : PySem.W.codeIn K cd_find_segment "find_segment" = true) (kk_find_segment : PySem.W.keepIn K (.ref f_find_segment) = true)
    (a_can_load : PySem.W.nsIn K mainGlobals "can_load" = some (some (.ref f_can_load))) (l_can_load : K.lookup f_can_load = some ⟨oc_can_load, od_can_load, .func (PySem.W.fnOf "can_load" "can_load" (defArgs s_can_load) (defBody s_can_load) (defScope s_can_load) .none kV_can_load dc_can_load pm_can_load an_can_load cd_can_load ct_can_load), sl_can_load⟩) (cc_can_load : PySem.W.codeIn K cd_can_load "can_load" = true) (kk_can_load : PySem.W.keepIn K (.ref f_can_load) = true)
    (a_can_store : PySem.W.nsIn K mainGlobals "can_store" = some (some (.ref f_can_store))) (l_can_store : K.lookup f_can_store = some ⟨oc_can_store, od_can_store, .func (PySem.W.fnOf "can_store" "can_store" (defArgs s_can_store) (defBody s_can_store) (defScope s_can_store) .none kV_can_store dc_can_store pm_can_store an_can_store cd_can_store ct_can_store), sl_can_store⟩) (cc_can_store : PySem.W.codeIn K cd_can_store "can_store" = true) (kk_can_store : PySem.W.keepIn K (.ref f_can_store) = true)
    (a_can_fetch : PySem.W.nsIn K mainGlobals "can_fetch" = some (some (.ref f_can_fetch))) (l_can_fetch : K.lookup f_can_fetch = some ⟨oc_can_fetch, od_can_fetch, .func (PySem.W.fnOf "can_fetch" "can_fetch" (defArgs s_can_fetch) (defBody s_can_fetch) (defScope s_can_fetch) .none kV_can_fetch dc_can_fetch pm_can_fetch an_can_fetch cd_can_fetch ct_can_fetch), sl_can_fetch⟩) (cc_can_fetch : PySem.W.codeIn K cd_can_fetch "can_fetch" = true) (kk_can_fetch : PySem.W.keepIn K (.ref f_can_fetch) = true)
    (a_load_word : PySem.W.nsIn K mainGlobals "load_word" = some (some (.ref f_load_word))) (l_load_word : K.lookup f_load_word = some ⟨oc_load_word, od_load_word, .func (PySem.W.fnOf "load_word" "load_word" (defArgs s_load_word) (defBody s_load_word) (defScope s_load_word) .none kV_load_word dc_load_word pm_load_word an_load_word cd_load_word ct_load_word), sl_load_word⟩) (cc_load_word : PySem.W.codeIn K cd_load_word "load_word" = true) (kk_load_word : PySem.W.keepIn K (.ref f_load_word) = true)
    (a_store_word : PySem.W.nsIn K mainGlobals "store_word" = some (some (.ref f_store_word))) (l_store_word : K.lookup f_store_word = some ⟨oc_store_word, od_store_word, .func (PySem.W.fnOf "store_word" "store_word" (defArgs s_store_word) (defBody s_store_word) (defScope s_store_word) .none kV_store_word dc_store_word pm_store_word an_store_word cd_store_word ct_store_word), sl_store_word⟩) (cc_store_word : PySem.W.codeIn K cd_store_word "store_word" = true) (kk_store_word : PySem.W.keepIn K (.ref f_store_word) = true)
    (a_put_bytes : PySem.W.nsIn K mainGlobals "put_bytes" = some (some (.ref f_put_bytes))) (l_put_bytes : K.lookup f_put_bytes = some ⟨oc_put_bytes, od_put_bytes, .func (PySem.W.fnOf "put_bytes" "put_bytes" (defArgs s_put_bytes) (defBody s_put_bytes) (defScope s_put_bytes) .none kV_put_bytes dc_put_bytes pm_put_bytes an_put_bytes cd_put_bytes ct_put_bytes), sl_put_bytes⟩) (cc_put_bytes : PySem.W.codeIn K cd_put_bytes "put_bytes" = true) (kk_put_bytes : PySem.W.keepIn K (.ref f_put_bytes) = true)
    (a_first_memory : PySem.W.nsIn K mainGlobals "first_memory" = some (some (.ref f_first_memory))) (l_first_memory : K.lookup f_first_memory = some ⟨oc_first_memory, od_first_memory, .func (PySem.W.fnOf "first_memory" "first_memory" (defArgs s_first_memory) (defBody s_first_memory) (defScope s_first_memory) .none kV_first_memory dc_first_memory pm_first_memory an_first_memory cd_first_memory ct_first_memory), sl_first_memory⟩) (cc_first_memory : PySem.W.codeIn K cd_first_memory "first_memory" = true) (kk_first_memory : PySem.W.keepIn K (.ref f_first_memory) = true)
    (a_word_at : PySem.W.nsIn K mainGlobals "word_at" = some (some (.ref f_word_at))) (l_word_at : K.lookup f_word_at = some ⟨oc_word_at, od_word_at, .func (PySem.W.fnOf "word_at" "word_at" (defArgs s_word_at) (defBody s_word_at) (defScope s_word_at) .none kV_word_at dc_word_at pm_word_at an_word_at cd_word_at ct_word_at), sl_word_at⟩) (cc_word_at : PySem.W.codeIn K cd_word_at "word_at" = true) (kk_word_at : PySem.W.keepIn K (.ref f_word_at) = true)
    (a_law_draw : PySem.W.nsIn K mainGlobals "_law_draw" = some (some (.ref f_law_draw))) (l_law_draw : K.lookup f_law_draw = some ⟨oc_law_draw, od_law_draw, .func (PySem.W.fnOf "_law_draw" "_law_draw" (defArgs s_law_draw) (defBody s_law_draw) (defScope s_law_draw) .none kV_law_draw dc_law_draw pm_law_draw an_law_draw cd_law_draw ct_law_draw), sl_law_draw⟩) (cc_law_draw : PySem.W.codeIn K cd_law_draw "_law_draw" = true) (kk_law_draw : PySem.W.keepIn K (.ref f_law_draw) = true)
    (a_law_take : PySem.W.nsIn K mainGlobals "_law_take" = some (some (.ref f_law_take))) (l_law_take : K.lookup f_law_take = some ⟨oc_law_take, od_law_take, .func (PySem.W.fnOf "_law_take" "_law_take" (defArgs s_law_take) (defBody s_law_take) (defScope s_law_take) .none kV_law_take dc_law_take pm_law_take an_law_take cd_law_take ct_law_take), sl_law_take⟩) (cc_law_take : PySem.W.codeIn K cd_law_take "_law_take" = true) (kk_law_take : PySem.W.keepIn K (.ref f_law_take) = true)
    (a_law_ops : PySem.W.nsIn K mainGlobals "_law_ops" = some (some (.ref f_law_ops))) (l_law_ops : K.lookup f_law_ops = some ⟨oc_law_ops, od_law_ops, .func (PySem.W.fnOf "_law_ops" "_law_ops" (defArgs s_law_ops) (defBody s_law_ops) (defScope s_law_ops) .none kV_law_ops dc_law_ops pm_law_ops an_law_ops cd_law_ops ct_law_ops), sl_law_ops⟩) (cc_law_ops : PySem.W.codeIn K cd_law_ops "_law_ops" = true) (kk_law_ops : PySem.W.keepIn K (.ref f_law_ops) = true)
    (a_law_word : PySem.W.nsIn K mainGlobals "_law_word" = some (some (.ref f_law_word))) (l_law_word : K.lookup f_law_word = some ⟨oc_law_word, od_law_word, .func (PySem.W.fnOf "_law_word" "_law_word" (defArgs s_law_word) (defBody s_law_word) (defScope s_law_word) .none kV_law_word dc_law_word pm_law_word an_law_word cd_law_word ct_law_word), sl_law_word⟩) (cc_law_word : PySem.W.codeIn K cd_law_word "_law_word" = true) (kk_law_word : PySem.W.keepIn K (.ref f_law_word) = true)
    (a_law_bytes : PySem.W.nsIn K mainGlobals "_law_bytes" = some (some (.ref f_law_bytes))) (l_law_bytes : K.lookup f_law_bytes = some ⟨oc_law_bytes, od_law_bytes, .func (PySem.W.fnOf "_law_bytes" "_law_bytes" (defArgs s_law_bytes) (defBody s_law_bytes) (defScope s_law_bytes) .none kV_law_bytes dc_law_bytes pm_law_bytes an_law_bytes cd_law_bytes ct_law_bytes), sl_law_bytes⟩) (cc_law_bytes : PySem.W.codeIn K cd_law_bytes "_law_bytes" = true) (kk_law_bytes : PySem.W.keepIn K (.ref f_law_bytes) = true)
    (a_law_label : PySem.W.nsIn K mainGlobals "_law_label" = some (some (.ref f_law_label))) (l_law_label : K.lookup f_law_label = some ⟨oc_law_label, od_law_label, .func (PySem.W.fnOf "_law_label" "_law_label" (defArgs s_law_label) (defBody s_law_label) (defScope s_law_label) .none kV_law_label dc_law_label pm_law_label an_law_label cd_law_label ct_law_label), sl_law_label⟩) (cc_law_label : PySem.W.codeIn K cd_law_label "_law_label" = true) (kk_law_label : PySem.W.keepIn K (.ref f_law_label) = true)
    (a_law_here : PySem.W.nsIn K mainGlobals "_law_here" = some (some (.ref f_law_here))) (l_law_here : K.lookup f_law_here = some ⟨oc_law_here, od_law_here, .func (PySem.W.fnOf "_law_here" "_law_here" (defArgs s_law_here) (defBody s_law_here) (defScope s_law_here) .none kV_law_here dc_law_here pm_law_here an_law_here cd_law_here ct_law_here), sl_law_here⟩) (cc_law_here : PySem.W.codeIn K cd_law_here "_law_here" = true) (kk_law_here : PySem.W.keepIn K (.ref f_law_here) = true)
    (a_law_put_word : PySem.W.nsIn K mainGlobals "_law_put_word" = some (some (.ref f_law_put_word))) (l_law_put_word : K.lookup f_law_put_word = some ⟨oc_law_put_word, od_law_put_word, .func (PySem.W.fnOf "_law_put_word" "_law_put_word" (defArgs s_law_put_word) (defBody s_law_put_word) (defScope s_law_put_word) .none kV_law_put_word dc_law_put_word pm_law_put_word an_law_put_word cd_law_put_word ct_law_put_word), sl_law_put_word⟩) (cc_law_put_word : PySem.W.codeIn K cd_law_put_word "_law_put_word" = true) (kk_law_put_word : PySem.W.keepIn K (.ref f_law_put_word) = true)
    (a_law_some : PySem.W.nsIn K mainGlobals "_law_some" = some (some (.ref f_law_some))) (l_law_some : K.lookup f_law_some = some ⟨oc_law_some, od_law_some, .func (PySem.W.fnOf "_law_some" "_law_some" (defArgs s_law_some) (defBody s_law_some) (defScope s_law_some) .none kV_law_some dc_law_some pm_law_some an_law_some cd_law_some ct_law_some), sl_law_some⟩) (cc_law_some : PySem.W.codeIn K cd_law_some "_law_some" = true) (kk_law_some : PySem.W.keepIn K (.ref f_law_some) = true)
    (a_law_register : PySem.W.nsIn K mainGlobals "_law_register" = some (some (.ref f_law_register))) (l_law_register : K.lookup f_law_register = some ⟨oc_law_register, od_law_register, .func (PySem.W.fnOf "_law_register" "_law_register" (defArgs s_law_register) (defBody s_law_register) (defScope s_law_register) .none kV_law_register dc_law_register pm_law_register an_law_register cd_law_register ct_law_register), sl_law_register⟩) (cc_law_register : PySem.W.codeIn K cd_law_register "_law_register" = true) (kk_law_register : PySem.W.keepIn K (.ref f_law_register) = true)
    (a_law_set : PySem.W.nsIn K mainGlobals "_law_set" = some (some (.ref f_law_set))) (l_law_set : K.lookup f_law_set = some ⟨oc_law_set, od_law_set, .func (PySem.W.fnOf "_law_set" "_law_set" (defArgs s_law_set) (defBody s_law_set) (defScope s_law_set) .none kV_law_set dc_law_set pm_law_set an_law_set cd_law_set ct_law_set), sl_law_set⟩) (cc_law_set : PySem.W.codeIn K cd_law_set "_law_set" = true) (kk_law_set : PySem.W.keepIn K (.ref f_law_set) = true)
    (a_law_alu : PySem.W.nsIn K mainGlobals "_law_alu" = some (some (.ref f_law_alu))) (l_law_alu : K.lookup f_law_alu = some ⟨oc_law_alu, od_law_alu, .func (PySem.W.fnOf "_law_alu" "_law_alu" (defArgs s_law_alu) (defBody s_law_alu) (defScope s_law_alu) .none kV_law_alu dc_law_alu pm_law_alu an_law_alu cd_law_alu ct_law_alu), sl_law_alu⟩) (cc_law_alu : PySem.W.codeIn K cd_law_alu "_law_alu" = true) (kk_law_alu : PySem.W.keepIn K (.ref f_law_alu) = true)
    (a_law_memory : PySem.W.nsIn K mainGlobals "_law_memory" = some (some (.ref f_law_memory))) (l_law_memory : K.lookup f_law_memory = some ⟨oc_law_memory, od_law_memory, .func (PySem.W.fnOf "_law_memory" "_law_memory" (defArgs s_law_memory) (defBody s_law_memory) (defScope s_law_memory) .none kV_law_memory dc_law_memory pm_law_memory an_law_memory cd_law_memory ct_law_memory), sl_law_memory⟩) (cc_law_memory : PySem.W.codeIn K cd_law_memory "_law_memory" = true) (kk_law_memory : PySem.W.keepIn K (.ref f_law_memory) = true)
    (a_law_if : PySem.W.nsIn K mainGlobals "_law_if" = some (some (.ref f_law_if))) (l_law_if : K.lookup f_law_if = some ⟨oc_law_if, od_law_if, .func (PySem.W.fnOf "_law_if" "_law_if" (defArgs s_law_if) (defBody s_law_if) (defScope s_law_if) .none kV_law_if dc_law_if pm_law_if an_law_if cd_law_if ct_law_if), sl_law_if⟩) (cc_law_if : PySem.W.codeIn K cd_law_if "_law_if" = true) (kk_law_if : PySem.W.keepIn K (.ref f_law_if) = true)
    (a_law_loop : PySem.W.nsIn K mainGlobals "_law_loop" = some (some (.ref f_law_loop))) (l_law_loop : K.lookup f_law_loop = some ⟨oc_law_loop, od_law_loop, .func (PySem.W.fnOf "_law_loop" "_law_loop" (defArgs s_law_loop) (defBody s_law_loop) (defScope s_law_loop) .none kV_law_loop dc_law_loop pm_law_loop an_law_loop cd_law_loop ct_law_loop), sl_law_loop⟩) (cc_law_loop : PySem.W.codeIn K cd_law_loop "_law_loop" = true) (kk_law_loop : PySem.W.keepIn K (.ref f_law_loop) = true)
    (a_law_call : PySem.W.nsIn K mainGlobals "_law_call" = some (some (.ref f_law_call))) (l_law_call : K.lookup f_law_call = some ⟨oc_law_call, od_law_call, .func (PySem.W.fnOf "_law_call" "_law_call" (defArgs s_law_call) (defBody s_law_call) (defScope s_law_call) .none kV_law_call dc_law_call pm_law_call an_law_call cd_law_call ct_law_call), sl_law_call⟩) (cc_law_call : PySem.W.codeIn K cd_law_call "_law_call" = true) (kk_law_call : PySem.W.keepIn K (.ref f_law_call) = true)
    (a_law_switch : PySem.W.nsIn K mainGlobals "_law_switch" = some (some (.ref f_law_switch))) (l_law_switch : K.lookup f_law_switch = some ⟨oc_law_switch, od_law_switch, .func (PySem.W.fnOf "_law_switch" "_law_switch" (defArgs s_law_switch) (defBody s_law_switch) (defScope s_law_switch) .none kV_law_switch dc_law_switch pm_law_switch an_law_switch cd_law_switch ct_law_switch), sl_law_switch⟩) (cc_law_switch : PySem.W.codeIn K cd_law_switch "_law_switch" = true) (kk_law_switch : PySem.W.keepIn K (.ref f_law_switch) = true)
    (a_law_rows : PySem.W.nsIn K mainGlobals "_law_rows" = some (some (.ref f_law_rows))) (l_law_rows : K.lookup f_law_rows = some ⟨oc_law_rows, od_law_rows, .func (PySem.W.fnOf "_law_rows" "_law_rows" (defArgs s_law_rows) (defBody s_law_rows) (defScope s_law_rows) .none kV_law_rows dc_law_rows pm_law_rows an_law_rows cd_law_rows ct_law_rows), sl_law_rows⟩) (cc_law_rows : PySem.W.codeIn K cd_law_rows "_law_rows" = true) (kk_law_rows : PySem.W.keepIn K (.ref f_law_rows) = true)
    (a_law_odd : PySem.W.nsIn K mainGlobals "_law_odd" = some (some (.ref f_law_odd))) (l_law_odd : K.lookup f_law_odd = some ⟨oc_law_odd, od_law_odd, .func (PySem.W.fnOf "_law_odd" "_law_odd" (defArgs s_law_odd) (defBody s_law_odd) (defScope s_law_odd) .none kV_law_odd dc_law_odd pm_law_odd an_law_odd cd_law_odd ct_law_odd), sl_law_odd⟩) (cc_law_odd : PySem.W.codeIn K cd_law_odd "_law_odd" = true) (kk_law_odd : PySem.W.keepIn K (.ref f_law_odd) = true)
    (a_law_code_words : PySem.W.nsIn K mainGlobals "_law_code_words" = some (some (.ref f_law_code_words))) (l_law_code_words : K.lookup f_law_code_words = some ⟨oc_law_code_words, od_law_code_words, .func (PySem.W.fnOf "_law_code_words" "_law_code_words" (defArgs s_law_code_words) (defBody s_law_code_words) (defScope s_law_code_words) .none kV_law_code_words dc_law_code_words pm_law_code_words an_law_code_words cd_law_code_words ct_law_code_words), sl_law_code_words⟩) (cc_law_code_words : PySem.W.codeIn K cd_law_code_words "_law_code_words" = true) (kk_law_code_words : PySem.W.keepIn K (.ref f_law_code_words) = true)
    (a_law_values : PySem.W.nsIn K mainGlobals "_law_values" = some (some (.ref f_law_values))) (l_law_values : K.lookup f_law_values = some ⟨oc_law_values, od_law_values, .func (PySem.W.fnOf "_law_values" "_law_values" (defArgs s_law_values) (defBody s_law_values) (defScope s_law_values) .none kV_law_values dc_law_values pm_law_values an_law_values cd_law_values ct_law_values), sl_law_values⟩) (cc_law_values : PySem.W.codeIn K cd_law_values "_law_values" = true) (kk_law_values : PySem.W.keepIn K (.ref f_law_values) = true)
    (a_law_image : PySem.W.nsIn K mainGlobals "_law_image" = some (some (.ref f_law_image))) (l_law_image : K.lookup f_law_image = some ⟨oc_law_image, od_law_image, .func (PySem.W.fnOf "_law_image" "_law_image" (defArgs s_law_image) (defBody s_law_image) (defScope s_law_image) .none kV_law_image dc_law_image pm_law_image an_law_image cd_law_image ct_law_image), sl_law_image⟩) (cc_law_image : PySem.W.codeIn K cd_law_image "_law_image" = true) (kk_law_image : PySem.W.keepIn K (.ref f_law_image) = true)
    (a_law_home : PySem.W.nsIn K mainGlobals "_law_home" = some (some (.ref f_law_home))) (l_law_home : K.lookup f_law_home = some ⟨oc_law_home, od_law_home, .func (PySem.W.fnOf "_law_home" "_law_home" (defArgs s_law_home) (defBody s_law_home) (defScope s_law_home) .none kV_law_home dc_law_home pm_law_home an_law_home cd_law_home ct_law_home), sl_law_home⟩) (cc_law_home : PySem.W.codeIn K cd_law_home "_law_home" = true) (kk_law_home : PySem.W.keepIn K (.ref f_law_home) = true)
    (a_law_address : PySem.W.nsIn K mainGlobals "_law_address" = some (some (.ref f_law_address))) (l_law_address : K.lookup f_law_address = some ⟨oc_law_address, od_law_address, .func (PySem.W.fnOf "_law_address" "_law_address" (defArgs s_law_address) (defBody s_law_address) (defScope s_law_address) .none kV_law_address dc_law_address pm_law_address an_law_address cd_law_address ct_law_address), sl_law_address⟩) (cc_law_address : PySem.W.codeIn K cd_law_address "_law_address" = true) (kk_law_address : PySem.W.keepIn K (.ref f_law_address) = true)
    (a_law_access_right : PySem.W.nsIn K mainGlobals "_law_access_right" = some (some (.ref f_law_access_right))) (l_law_access_right : K.lookup f_law_access_right = some ⟨oc_law_access_right, od_law_access_right, .func (PySem.W.fnOf "_law_access_right" "_law_access_right" (defArgs s_law_access_right) (defBody s_law_access_right) (defScope s_law_access_right) .none kV_law_access_right dc_law_access_right pm_law_access_right an_law_access_right cd_law_access_right ct_law_access_right), sl_law_access_right⟩) (cc_law_access_right : PySem.W.codeIn K cd_law_access_right "_law_access_right" = true) (kk_law_access_right : PySem.W.keepIn K (.ref f_law_access_right) = true)
    (a_law : PySem.W.nsIn K mainGlobals "law" = some (some (.ref f_law))) (l_law : K.lookup f_law = some ⟨oc_law, od_law, .func (PySem.W.fnOf "law" "law" (defArgs s_law) (defBody s_law) (defScope s_law) .none kV_law dc_law pm_law an_law cd_law ct_law), sl_law⟩) (cc_law : PySem.W.codeIn K cd_law "law" = true) (kk_law : PySem.W.keepIn K (.ref f_law) = true)
    (z_abs : PySem.W.nsIn K mainGlobals "abs" = some none)
    (z_enumerate : PySem.W.nsIn K mainGlobals "enumerate" = some none)
    (z_int : PySem.W.nsIn K mainGlobals "int" = some none)
    (z_isinstance : PySem.W.nsIn K mainGlobals "isinstance" = some none)
    (z_len : PySem.W.nsIn K mainGlobals "len" = some none)
    (z_list : PySem.W.nsIn K mainGlobals "list" = some none)
    (z_max : PySem.W.nsIn K mainGlobals "max" = some none)
    (z_min : PySem.W.nsIn K mainGlobals "min" = some none)
    (z_range : PySem.W.nsIn K mainGlobals "range" = some none)
    (z_repr : PySem.W.nsIn K mainGlobals "repr" = some none)
    (z_tuple : PySem.W.nsIn K mainGlobals "tuple" = some none)
     : 
    ∃ fd : FuncData, (∀ (s : Shared) (v : Value), BindsTo s fd ⟨[v], []⟩ [("script", v)]) ∧ ∀ base : Heap, K.In base → base.Ns mainGlobals mg → RunG l.prog w K mg base fa fd "script" (spLaw K) := by
  have e := hfa.symm.trans (PySem.W.mg_of X G a_law)
  cases e
  have Z_find_segment : St1 K mg "find_segment" s_find_segment ["image", "address", "count"] := mkSt1 X G a_find_segment l_find_segment cc_find_segment kk_find_segment (fun _ _ _ _ _ _ us hl => match us, hl with | [_, _, _], _ => rfl)
  have Z_can_load : St1 K mg "can_load" s_can_load ["image", "address", "count"] := mkSt1 X G a_can_load l_can_load cc_can_load kk_can_load (fun _ _ _ _ _ _ us hl => match us, hl with | [_, _, _], _ => rfl)
  have Z_can_store : St1 K mg "can_store" s_can_store ["image", "address", "count"] := mkSt1 X G a_can_store l_can_store cc_can_store kk_can_store (fun _ _ _ _ _ _ us hl => match us, hl with | [_, _, _], _ => rfl)
  have Z_can_fetch : St1 K mg "can_fetch" s_can_fetch ["image", "address"] := mkSt1 X G a_can_fetch l_can_fetch cc_can_fetch kk_can_fetch (fun _ _ _ _ _ _ us hl => match us, hl with | [_, _], _ => rfl)
  have Z_load_word : St1 K mg "load_word" s_load_word ["image", "memory", "address", "count"] := mkSt1 X G a_load_word l_load_word cc_load_word kk_load_word (fun _ _ _ _ _ _ us hl => match us, hl with | [_, _, _, _], _ => rfl)
  have Z_store_word : St1 K mg "store_word" s_store_word ["image", "memory", "address", "count", "value"] := mkSt1 X G a_store_word l_store_word cc_store_word kk_store_word (fun _ _ _ _ _ _ us hl => match us, hl with | [_, _, _, _, _], _ => rfl)
  have Z_put_bytes : St1 K mg "put_bytes" s_put_bytes ["values", "offset", "count", "value"] := mkSt1 X G a_put_bytes l_put_bytes cc_put_bytes kk_put_bytes (fun _ _ _ _ _ _ us hl => match us, hl with | [_, _, _, _], _ => rfl)
  have Z_first_memory : St1 K mg "first_memory" s_first_memory ["image"] := mkSt1 X G a_first_memory l_first_memory cc_first_memory kk_first_memory (fun _ _ _ _ _ _ us hl => match us, hl with | [_], _ => rfl)
  have Z_word_at : St1 K mg "word_at" s_word_at ["image", "address"] := mkSt1 X G a_word_at l_word_at cc_word_at kk_word_at (fun _ _ _ _ _ _ us hl => match us, hl with | [_, _], _ => rfl)
  have Z_law_draw : St1 K mg "_law_draw" s_law_draw ["script"] := mkSt1 X G a_law_draw l_law_draw cc_law_draw kk_law_draw (fun _ _ _ _ _ _ us hl => match us, hl with | [_], _ => rfl)
  have Z_law_take : St1 K mg "_law_take" s_law_take ["draw", "many"] := mkSt1 X G a_law_take l_law_take cc_law_take kk_law_take (fun _ _ _ _ _ _ us hl => match us, hl with | [_, _], _ => rfl)
  have Z_law_ops : St1 K mg "_law_ops" s_law_ops [] := mkSt1 X G a_law_ops l_law_ops cc_law_ops kk_law_ops (fun _ _ _ _ _ _ us hl => match us, hl with | [], _ => rfl)
  have Z_law_word : St1 K mg "_law_word" s_law_word ["row"] := mkSt1 X G a_law_word l_law_word cc_law_word kk_law_word (fun _ _ _ _ _ _ us hl => match us, hl with | [_], _ => rfl)
  have Z_law_bytes : St1 K mg "_law_bytes" s_law_bytes ["word"] := mkSt1 X G a_law_bytes l_law_bytes cc_law_bytes kk_law_bytes (fun _ _ _ _ _ _ us hl => match us, hl with | [_], _ => rfl)
  have Z_law_label : St1 K mg "_law_label" s_law_label ["p"] := mkSt1 X G a_law_label l_law_label cc_law_label kk_law_label (fun _ _ _ _ _ _ us hl => match us, hl with | [_], _ => rfl)
  have Z_law_here : St1 K mg "_law_here" s_law_here ["p", "label"] := mkSt1 X G a_law_here l_law_here cc_law_here kk_law_here (fun _ _ _ _ _ _ us hl => match us, hl with | [_, _], _ => rfl)
  have Z_law_put_word : St1 K mg "_law_put_word" s_law_put_word ["p", "row"] := mkSt1 X G a_law_put_word l_law_put_word cc_law_put_word kk_law_put_word (fun _ _ _ _ _ _ us hl => match us, hl with | [_, _], _ => rfl)
  have Z_law_some : St1 K mg "_law_some" s_law_some ["p", "many"] := mkSt1 X G a_law_some l_law_some cc_law_some kk_law_some (fun _ _ _ _ _ _ us hl => match us, hl with | [_, _], _ => rfl)
  have Z_law_register : St1 K mg "_law_register" s_law_register ["p"] := mkSt1 X G a_law_register l_law_register cc_law_register kk_law_register (fun _ _ _ _ _ _ us hl => match us, hl with | [_], _ => rfl)
  have Z_law_set : St1 K mg "_law_set" s_law_set ["p", "number", "value"] := mkSt1 X G a_law_set l_law_set cc_law_set kk_law_set (fun _ _ _ _ _ _ us hl => match us, hl with | [_, _, _], _ => rfl)
  have Z_law_alu : St1 K mg "_law_alu" s_law_alu ["p"] := mkSt1 X G a_law_alu l_law_alu cc_law_alu kk_law_alu (fun _ _ _ _ _ _ us hl => match us, hl with | [_], _ => rfl)
  have Z_law_memory : St1 K mg "_law_memory" s_law_memory ["p"] := mkSt1 X G a_law_memory l_law_memory cc_law_memory kk_law_memory (fun _ _ _ _ _ _ us hl => match us, hl with | [_], _ => rfl)
  have Z_law_if : St1 K mg "_law_if" s_law_if ["p", "depth"] := mkSt1 X G a_law_if l_law_if cc_law_if kk_law_if (fun _ _ _ _ _ _ us hl => match us, hl with | [_, _], _ => rfl)
  have Z_law_loop : St1 K mg "_law_loop" s_law_loop ["p", "depth"] := mkSt1 X G a_law_loop l_law_loop cc_law_loop kk_law_loop (fun _ _ _ _ _ _ us hl => match us, hl with | [_, _], _ => rfl)
  have Z_law_call : St1 K mg "_law_call" s_law_call ["p"] := mkSt1 X G a_law_call l_law_call cc_law_call kk_law_call (fun _ _ _ _ _ _ us hl => match us, hl with | [_], _ => rfl)
  have Z_law_switch : St1 K mg "_law_switch" s_law_switch ["p", "depth"] := mkSt1 X G a_law_switch l_law_switch cc_law_switch kk_law_switch (fun _ _ _ _ _ _ us hl => match us, hl with | [_, _], _ => rfl)
  have Z_law_rows : St1 K mg "_law_rows" s_law_rows ["p", "depth"] := mkSt1 X G a_law_rows l_law_rows cc_law_rows kk_law_rows (fun _ _ _ _ _ _ us hl => match us, hl with | [_, _], _ => rfl)
  have Z_law_odd : St1 K mg "_law_odd" s_law_odd ["p"] := mkSt1 X G a_law_odd l_law_odd cc_law_odd kk_law_odd (fun _ _ _ _ _ _ us hl => match us, hl with | [_], _ => rfl)
  have Z_law_code_words : St1 K mg "_law_code_words" s_law_code_words ["p"] := mkSt1 X G a_law_code_words l_law_code_words cc_law_code_words kk_law_code_words (fun _ _ _ _ _ _ us hl => match us, hl with | [_], _ => rfl)
  have Z_law_values : St1 K mg "_law_values" s_law_values ["words"] := mkSt1 X G a_law_values l_law_values cc_law_values kk_law_values (fun _ _ _ _ _ _ us hl => match us, hl with | [_], _ => rfl)
  have Z_law_image : St1 K mg "_law_image" s_law_image ["draw", "left"] := mkSt1 X G a_law_image l_law_image cc_law_image kk_law_image (fun _ _ _ _ _ _ us hl => match us, hl with | [_, _], _ => rfl)
  have Z_law_home : St1 K mg "_law_home" s_law_home ["image", "address", "count"] := mkSt1 X G a_law_home l_law_home cc_law_home kk_law_home (fun _ _ _ _ _ _ us hl => match us, hl with | [_, _, _], _ => rfl)
  have Z_law_address : St1 K mg "_law_address" s_law_address ["draw", "image"] := mkSt1 X G a_law_address l_law_address cc_law_address kk_law_address (fun _ _ _ _ _ _ us hl => match us, hl with | [_, _], _ => rfl)
  have Z_law_access_right : St1 K mg "_law_access_right" s_law_access_right ["image", "memory", "address", "count", "value"] := mkSt1 X G a_law_access_right l_law_access_right cc_law_access_right kk_law_access_right (fun _ _ _ _ _ _ us hl => match us, hl with | [_, _, _, _, _], _ => rfl)
  have Z_law : St1 K mg "law" s_law ["script"] := mkSt1 X G a_law l_law cc_law kk_law (fun _ _ _ _ _ _ us hl => match us, hl with | [_], _ => rfl)
  have b_abs : mg "abs" = none := PySem.W.mg_none_of X G z_abs
  have b_enumerate : mg "enumerate" = none := PySem.W.mg_none_of X G z_enumerate
  have b_int : mg "int" = none := PySem.W.mg_none_of X G z_int
  have b_isinstance : mg "isinstance" = none := PySem.W.mg_none_of X G z_isinstance
  have b_len : mg "len" = none := PySem.W.mg_none_of X G z_len
  have b_list : mg "list" = none := PySem.W.mg_none_of X G z_list
  have b_max : mg "max" = none := PySem.W.mg_none_of X G z_max
  have b_min : mg "min" = none := PySem.W.mg_none_of X G z_min
  have b_range : mg "range" = none := PySem.W.mg_none_of X G z_range
  have b_repr : mg "repr" = none := PySem.W.mg_none_of X G z_repr
  have b_tuple : mg "tuple" = none := PySem.W.mg_none_of X G z_tuple
  have F_law := fun_mk (st := s_law) l_law cc_law kk_law
  refine ⟨PySem.W.fnOf "law" "law" (defArgs s_law) (defBody s_law) (defScope s_law) .none kV_law dc_law pm_law an_law cd_law ct_law, fun s v => .of_eq rfl, fun base _ _ => ?_⟩
  have c_law_draw : Cd l.prog w K mg base 1 "_law_draw" (spDraw K) := ok_draw b_int b_abs b_len Z_law_draw
  have c_law_take : Cd l.prog w K mg base 1 "_law_take" spTake := ok_take b_int b_abs b_len Z_law_take
  have c_law_put_word : Cd l.prog w K mg base 1 "_law_put_word" spPut := ok_law_put_word Z_law_put_word
  have c_law_set : Cd l.prog w K mg base 2 "_law_set" spSet := ok_law_set c_law_put_word Z_law_set
  have c_law_label : Cd l.prog w K mg base 1 "_law_label" spLabel := ok_law_label b_len Z_law_label
  have c_law_here : Cd l.prog w K mg base 1 "_law_here" spHere := ok_law_here b_len Z_law_here
  have c_law_ops : Cd l.prog w K mg base 1 "_law_ops" spOps := ok_law_ops Z_law_ops
  have c_law_some : Cd l.prog w K mg base 2 "_law_some" spSome := ok_law_some c_law_take Z_law_some
  have c_law_register : Cd l.prog w K mg base 3 "_law_register" spReg := ok_law_register c_law_some Z_law_register
  have c_law_alu : Cd l.prog w K mg base 4 "_law_alu" spOne := ok_law_alu c_law_ops c_law_some c_law_register c_law_put_word Z_law_alu
  have c_law_memory : Cd l.prog w K mg base 4 "_law_memory" spOne := ok_law_memory b_int c_law_some c_law_register c_law_put_word Z_law_memory
  have c_law_odd : Cd l.prog w K mg base 4 "_law_odd" spOne := ok_law_odd c_law_some c_law_register c_law_put_word Z_law_odd
  have c_law_call : Cd l.prog w K mg base 5 "_law_call" spCall := ok_law_call b_len c_law_some c_law_alu c_law_put_word Z_law_call
  have c_law_rows : Cd l.prog w K mg base 10 "_law_rows" (spRows 2) := ok_law_rows2 b_range b_len Z_law_if Z_law_loop Z_law_switch Z_law_rows c_law_alu c_law_memory c_law_odd c_law_call c_law_some c_law_register c_law_put_word c_law_label c_law_here
  have c_law_word : Cd l.prog w K mg base 2 "_law_word" (spWordR K) := ok_law_word b_len b_int c_law_ops Z_law_word
  have c_law_code_words : Cd l.prog w K mg base 3 "_law_code_words" spCW := ok_law_code_words b_len b_range b_isinstance b_tuple c_law_word Z_law_code_words
  have c_law_bytes : Cd l.prog w K mg base 1 "_law_bytes" spBytes := ok_law_bytes b_int Z_law_bytes
  have c_law_values : Cd l.prog w K mg base 2 "_law_values" spValues := ok_law_values b_tuple c_law_bytes Z_law_values
  have c_law_image : Cd l.prog w K mg base 11 "_law_image" spImage := ok_law_image b_len b_range b_min b_tuple c_law_take c_law_set c_law_label c_law_here c_law_rows c_law_put_word c_law_code_words c_law_values Z_law_image
  have c_law_address : Cd l.prog w K mg base 2 "_law_address" spAddr := ok_law_address b_len b_max c_law_take Z_law_address
  have c_law_home : Cd l.prog w K mg base 1 "_law_home" spHome := ok_law_home b_len b_range Z_law_home
  have c_find_segment : Cd l.prog w K mg base 1 "find_segment" spFind := ok_find_segment b_len b_enumerate Z_find_segment
  have c_can_load : Cd l.prog w K mg base 2 "can_load" spCanL := ok_can_load c_find_segment Z_can_load
  have c_can_store : Cd l.prog w K mg base 3 "can_store" (spRight Sg.wr) := ok_can_store c_find_segment c_can_load Z_can_store
  have c_load_word : Cd l.prog w K mg base 2 "load_word" spLoad := ok_load_word b_range c_find_segment Z_load_word
  have c_put_bytes : Cd l.prog w K mg base 1 "put_bytes" spPutB := ok_put_bytes b_range Z_put_bytes
  have c_store_word : Cd l.prog w K mg base 2 "store_word" (spStore K) := ok_store_word b_list b_tuple c_find_segment c_put_bytes Z_store_word
  have c_law_access_right : Cd l.prog w K mg base 4 "_law_access_right" spAcc := ok_law_access_right b_len b_int b_range b_list b_tuple c_law_home c_find_segment c_can_load c_can_store c_load_word c_store_word Z_law_access_right
  have c_can_fetch : Cd l.prog w K mg base 3 "can_fetch" (spRight4 Sg.ex) := ok_can_fetch c_find_segment c_can_load Z_can_fetch
  have c_first_memory : Cd l.prog w K mg base 1 "first_memory" spFirst := ok_first_memory b_tuple Z_first_memory
  have c_word_at : Cd l.prog w K mg base 3 "word_at" spWordAt := ok_word_at c_first_memory c_load_word Z_word_at
  exact ok_law b_int b_len b_range b_list b_tuple b_repr c_law_draw c_law_take c_law_image c_law_address c_law_access_right c_law_home c_can_fetch c_word_at F_law
end K03
open PySem PySem.W PyProof.Rows
set_option maxRecDepth 100000 in
set_option maxHeartbeats 0 in
theorem PySem.Challenge.cw_restitch_k03_accesses_of_memory_holds : PySem.Challenge.rw_restitch_k03_accesses_of_memory.Holds := by
  w_on; o_law; k_head; (case hw => w_witness2)
  k_fill
  refine Co.walk_ofG (l := PySem.Challenge.rw_restitch_k03_accesses_of_memory) (n := 63) (x := "script") (sp := fun w => K03.spLaw _) rfl (by decide) rfl (fun w h Y => PySem.W.kIn_of Y) ?F (fun _ _ a ns hl _ hS => ⟨a, ns, rfl, hS, hl, fun _ => rfl⟩)
  case F =>
    intro w mg fa h KX G hmg
    refine' K03.all_mk KX G hmg ?a_find_segment ?l_find_segment ?cc_find_segment ?kk_find_segment ?a_can_load ?l_can_load ?cc_can_load ?kk_can_load ?a_can_store ?l_can_store ?cc_can_store ?kk_can_store ?a_can_fetch ?l_can_fetch ?cc_can_fetch ?kk_can_fetch ?a_load_word ?l_load_word ?cc_load_word ?kk_load_word ?a_store_word ?l_store_word ?cc_store_word ?kk_store_word ?a_put_bytes ?l_put_bytes ?cc_put_bytes ?kk_put_bytes ?a_first_memory ?l_first_memory ?cc_first_memory ?kk_first_memory ?a_word_at ?l_word_at ?cc_word_at ?kk_word_at ?a_law_draw ?l_law_draw ?cc_law_draw ?kk_law_draw ?a_law_take ?l_law_take ?cc_law_take ?kk_law_take ?a_law_ops ?l_law_ops ?cc_law_ops ?kk_law_ops ?a_law_word ?l_law_word ?cc_law_word ?kk_law_word ?a_law_bytes ?l_law_bytes ?cc_law_bytes ?kk_law_bytes ?a_law_label ?l_law_label ?cc_law_label ?kk_law_label ?a_law_here ?l_law_here ?cc_law_here ?kk_law_here ?a_law_put_word ?l_law_put_word ?cc_law_put_word ?kk_law_put_word ?a_law_some ?l_law_some ?cc_law_some ?kk_law_some ?a_law_register ?l_law_register ?cc_law_register ?kk_law_register ?a_law_set ?l_law_set ?cc_law_set ?kk_law_set ?a_law_alu ?l_law_alu ?cc_law_alu ?kk_law_alu ?a_law_memory ?l_law_memory ?cc_law_memory ?kk_law_memory ?a_law_if ?l_law_if ?cc_law_if ?kk_law_if ?a_law_loop ?l_law_loop ?cc_law_loop ?kk_law_loop ?a_law_call ?l_law_call ?cc_law_call ?kk_law_call ?a_law_switch ?l_law_switch ?cc_law_switch ?kk_law_switch ?a_law_rows ?l_law_rows ?cc_law_rows ?kk_law_rows ?a_law_odd ?l_law_odd ?cc_law_odd ?kk_law_odd ?a_law_code_words ?l_law_code_words ?cc_law_code_words ?kk_law_code_words ?a_law_values ?l_law_values ?cc_law_values ?kk_law_values ?a_law_image ?l_law_image ?cc_law_image ?kk_law_image ?a_law_home ?l_law_home ?cc_law_home ?kk_law_home ?a_law_address ?l_law_address ?cc_law_address ?kk_law_address ?a_law_access_right ?l_law_access_right ?cc_law_access_right ?kk_law_access_right ?a_law ?l_law ?cc_law ?kk_law ?z_abs ?z_enumerate ?z_int ?z_isinstance ?z_len ?z_list ?z_max ?z_min ?z_range ?z_repr ?z_tuple
    (case a_find_segment => k_is)
    (case l_find_segment => k_is)
    (case cc_find_segment => k_is)
    (case kk_find_segment => k_is)
    (case a_can_load => k_is)
    (case l_can_load => k_is)
    (case cc_can_load => k_is)
    (case kk_can_load => k_is)
    (case a_can_store => k_is)
    (case l_can_store => k_is)
    (case cc_can_store => k_is)
    (case kk_can_store => k_is)
    (case a_can_fetch => k_is)
    (case l_can_fetch => k_is)
    (case cc_can_fetch => k_is)
    (case kk_can_fetch => k_is)
    (case a_load_word => k_is)
    (case l_load_word => k_is)
    (case cc_load_word => k_is)
    (case kk_load_word => k_is)
    (case a_store_word => k_is)
    (case l_store_word => k_is)
    (case cc_store_word => k_is)
    (case kk_store_word => k_is)
    (case a_put_bytes => k_is)
    (case l_put_bytes => k_is)
    (case cc_put_bytes => k_is)
    (case kk_put_bytes => k_is)
    (case a_first_memory => k_is)
    (case l_first_memory => k_is)
    (case cc_first_memory => k_is)
    (case kk_first_memory => k_is)
    (case a_word_at => k_is)
    (case l_word_at => k_is)
    (case cc_word_at => k_is)
    (case kk_word_at => k_is)
    (case a_law_draw => k_is)
    (case l_law_draw => k_is)
    (case cc_law_draw => k_is)
    (case kk_law_draw => k_is)
    (case a_law_take => k_is)
    (case l_law_take => k_is)
    (case cc_law_take => k_is)
    (case kk_law_take => k_is)
    (case a_law_ops => k_is)
    (case l_law_ops => k_is)
    (case cc_law_ops => k_is)
    (case kk_law_ops => k_is)
    (case a_law_word => k_is)
    (case l_law_word => k_is)
    (case cc_law_word => k_is)
    (case kk_law_word => k_is)
    (case a_law_bytes => k_is)
    (case l_law_bytes => k_is)
    (case cc_law_bytes => k_is)
    (case kk_law_bytes => k_is)
    (case a_law_label => k_is)
    (case l_law_label => k_is)
    (case cc_law_label => k_is)
    (case kk_law_label => k_is)
    (case a_law_here => k_is)
    (case l_law_here => k_is)
    (case cc_law_here => k_is)
    (case kk_law_here => k_is)
    (case a_law_put_word => k_is)
    (case l_law_put_word => k_is)
    (case cc_law_put_word => k_is)
    (case kk_law_put_word => k_is)
    (case a_law_some => k_is)
    (case l_law_some => k_is)
    (case cc_law_some => k_is)
    (case kk_law_some => k_is)
    (case a_law_register => k_is)
    (case l_law_register => k_is)
    (case cc_law_register => k_is)
    (case kk_law_register => k_is)
    (case a_law_set => k_is)
    (case l_law_set => k_is)
    (case cc_law_set => k_is)
    (case kk_law_set => k_is)
    (case a_law_alu => k_is)
    (case l_law_alu => k_is)
    (case cc_law_alu => k_is)
    (case kk_law_alu => k_is)
    (case a_law_memory => k_is)
    (case l_law_memory => k_is)
    (case cc_law_memory => k_is)
    (case kk_law_memory => k_is)
    (case a_law_if => k_is)
    (case l_law_if => k_is)
    (case cc_law_if => k_is)
    (case kk_law_if => k_is)
    (case a_law_loop => k_is)
    (case l_law_loop => k_is)
    (case cc_law_loop => k_is)
    (case kk_law_loop => k_is)
    (case a_law_call => k_is)
    (case l_law_call => k_is)
    (case cc_law_call => k_is)
    (case kk_law_call => k_is)
    (case a_law_switch => k_is)
    (case l_law_switch => k_is)
    (case cc_law_switch => k_is)
    (case kk_law_switch => k_is)
    (case a_law_rows => k_is)
    (case l_law_rows => k_is)
    (case cc_law_rows => k_is)
    (case kk_law_rows => k_is)
    (case a_law_odd => k_is)
    (case l_law_odd => k_is)
    (case cc_law_odd => k_is)
    (case kk_law_odd => k_is)
    (case a_law_code_words => k_is)
    (case l_law_code_words => k_is)
    (case cc_law_code_words => k_is)
    (case kk_law_code_words => k_is)
    (case a_law_values => k_is)
    (case l_law_values => k_is)
    (case cc_law_values => k_is)
    (case kk_law_values => k_is)
    (case a_law_image => k_is)
    (case l_law_image => k_is)
    (case cc_law_image => k_is)
    (case kk_law_image => k_is)
    (case a_law_home => k_is)
    (case l_law_home => k_is)
    (case cc_law_home => k_is)
    (case kk_law_home => k_is)
    (case a_law_address => k_is)
    (case l_law_address => k_is)
    (case cc_law_address => k_is)
    (case kk_law_address => k_is)
    (case a_law_access_right => k_is)
    (case l_law_access_right => k_is)
    (case cc_law_access_right => k_is)
    (case kk_law_access_right => k_is)
    (case a_law => k_is)
    (case l_law => k_is)
    (case cc_law => k_is)
    (case kk_law => k_is)
    (case z_abs => k_is)
    (case z_enumerate => k_is)
    (case z_int => k_is)
    (case z_isinstance => k_is)
    (case z_len => k_is)
    (case z_list => k_is)
    (case z_max => k_is)
    (case z_min => k_is)
    (case z_range => k_is)
    (case z_repr => k_is)
    (case z_tuple => k_is)


